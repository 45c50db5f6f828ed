import PyProof.Rows.All
import Wide.All
import OpenK.AllK
import Wide.FinOn
import Lean
import PyProof.EqAt
import PyProof.EqKinds
import PyProof.TupleCall
import PyProof.NeKinds
import PyProof.CompFree
import PyProof.EnumMake
import KE.KTryMore
import PyProof.ExcArgsOwn
import PyProof.ZipIter
import PyProof.ListRange
import KE.KIsAll
import PyProof.InstStoreFacts
import PyProof.ExcInit
import PyProof.ReprRoads
import PyProof.CallStr
import KE.KEqDict
import PyProof.EqLayable
import PyProof.StrLawsRepr
import PySem.Challenge.RW_hostfields_k73_mixes_held_against_one_an
open List renaming length_map->zcu6,getElem?_eq_getElem->zcu7,getElem?_map->zcu9,mem_of_getElem?->zcv1,getD_eq_getElem?_getD->zcv2,getElem?_eq_some_iff->zcv3,size_toArray->zcv8,length_append->zcv9,mem_cons->zcw3,length_singleton->zcw7,length_cons->zcx0,all_eq_true->zcx1,not_mem_nil->zcx3,getElem?_eq_none->zcx4,map_congr_left->zcx5,mem_map->zcx6,map_append->zcx8,mem_append->zcy0,map_map->zcy1,map_cons->zcy2,length_range->zcy3,getElem?_append_left->zcy4,getElem?_append_right->zcy8,mem_append_right->zcz0,length_nil->zcz4,mem_cons_of_mem->zcz5,lookup_cons->zcz6,mem_singleton->zcz7,getElem?_range->zcz9,sum_cons->zda0,mem_range->zda2,replicate_succ->zda3,getElem?_set_self->zda5,length_drop->zda6,ext_getElem?->zda7,mem_cons_self->zda8,getElem?_set_ne->zda9,getElem?_of_mem->zdb0,find?_cons->zdb1,all_map->zdb3,eq_of_mem_replicate->zdb5,length_take->zdb6,flatten_cons->zdb8,take_of_length_le->zdb9,length_replicate->zdc1,getElem_mem->zdc2,filterMap_cons->zdc7,length_reverse->zdc8,filter_cons->zdd0,nodup_cons->zdd3,length_set->zdd4,ext_getElem->zdd7
open PySem.W renaming Frag->zcu8,kitOne->zcv5,nsIn->zcv6,mg_of->zcv7,keepIn->zcw0,codeIn->zcw1,fnOf->zcw4,subIn->zcw8,clsIn->zcy5,findIn->zcy7,mg_none_of->zcz1,typeIn->zcz2,kia_one->zda1,hideAll_get->zdc6,hasDictIn->zdd5
open PySem.Heap renaming get?_push_of_some->zcv0,lt_size->zcw6,get?_push_size->zcx2,get?_update_other->zcx7,get?_update_self->zcz8,size_push->zdd1
open Option renaming map_eq_some_iff->zcv4,isSome_iff_exists->zdb4
open Bool renaming false_ne_true->zcw2,and_eq_true->zcw5,true_and->zcy9,false_eq_true->zdc3,eq_iff_iff->zdd2,false_and->zdd6
open Nat renaming le_refl->zcw9,lt_of_lt_of_le->zcx9,ne_of_lt->zcy6,zero_le->zcz3,le_add_right->zda4,le_trans->zdb2,ne_of_gt->zdc0,lt_irrefl->zdc9
open Int renaming gcd_eq_natAbs_gcd_natAbs->zdb7,toNat_natCast->zdc4,mul_le_mul_of_nonneg_right->zdc5
set_option Elab.async false
set_option linter.all false
set_option maxRecDepth 100000
namespace L2
open PySem PySem.Spec PyProof.Rows
abbrev Key:=Sum Int Str
def zbj6:Key->Value->Bool
 | .inl k,v=>Value.isInt k v
 | .inr x,v=>Value.isStrOf x v
def keyH (w:World):Key->Int
 | .inl k=>hashInt k
 | .inr x=>hashStr w x
theorem zk8:∀ {k:Key}{v:Value},zbj6 k v=true->(∃ i t,k=Sum.inl i/\v=Value.int i t)∨(∃ x t,k=Sum.inr x/\v=Value.str x t)
 | .inl i,v,h=>by
  obtain⟨t,e⟩:=Value.isInt_shape (k:=i) (v:=v) h
  exact .inl ⟨i,t,rfl,e⟩
 | .inr x,v,h=>by
  obtain⟨t,e⟩:=Value.isStrOf_shape (x:=x) (v:=v) h
  exact .inr ⟨x,t,rfl,e⟩
theorem zbo7 (i:Int) (t:Tok):zbj6 (.inl i) (.int i t)=true:=by simp[zbj6,Value.isInt]
theorem zbx3 (x:Str) (t:Tok):zbj6 (.inr x) (.str x t)=true:=by simp[zbj6,Value.isStrOf]
theorem key_ll (a b:Int):decide ((Sum.inl a:Key)=Sum.inl b)=(a==b):=by
 by_cases e:a=b
 ·subst e;simp
 ·have h:¬ (Sum.inl a:Key)=Sum.inl b:=fun q=>e (Sum.inl.inj q)
  rw[decide_eq_false h]
  exact (beq_eq_false_iff_ne.mpr e).symm
theorem key_rr (a b:Str):decide ((Sum.inr a:Key)=Sum.inr b)=decide (a=b):=by
 by_cases e:a=b
 ·subst e;simp
 ·have h:¬ (Sum.inr a:Key)=Sum.inr b:=fun q=>e (Sum.inr.inj q)
  rw[decide_eq_false h,decide_eq_false e]
theorem key_lr (a:Int) (b:Str):decide ((Sum.inl a:Key)=Sum.inr b)=false:=decide_eq_false (fun q=>nomatch q)
theorem key_rl (a:Str) (b:Int):decide ((Sum.inr a:Key)=Sum.inl b)=false:=decide_eq_false (fun q=>nomatch q)
def zn9 (prog:Program) (w:World):PySem.KeyKind prog w Key where
 is:=zbj6
 hash:=keyH w
 inj:=fun v a b ha hb=>by
  rcases zk8 ha with ⟨i,t,rfl,rfl⟩|⟨x,t,rfl,rfl⟩
  ·rcases zk8 hb with ⟨j,u,rfl,e⟩|⟨y,u,rfl,e⟩
   ·injection e with e1 _;rw[e1]
   ·exact nomatch e
  ·rcases zk8 hb with ⟨j,u,rfl,e⟩|⟨y,u,rfl,e⟩
   ·exact nomatch e
   ·injection e with e1 _;rw[e1]
 byValue:=fun k v h=>by
  rcases zk8 h with ⟨i,t,rfl,rfl⟩|⟨x,t,rfl,rfl⟩<;>rfl
 pyHash:=fun hv h=>by
  rcases zk8 hv with ⟨i,t,rfl,rfl⟩|⟨x,t,rfl,rfl⟩
  ·exact wpAny_pyHash_int h
  ·exact wpAny_pyHash_str h
 eqBool:=fun hu hv h=>by
  rcases zk8 hu with ⟨i,t,rfl,rfl⟩|⟨x,t,rfl,rfl⟩
  ·rcases zk8 hv with ⟨j,u,rfl,rfl⟩|⟨y,u,rfl,rfl⟩
   ·rw[key_ll] at h;exact wpAny_eqBool_int h
   ·rw[key_lr] at h;exact SeqAt.EqAt.int_str i t y u _ _ _ _ h
  ·rcases zk8 hv with ⟨j,u,rfl,rfl⟩|⟨y,u,rfl,rfl⟩
   ·rw[key_rl] at h;exact SeqAt.EqAt.str_int x t j u _ _ _ _ h
   ·rw[key_rr] at h;exact wpAny_eqBool_str h
 «strs»:=fun k x t v h=>by
  rcases zk8 h with ⟨i,u,rfl,e⟩|⟨y,u,rfl,e⟩
  ·exact nomatch e
  ·injection e with e1 _
   subst e1
   cases v<;>rfl
theorem zbc4 (prog:Program) (w:World) (i:Int) (t:Tok):(zn9 prog w).is (.inl i) (.int i t)=true:=zbo7 i t
theorem zba4 (prog:Program) (w:World) (x:Str) (t:Tok):(zn9 prog w).is (.inr x) (.str x t)=true:=zbx3 x t
end L2
namespace L2
open PySem PySem.Spec PyProof.Rows
inductive V where
 | non | bl (b:Bool) | int (i:Int) | str (x:Str) | byt (b:Array UInt8) | flt (b:UInt64) | ref (a:Addr) | ty (n:String)
 deriving DecidableEq
def RelV:V->Value->Prop
 | .non,u=>u=Value.none
 | .bl b,u=>u=Value.bool b
 | .int i,u=>∃ t,u=Value.int i t
 | .str x,u=>∃ t,u=Value.str x t
 | .byt b,u=>∃ t,u=Value.bytes b t
 | .flt b,u=>∃ t,u=Value.float b t
 | .ref a,u=>u=Value.ref a
 | .ty n,u=>u=Value.type n
abbrev Vals:List V->List Value->Prop:=Paired RelV
theorem Vals.length {xs:List V}{us:List Value}(r:Vals xs us):xs.length=us.length:=Paired.length r
theorem Vals.get:∀ {xs:List V}{us:List Value}{i:Nat}{x:V},Vals xs us->xs[i]?=some x->∃ u,us[i]?=some u/\RelV x u
 | _,_,_,_,.nil,e=>by simp at e
 | _,_,0,_,.cons r _,e=>by simp at e;subst e;exact⟨_,rfl,r⟩
 | _,_,i+1,x,.cons _ t,e=>by
  obtain⟨u,h1,h2⟩:=Vals.get (i:=i) (x:=x) t (by simpa using e)
  exact⟨u,by simpa using h1,h2⟩
theorem Vals.set {x:V}{u:Value}(r:RelV x u):∀ {xs:List V}{us:List Value}(i:Nat),Vals xs us->Vals (xs.set i x) (us.set i u)
 | _,_,_,.nil=>.nil
 | _,_,0,.cons _ t=>.cons r t
 | _,_,i+1,.cons q t=>.cons q (Vals.set r i t)
theorem Vals.append:∀ {xs ys:List V}{us ws:List Value},Vals xs us->Vals ys ws->Vals (xs++ys) (us++ws)
 | _,_,_,_,.nil,s=>s
 | _,_,_,_,.cons r t,s=>.cons r (Vals.append t s)
theorem Vals.take:∀ {xs:List V}{us:List Value}(n:Nat),Vals xs us->Vals (xs.take n) (us.take n)
 | _,_,0,_=>.nil
 | _,_,_+1,.nil=>.nil
 | _,_,n+1,.cons r t=>.cons r (Vals.take n t)
theorem Vals.drop:∀ {xs:List V}{us:List Value}(n:Nat),Vals xs us->Vals (xs.drop n) (us.drop n)
 | _,_,0,r=>r
 | _,_,_+1,.nil=>.nil
 | _,_,n+1,.cons _ t=>Vals.drop n t
def RelO:Option V->Option Value->Prop
 | some v,some u=>RelV v u
 | none,none=>True
 | _,_=>False
def KV {κ:Type}:List (κ×V)->List (κ×Value)->Prop:=Paired fun (p:κ×V) (q:κ×Value)=>p.1=q.1/\RelV p.2 q.2
def kV:Key->V
 | .inl i=>.int i
 | .inr x=>.str x
inductive HO where
 | lst (xs:List V)
 | tup (xs:List V)
 | dK (kvs:List (Key×V)) | dT (kvs:List (List Key×V))
 | set (S:Int->Bool) (n:Nat)
 | ins (C dx:Addr) (fs:List (Str×V))
 | own (x:Addr)
 | xd (fs:List (Str×V))
 | met (f x:Addr)
 | rng (lo hi:Int)
 | frz (o:Obj) (u:HO)
 | tbl (ps:Array Value)
 | ext (φ:Heap->Prop)
abbrev Hp:=Addr->Option HO
def upd (H:Hp) (a:Addr) (o:HO):Hp:=fun b=>if b=a then some o else H b
theorem zc7 {H:Hp}{a:Addr}{o:HO}:upd H a o a=some o:=by unfold upd;rw[if_pos rfl]
theorem zc3 {H:Hp}{a b:Addr}{o:HO}(h:b≠a):upd H a o b=H b:=by unfold upd;rw[if_neg h]
theorem ne_of {H:Hp}{a b:Addr}{o u:HO}(h:H a=some o) (h':H b=some u) (d:o≠u):a≠b:=by
 intro e;subst e;rw[h] at h';exact d (Option.some.inj h')
theorem za5 {H:Hp}{a b:Addr}{o:HO}(h:H a=some o) (h':H b=none):a≠b:=by
 intro e;subst e;rw[h] at h';cases h'
section
variable (P:Program) (w:World)
def zk0 (H:Hp) (h:Heap) (a:Addr):HO->Prop
 | .lst xs=>xs.length<=sizeLine/\∃ (its:List Value) (n:Nat),Vals xs its/\h.get? a=some { cls:=.type "list",data:=.seq its.toArray n }
 | .tup xs=>xs.length<=sizeLine/\∃ its:List Value,Vals xs its/\IsTup h a its.toArray
 | .dK kvs=>kvs.length<=sizeLine/\(a==sysModules)=false/\∃ vs,KV kvs vs/\h.DictOf (zn9 P w) a vs
 | .dT kvs=>kvs.length<=sizeLine/\(a==sysModules)=false/\∃ xs:List (List Key×Addr×Value),
   Paired (fun (p:List Key×V) (q:List Key×Addr×Value)=>p.1=q.1/\H q.2.1=some (.tup (p.1.map kV))/\RelV p.2 q.2.2) kvs xs /\
   ∃ o es ep,h.get? a=some o/\o.ExactDict/\o.data=.dict es ep/\es.toList=xs.map (entryOfKey (tupleKind (zn9 P w)))/\(xs.map (·.1)).Nodup
 | .set S n=>h.SetOf (intKind P w) a S n
 | .ins C dx fs=>H dx=some (.own a)/\fs.length<=1000/\dx≠a/\h.get? a=some (PySem.W.instObj C dx) /\
   ∃ mA,h.Ns1 dx mA/\(∀ f,RelO (fs.lookup f) (mA f))/\PySem.Within mA (fs.map (·.1))
 | .own _=>∃ o,h.get? a=some o
 | .xd fs=>∃ mA,h.Ns1 a mA/\∀ f,RelO (fs.lookup f) (mA f)
 | .rng lo hi=>∃ t u v,h.get? a=some { cls:=.type "range",data:=.fields #[.int lo t,.int hi u,.int 1 v] }
 | .frz o u=>h.get? a=some o/\zk0 H h a u
 | .tbl ps=>h.get? a=some { cls:=.none,data:=.fields ps }
 | .met f x=>h.get? a=some (PySem.W.methodObj (.ref f) (.ref x))
 | .ext φ=>φ h/\(∃ o,h.get? a=some o)/\∀ h1 h2:Heap,φ h1->(∀ o,h1.get? a=some o->h2.get? a=some o)->φ h2
def HOk (H:Hp) (h:Heap):Prop:=∀ a o,H a=some o->zk0 P w H h a o
end
section
variable {P:Program}{w:World}{H H':Hp}{h h':Heap}{a:Addr}{o:HO}
theorem zk0.lt (x:zk0 P w H h a o):a<h.objs.size:=by
 cases o with
 | lst xs=>obtain⟨_,_,_,_,e⟩:=x;exact zcw6 e
 | tup xs=>obtain⟨_,_,_,p⟩:=x;exact p.lt
 | dK kvs=>obtain⟨_,_,_,_,o,_,_,e,_⟩:=x;exact zcw6 e
 | dT kvs=>obtain⟨_,_,_,_,o,_,_,e,_⟩:=x;exact zcw6 e
 | set S n=>obtain⟨o,_,_,_,e,_⟩:=x;exact zcw6 e
 | ins C dx fs=>obtain⟨_,_,_,e,_⟩:=x;exact zcw6 e
 | own y=>obtain⟨_,e⟩:=x;exact zcw6 e
 | xd fs=>obtain⟨_,⟨_,_,_,e,_⟩,_⟩:=x;exact zcw6 e
 | rng lo hi=>obtain⟨_,_,_,e⟩:=x;exact zcw6 e
 | frz ob u=>obtain⟨e,_⟩:=x;exact zcw6 e
 | tbl ps=>exact zcw6 (show h.get? a=some _ from x)
 | met f y=>exact zcw6 (show h.get? a=some _ from x)
 | ext φ=>obtain⟨_,⟨_,e⟩,_⟩:=x;exact zcw6 e
theorem Paired.mapP {α β:Type}{F G:α->β->Prop}:∀ {l₁:List α}{l₂:List β},Paired F l₁ l₂->(∀ a b,F a b->G a b)->Paired G l₁ l₂
 | _,_,.nil,_=>.nil
 | _,_,.cons r t,f=>.cons (f _ _ r) (Paired.mapP t f)
theorem zk0.stay (x:zk0 P w H h a o) (k:∀ b u,(b=a∨H b=some (.own a))->h.get? b=some u->h'.get? b=some u)
  (ho:∀ b,H b=some (.own a)->H' b=some (.own a)) (ht:∀ b xs,H b=some (.tup xs)->H' b=some (.tup xs)):zk0 P w H' h' a o:=by
 induction o with
 | lst xs=>obtain⟨z,its,n,r,e⟩:=x;exact⟨z,its,n,r,k _ _ (.inl rfl) e⟩
 | tup xs=>obtain⟨z,its,r,ob,e,c⟩:=x;exact⟨z,its,r,ob,k _ _ (.inl rfl) e,c⟩
 | dK kvs=>obtain⟨z,y,vs,r,ob,es,ep,e,c⟩:=x;exact⟨z,y,vs,r,ob,es,ep,k _ _ (.inl rfl) e,c⟩
 | dT kvs=>
  obtain⟨z,y,xs,r,ob,es,ep,e,c⟩:=x
  exact⟨z,y,xs,Paired.mapP r fun p q z=>⟨z.1,ht _ _ z.2.1,z.2.2⟩,ob,es,ep,k _ _ (.inl rfl) e,c⟩
 | set S n=>obtain⟨ob,es,ep,t,e,c⟩:=x;exact⟨ob,es,ep,t,k _ _ (.inl rfl) e,c⟩
 | ins C dx fs=>
  obtain⟨d,z,ne,e,mA,⟨od,es,ep,e2,c⟩,r⟩:=x
  exact⟨ho _ d,z,ne,k _ _ (.inl rfl) e,mA,⟨od,es,ep,k _ _ (.inr d) e2,c⟩,r⟩
 | own y=>obtain⟨ob,e⟩:=x;exact⟨ob,k _ _ (.inl rfl) e⟩
 | xd fs=>obtain⟨mA,⟨od,es,ep,e,c⟩,r⟩:=x;exact⟨mA,⟨od,es,ep,k _ _ (.inl rfl) e,c⟩,r⟩
 | rng lo hi=>obtain⟨t,u,v,e⟩:=x;exact⟨t,u,v,k _ _ (.inl rfl) e⟩
 | frz ob u ih=>obtain⟨e,q⟩:=x;exact⟨k _ _ (.inl rfl) e,ih q⟩
 | tbl ps=>
  have e:h.get? a=some { cls:=.none,data:=.fields ps }:=x
  show h'.get? a=some { cls:=.none,data:=.fields ps }
  exact k a _ (.inl rfl) e
 | met f y=>
  have e:h.get? a=some (PySem.W.methodObj (.ref f) (.ref y)):=x
  show h'.get? a=some (PySem.W.methodObj (.ref f) (.ref y))
  exact k a _ (.inl rfl) e
 | ext φ=>obtain⟨p,⟨o,e⟩,st⟩:=x;exact⟨st _ _ p fun o q=>k _ _ (.inl rfl) q,⟨o,k _ _ (.inl rfl) e⟩,st⟩
theorem HOk.lt (x:HOk P w H h) (e:H a=some o):a<h.objs.size:=(x a o e).lt
theorem HOk.fresh (x:HOk P w H h) (e:h.objs.size<=a):H a=none:=by
 cases q:H a with
 | none=>rfl
 | some u=>exact absurd (zcx9 (x.lt q) e) (zdc9 _)
theorem HOk.kept (x:HOk P w H h) (k:∀ b u,h.get? b=some u->h'.get? b=some u):HOk P w H h':=fun a o e=>
 (x a o e).stay (fun b u _ q=>k b u q) (fun _ q=>q) fun _ _ q=>q
theorem HOk.laid (x:HOk P w H h) (k:∀ b u,h.get? b=some u->h'.get? b=some u) (hp:h.objs.size<=a) (new:zk0 P w (upd H a o) h' a o):HOk P w (upd H a o) h':=fun b u e=>by
 have hn:=x.fresh hp
 by_cases hb:b=a
 ·subst hb;rw[zc7] at e;cases e;exact new
 ·rw[zc3 hb] at e
  exact (x b u e).stay (fun c v _ q=>k c v q) (fun c q=>by rw[zc3 (za5 q hn)];exact q) fun c xs q=>by rw[zc3 (za5 q hn)];exact q
end
def Rd (H:Hp) (a:Addr) (u:HO):Prop:=H a=some u∨∃ o,H a=some (.frz o u)
theorem Rd.of {H:Hp}{a:Addr}{u:HO}(h:H a=some u):Rd H a u:=.inl h
theorem Rd.ok {P:Program}{w:World}{H:Hp}{h:Heap}{a:Addr}{u:HO}(r:Rd H a u) (x:HOk P w H h):zk0 P w H h a u:=by
 rcases r with r|⟨o,r⟩
 ·exact x a u r
 ·obtain⟨_,q⟩:=x a _ r
  exact q
def Mut:Option HO->Prop
 | some (.lst _)=>True
 | some (.dK _)=>True
 | some (.dT _)=>True
 | some (.set _ _)=>True
 | some (.ins _ _ _)=>True
 | some (.ext _)=>True
 | _=>False
section
variable {P:Program}{w:World}{H:Hp}{h h':Heap}{x e:Addr}{o':HO}
theorem HOk.write (ok:HOk P w H h) (mu:Mut (H x)) (he:e=x∨H e=some (.own x)) (k:∀ b u,b≠e->h.get? b=some u->h'.get? b=some u) (heo:∃ u,h'.get? e=some u)
  (new:zk0 P w (upd H x o') h' x o'):HOk P w (upd H x o') h':=fun b u q=>by
 have nown:∀ c y,H c=some (.own y)->c≠x:=fun c y r z=>by subst z;rw[r] at mu;exact mu
 have ntup:∀ c xs,H c=some (.tup xs)->c≠x:=fun c xs r z=>by subst z;rw[r] at mu;exact mu
 by_cases hb:b=x
 ·subst hb;rw[zc7] at q;cases q;exact new
 ·rw[zc3 hb] at q
  by_cases hbe:b=e
  ·have q':H b=some (.own x):=by
    rcases he with z|z
    ·exact absurd (hbe.trans z) hb
    ·rw[hbe];exact z
   rw[q] at q';cases q'
   obtain⟨v,hv⟩:=heo
   exact⟨v,by rw[hbe];exact hv⟩
  ·refine (ok b u q).stay (fun c v hc r=>k c v ?_ r) (fun c r=>by rw[zc3 (nown c b r)];exact r) fun c xs r=>by rw[zc3 (ntup c xs r)];exact r
   rcases hc with rfl|hc
   ·exact hbe
   ·rintro rfl
    rcases he with z|z
    ·exact nown c b hc z
    ·rw[hc] at z;cases z;exact hb rfl
end
structure Un (fs ex:List Addr) (H H':Hp) (h h':Heap):Prop where
 keep:∀ b o,h.get? b=some o->H b=none->b ∉ fs->b ∉ ex->h'.get? b=some o
 slot:∀ b o,h.get? b=some o->H b=none->b∈fs->b ∉ ex->∃ sl,h'.get? b=some { o with slots:=sl }
 free:∀ b o,h.get? b=some o->H b=none->b ∉ ex->H' b=none
 there:∀ b o,h.get? b=some o->b ∉ ex->∃ o',h'.get? b=some o'
 tups:∀ b xs,H b=some (.tup xs)->H' b=some (.tup xs)
 frzs:∀ b o u,H b=some (.frz o u)->H' b=some (.frz o u)
 tbls:∀ b ps,H b=some (.tbl ps)->∃ more,H' b=some (.tbl (ps++more))
section
variable {fs fs' ex ex':List Addr}{H H1 H2:Hp}{h h1 h2 h':Heap}{a x e:Addr}{o:HO}
theorem Un.any (u:Un fs ex H H1 h h1) {b:Addr}{ob:Obj}(q:h.get? b=some ob) (n:H b=none) (hx:b ∉ ex):∃ sl,h1.get? b=some { ob with slots:=sl }:=by
 by_cases hb:b∈fs
 ·exact u.slot b ob q n hb hx
 ·exact⟨ob.slots,u.keep b ob q n hb hx⟩
theorem Un.trans (a:Un fs ex H H1 h h1) (b:Un fs ex H1 H2 h1 h2):Un fs ex H H2 h h2 where
 keep:=fun c ob q n hc hx=>b.keep c ob (a.keep c ob q n hc hx) (a.free c ob q n hx) hc hx
 slot:=fun c ob q n hc hx=>by
  obtain⟨sl,e1⟩:=a.slot c ob q n hc hx
  obtain⟨sl',e2⟩:=b.slot c _ e1 (a.free c ob q n hx) hc hx
  exact⟨sl',e2⟩
 free:=fun c ob q n hx=>by
  obtain⟨o',e1⟩:=a.there c ob q hx
  exact b.free c o' e1 (a.free c ob q n hx) hx
 there:=fun c ob q hx=>by
  obtain⟨o',e1⟩:=a.there c ob q hx
  exact b.there c o' e1 hx
 tups:=fun c xs q=>b.tups c xs (a.tups c xs q)
 frzs:=fun c ob xs q=>b.frzs c ob xs (a.frzs c ob xs q)
 tbls:=fun c ps q=>by
  obtain⟨m1,e1⟩:=a.tbls c ps q
  obtain⟨m2,e2⟩:=b.tbls c _ e1
  exact⟨m1++m2,by rw[e2,Array.append_assoc]⟩
theorem Un.kept (k:∀ b u,h.get? b=some u->h'.get? b=some u):Un fs ex H H h h':=
 ⟨fun b ob q _ _ _=>k b ob q,fun b ob q _ _ _=>⟨ob.slots,k b ob q⟩,fun _ _ _ n _=>n,fun b ob q _=>⟨ob,k b ob q⟩,fun _ _ q=>q,fun _ _ _ q=>q,fun _ ps q=>⟨#[],by rw[q];simp⟩⟩
theorem Un.refl:Un fs ex H H h h:=Un.kept fun _ _ q=>q
theorem Un.laid (k:∀ b u,h.get? b=some u->h'.get? b=some u) (hp:h.objs.size<=a) (hn:H a=none):Un fs ex H (upd H a o) h h' where
 keep:=fun b u q _ _ _=>k b u q
 slot:=fun b u q _ _ _=>⟨u.slots,k b u q⟩
 free:=fun b u q n _=>by rw[zc3 (zcy6 (zcx9 (zcw6 q) hp))];exact n
 there:=fun b u q _=>⟨u,k b u q⟩
 tups:=fun b xs q=>by rw[zc3 (za5 q hn)];exact q
 frzs:=fun b u xs q=>by rw[zc3 (za5 q hn)];exact q
 tbls:=fun b ps q=>⟨#[],by rw[zc3 (za5 q hn),q];simp⟩
theorem Un.write (mu:Mut (H x)) (he:e=x∨H e=some (.own x)) (k:∀ b u,b≠e->h.get? b=some u->h'.get? b=some u) (heo:∃ u,h'.get? e=some u):Un fs ex H (upd H x o) h h':=by
 have hx:∀ b,H b=none->b≠x:=fun b n z=>by subst z;rw[n] at mu;exact mu
 have hb:∀ b,H b=none->b≠e:=fun b n z=>by
  subst z
  rcases he with r|r
  ·exact hx b n r
  ·rw[n] at r;cases r
 have hm:∀ b u,H b=some u->¬ Mut (some u)->b≠x:=fun b u q nm z=>by subst z;rw[q] at mu;exact nm mu
 refine⟨fun b u q n _ _=>k b u (hb b n) q,fun b u q n _ _=>⟨u.slots,k b u (hb b n) q⟩,fun b u q n _=>by rw[zc3 (hx b n)];exact n,fun b u q _=>?_,
  fun b xs q=>by rw[zc3 (hm b _ q fun z=>z)];exact q,fun b u xs q=>by rw[zc3 (hm b _ q fun z=>z)];exact q,fun b ps q=>⟨#[],by rw[zc3 (hm b _ q fun z=>z),q];simp⟩⟩
 by_cases hbe:b=e
 ·subst hbe;exact heo
 ·exact⟨u,k b u hbe q⟩
end
def trk (h:Heap) (H:Hp):List Addr:=(List.range h.objs.size).filter fun a=>(H a).isSome
def hidT (h:Heap) (H:Hp):Heap:=PySem.W.hideAll h (trk h H)
theorem zbx4 (h:Heap) (H:Hp):(hidT h H).objs.size=h.objs.size:=PySem.W.hideAll_size _ _
theorem zcc4 {h:Heap}{H:Hp}{b:Addr}{o:Obj}(e:h.get? b=some o) (n:H b=none):(hidT h H).get? b=some o:=
 zdc6 _ e fun hm=>by
  have q:(H b).isSome=true:=(List.mem_filter.mp hm).2
  rw[n] at q;simp at q
theorem zcg1 {h:Heap}{H:Hp}{b:Addr}{o:Obj}(e:(hidT h H).get? b=some o):h.get? b=some o/\H b=none:=by
 have e':h.get? b=some o:=PySem.W.of_hideAll (trk h H) e
 refine⟨e',?_⟩
 cases q:H b with
 | none=>rfl
 | some x=>
  have hm:b∈trk h H:=List.mem_filter.mpr ⟨zda2.mpr (zcw6 e'),by simp[q]⟩
  have z:(hidT h H).get? b=none:=PySem.W.hideAll_none (trk h H) hm
  rw[z] at e;cases e
def zch1 (g h:Heap) (L:Addr):List (Addr×Obj):=(List.range h.objs.size).filterMap fun a=>if a=L∨(g.get? a).isSome=true then none else (h.get? a).map fun o=>(a,o)
def rest (g h:Heap) (L d:Addr):List (Addr×Obj):=(zch1 g h L).filter fun p=>decide (p.1≠d)
end L2
namespace L2
open PySem PySem.Spec PyProof.Rows
structure Mod (K:zcu8) (mg:Str->Option Value) (base:Heap):Prop where
 kin:K.In base
 glob:base.Ns mainGlobals mg
 blt:∃ mb,base.Ns builtinsNs mb/\∀ x:Str,x≠"__name__"->mb x=bootBuiltins x
 nolimit:base.NoLimit
structure Cx where
 prog:Program
 w:World
 K:zcu8
 mg:Str->Option Value
 base:Heap
 A:Around
 N:List Str
 s₀:Shared
 H₀:Hp
 env:Env
 outer:List Env
 stack:List Env
 ex:List Addr
 fn:Str->Bool
 calm:Bool
 pn:List (Addr×Obj)
 xe:Value->Shared->Prop
def frs (l:List Env):List Addr:=l.filterMap (·.frame)
abbrev Cx.fs (X:Cx):List Addr:=frs X.outer
def Vis (sc:Scope) (x:Str):Prop:=sc.names.lookup x=some .local∨sc.names.lookup x=some .cell∨sc.names.lookup x=some .free
def Loc (sc:Scope) (x:Str):Prop:=sc.names.lookup x=some .local∨sc.names.lookup x=some .cell
def Look (env:Env) (h:Heap) (m:Str->Option Value) (x:Str) (u:Value):Prop:=
 (env.kindOf x=some .local/\m x=some u)∨((env.kindOf x=some .cell∨env.kindOf x=some .free)/\∃ c,env.cells.lookup x=some c/\h.IsCell c (some u))
structure Cx.Ok (X:Cx):Prop where
 mod:Mod X.K X.mg X.base
 kind:X.env.scope.kind=.function
 glob:X.env.globals=mainGlobals
 blt:X.env.builtins=builtinsNs
 above:X.s₀.heap.objs.size<=X.env.locals
 inj:∀ x y c,X.env.cells.lookup x=some c->X.env.cells.lookup y=some c->x=y
 has:∀ x,(X.env.kindOf x=some .cell∨X.env.kindOf x=some .free)->∃ c,X.env.cells.lookup x=some c
 cab:∀ x c,X.fn x=true->X.env.cells.lookup x=some c->X.s₀.heap.objs.size<=c
 hd:X.calm=true->X.A.handled=none
 frames:X.A.frames=some X.stack
 stk:X.stack=X.outer∨(X.stack=X.env :: X.outer/\X.env.frame=some X.env.locals)
 exf:∀ b∈X.ex,b≠X.env.locals/\∀ x c,X.env.cells.lookup x=some c->c≠b
 bs:∀ b o,X.base.get? b=some o->X.s₀.heap.get? b=some o/\X.H₀ b=none
 bsz:X.base.objs.size<=X.s₀.heap.objs.size
 noex:∀ b o,X.base.get? b=some o->b ∉ X.ex
 exfs:∀ b∈X.ex,b ∉ X.fs
 funs:X.s₀.heap.FunFrames X.base X.outer
 frf:∀ b∈X.fs,X.H₀ b=none
structure Inv (X:Cx) (pins:List (Addr×Obj)) (σ:List (Option V)) (H:Hp) (s:Shared):Prop where
 ok:X.Ok
 os:s.os=X.s₀.os
 bare:AllBare s.gens
 base:Un X.fs X.ex X.H₀ H X.s₀.heap s.heap
 loc:∃ m,s.heap.Ns X.env.locals m/\∀ (i:Nat) (x:Str) (v:V),X.N[i]?=some x->σ[i]?=some (some v)->Vis X.env.scope x->∃ u,RelV v u/\Look X.env s.heap m x u
 cell:∀ x c,X.env.cells.lookup x=some c->∃ v,s.heap.IsCell c v
 free:H X.env.locals=none
 freeC:∀ x c,X.env.cells.lookup x=some c->H c=none
 pin:∀ p∈X.pn++pins,s.heap.get? p.1=some p.2/\H p.1=none/\p.1≠X.env.locals/\p.1 ∉ X.fs/\∀ v,p.2.data≠.cell v
 hok:HOk X.prog X.w H s.heap
 len:σ.length=X.N.length
section
variable {X:Cx}{pins:List (Addr×Obj)}{σ:List (Option V)}{H H':Hp}{s:Shared}{h':Heap}
theorem Cx.Ok.nofr (ok:X.Ok) {b:Addr}{o:Obj}(e:X.base.get? b=some o):b ∉ X.fs:=fun hb=>by
 have:=(ok.funs.mem hb).1
 rw[e] at this;cases this
theorem Inv.bs (I:Inv X pins σ H s):∀ b o,X.base.get? b=some o->s.heap.get? b=some o/\H b=none:=fun b o e=>
 ⟨I.base.keep b o (I.ok.bs b o e).1 (I.ok.bs b o e).2 (I.ok.nofr e) (I.ok.noex b o e),I.base.free b o (I.ok.bs b o e).1 (I.ok.bs b o e).2 (I.ok.noex b o e)⟩
theorem Inv.bk (I:Inv X pins σ H s):∀ b o,X.base.get? b=some o->s.heap.get? b=some o:=fun b o e=>(I.bs b o e).1
theorem Inv.mod (I:Inv X pins σ H s):Mod X.K X.mg X.base:=I.ok.mod
theorem Inv.kIn (I:Inv X pins σ H s):X.K.In s.heap:=I.ok.mod.kin.keeps I.bk
theorem Inv.lt (I:Inv X pins σ H s):X.env.locals<s.heap.objs.size:=let ⟨_,hn,_⟩:=I.loc;hn.lt
theorem Inv.sz (I:Inv X pins σ H s):X.s₀.heap.objs.size<=s.heap.objs.size:=zdb2 I.ok.above (Nat.le_of_lt I.lt)
theorem Inv.nofs (I:Inv X pins σ H s) {a:Addr}(h:s.heap.objs.size<=a):a ∉ X.fs:=fun hb=>by
 obtain⟨_,o,ho,_⟩:=I.ok.funs.mem hb
 exact absurd (zcx9 (zcw6 ho) (zdb2 I.sz h)) (zdc9 _)
theorem Inv.cne (I:Inv X pins σ H s):∀ x c,X.env.cells.lookup x=some c->c≠X.env.locals:=fun x c e z=>by
 obtain⟨v,o,ho,hd⟩:=I.cell x c e
 obtain⟨m,⟨o',es,ep,ho',hd',_⟩,_⟩:=I.loc
 rw[z,ho'] at ho;cases ho;rw[hd'] at hd;cases hd
theorem Inv.funs (I:Inv X pins σ H s):s.heap.FunFrames X.base X.outer:=by
 have all:∀ (l:List Env),(∀ b∈frs l,b∈X.fs)->X.s₀.heap.FunFrames X.base l->s.heap.FunFrames X.base l:=by
  intro l
  induction l with
  | nil=>intro _ _;trivial
  | cons env r ih=>
   intro hs hl
   obtain⟨hk,⟨L,o,hf,hn,ho,hd⟩,hr⟩:=hl
   have hL:L∈X.fs:=hs L (by unfold frs;rw[zdc7,hf];exact zda8)
   obtain⟨sl,e⟩:=I.base.slot L o ho (I.ok.frf L hL) hL fun z=>I.ok.exfs L z hL
   exact⟨hk,⟨L,_,hf,hn,e,hd⟩,ih (fun b hb=>hs b (by unfold frs;rw[zdc7,hf];exact zcz5 _ hb)) hr⟩
 exact all X.outer (fun _ hb=>hb) I.ok.funs
theorem Inv.stack (I:Inv X pins σ H s):s.heap.FunFrames X.base X.stack:=by
 rcases I.ok.stk with e|⟨e,hf⟩
 ·rw[e];exact I.funs
 ·rw[e]
  obtain⟨m,hn,_⟩:=I.loc
  refine .cons (by rw[I.ok.kind];decide) hf hn ?_ I.funs
  exact Heap.get?_none_of_le (zdb2 I.ok.bsz I.ok.above)
theorem Inv.stkSub (I:Inv X pins σ H s):∀ b∈frs X.stack,b∈X.env.locals :: X.fs:=fun b hb=>by
 rcases I.ok.stk with e|⟨e,hf⟩
 ·rw[e] at hb;exact zcz5 _ hb
 ·rw[e] at hb
  unfold frs at hb
  rw[zdc7,hf] at hb
  exact hb
theorem Inv.stkFree (I:Inv X pins σ H s):∀ b∈frs X.stack,H b=none:=fun b hb=>by
 rcases zcw3.mp (I.stkSub b hb) with e|hb
 ·rw[e];exact I.free
 ·obtain⟨_,o,ho,_⟩:=I.ok.funs.mem hb
  exact I.base.free b o ho (I.ok.frf b hb) fun z=>I.ok.exfs b z hb
theorem Inv.step {g':Array GenState}{t':Nat}{d':Drawn}{ch:List Addr}(I:Inv X pins σ H s)
  (hch:∀ b∈ch,(b∈X.ex∨X.s₀.heap.objs.size<=b)/\b≠X.env.locals/\(∀ x c,X.env.cells.lookup x=some c->c≠b)/\∀ p∈X.pn++pins,p.1≠b)
  (keep:∀ b o,b≠X.env.locals->b ∉ X.fs->b ∉ ch->s.heap.get? b=some o->H b=none->h'.get? b=some o)
  (slot:∀ b o,b≠X.env.locals->b∈X.fs->b ∉ ch->s.heap.get? b=some o->H b=none->∃ sl,h'.get? b=some { o with slots:=sl }) (free:∀ b o,b ∉ ch->s.heap.get? b=some o->H b=none->H' b=none)
  (there:∀ b o,b ∉ ch->s.heap.get? b=some o->∃ o',h'.get? b=some o')
  (tups:∀ b xs,H b=some (.tup xs)->H' b=some (.tup xs)) (frzs:∀ b o u,H b=some (.frz o u)->H' b=some (.frz o u)) (tbls:∀ b ps,H b=some (.tbl ps)->∃ more,H' b=some (.tbl (ps++more)))
  (ns:∀ m,s.heap.Ns X.env.locals m->h'.Ns X.env.locals m) (hok:HOk X.prog X.w H' h') (hg:AllBare g') :
  Inv X pins σ H' { s with heap:=h',gens:=g',drawn:=d',toks:=t' }:=by
 have neL:∀ b o,X.s₀.heap.get? b=some o->b≠X.env.locals:=fun b o e=>zcy6 (zcx9 (zcw6 e) I.ok.above)
 have neC:∀ b o,X.s₀.heap.get? b=some o->b ∉ X.ex->b ∉ ch:=fun b o e hx hb=>by
  rcases (hch b hb).1 with z|z
  ·exact hx z
  ·exact absurd (zcx9 (zcw6 e) z) (zdc9 _)
 have cellK:∀ x c,X.env.cells.lookup x=some c->∀ v,s.heap.IsCell c v->h'.IsCell c v:=fun x c e v ⟨o,ho,hd⟩=>by
  have nch:c ∉ ch:=fun z=>(hch c z).2.2.1 x c e rfl
  by_cases hc:c∈X.fs
  ·obtain⟨sl,q⟩:=slot c o (I.cne x c e) hc nch ho (I.freeC x c e)
   exact⟨_,q,hd⟩
  ·exact⟨o,keep c o (I.cne x c e) hc nch ho (I.freeC x c e),hd⟩
 refine⟨I.ok,I.os,hg,⟨fun b o e n hb hx=>?_,fun b o e n hb hx=>?_,fun b o e n hx=>?_,fun b o e hx=>?_,fun b xs e=>tups b xs (I.base.tups b xs e),fun b o xs e=>frzs b o xs (I.base.frzs b o xs e),fun b ps e=>?_⟩,?_,fun x c e=>?_,?_,fun x c e=>?_,fun p hp=>?_,hok,I.len⟩
 ·exact keep b o (neL b o e) hb (neC b o e hx) (I.base.keep b o e n hb hx) (I.base.free b o e n hx)
 ·obtain⟨sl,e1⟩:=I.base.slot b o e n hb hx
  obtain⟨sl',e2⟩:=slot b _ (neL b o e) hb (neC b o e hx) e1 (I.base.free b o e n hx)
  exact⟨sl',e2⟩
 ·obtain⟨o',e1⟩:=I.base.there b o e hx
  exact free b o' (neC b o e hx) e1 (I.base.free b o e n hx)
 ·obtain⟨o',e1⟩:=I.base.there b o e hx
  exact there b o' (neC b o e hx) e1
 ·obtain⟨m1,e1⟩:=I.base.tbls b ps e
  obtain⟨m2,e2⟩:=tbls b _ e1
  exact⟨m1++m2,by rw[e2,Array.append_assoc]⟩
 ·obtain⟨m,hn,hl⟩:=I.loc
  refine⟨m,ns m hn,fun i x v e1 e2 e3=>?_⟩
  obtain⟨u,r,l⟩:=hl i x v e1 e2 e3
  refine⟨u,r,?_⟩
  rcases l with l|⟨k,c,e,z⟩
  ·exact .inl l
  ·exact .inr ⟨k,c,e,cellK x c e _ z⟩
 ·obtain⟨v,z⟩:=I.cell x c e
  exact⟨v,cellK x c e v z⟩
 ·obtain⟨m,⟨o,_,_,ho,_⟩,_⟩:=I.loc
  exact free _ o (fun z=>(hch _ z).2.1 rfl) ho I.free
 ·obtain⟨v,o,ho,hd⟩:=I.cell x c e
  exact free c o (fun z=>(hch c z).2.2.1 x c e rfl) ho (I.freeC x c e)
 ·obtain⟨e,n,ne,nf,d⟩:=I.pin p hp
  have nch:p.1 ∉ ch:=fun z=>(hch p.1 z).2.2.2 p hp rfl
  exact⟨keep p.1 p.2 ne nf nch e n,free p.1 p.2 nch e n,ne,nf,d⟩
theorem Inv.un {t':Nat}(I:Inv X pins σ H s) (u:Un X.fs [] H H' s.heap h') (hok:HOk X.prog X.w H' h'):Inv X pins σ H' { s with heap:=h',toks:=t' }:=by
 obtain⟨m,⟨o,es,ep,ho,r⟩,_⟩:=id I.loc
 obtain⟨sl,hL⟩:=u.any ho I.free (by simp)
 exact I.step (g':=s.gens) (d':=s.drawn) (ch:=[]) (fun _ z=>nomatch z) (fun b o _ hb _ e n=>u.keep b o e n hb (by simp)) (fun b o _ hb _ e n=>u.slot b o e n hb (by simp)) (fun b o _ e n=>u.free b o e n (by simp)) (fun b o _ e=>u.there b o e (by simp)) u.tups u.frzs u.tbls (fun m' hm=>by
  obtain⟨o',es',ep',ho',r'⟩:=hm
  rw[ho] at ho';cases ho'
  exact⟨_,es',ep',hL,r'⟩) hok I.bare
theorem Inv.call {g':Array GenState}{t':Nat}{d':Drawn}{ch:List Addr}(I:Inv X pins σ H s) (u:Un (frs X.stack) ch H H' s.heap h') (hok:HOk X.prog X.w H' h') (hg:AllBare g')
  (hch:∀ b∈ch,(b∈X.ex∨X.s₀.heap.objs.size<=b)/\b≠X.env.locals/\(∀ x c,X.env.cells.lookup x=some c->c≠b)/\∀ p∈X.pn++pins,p.1≠b) :
  Inv X pins σ H' { s with heap:=h',gens:=g',drawn:=d',toks:=t' }:=by
 obtain⟨m,⟨o,es,ep,ho,r⟩,_⟩:=id I.loc
 obtain⟨sl,hL⟩:=u.any ho I.free fun z=>(hch _ z).2.1 rfl
 exact I.step (ch:=ch) hch (fun b o hL hb hc e n=>u.keep b o e n (fun z=>(zcw3.mp (I.stkSub b z)).elim hL hb) hc) (fun b o _ _ hc e n=>u.any e n hc) (fun b o hc e n=>u.free b o e n hc) (fun b o hc e=>u.there b o e hc) u.tups u.frzs u.tbls (fun m' hm=>by
  obtain⟨o',es',ep',ho',r'⟩:=hm
  rw[ho] at ho';cases ho'
  exact⟨_,es',ep',hL,r'⟩) hok hg
theorem Inv.turned {t':Nat}{it:Addr}(I:Inv X pins σ H s) (k:∀ b o,b≠it->s.heap.get? b=some o->h'.get? b=some o) (hn:H it=none) (hL:it≠X.env.locals)
  (h1:it∈X.ex∨X.s₀.heap.objs.size<=it) (h2:∀ x c,X.env.cells.lookup x=some c->c≠it) (h3:∀ p∈X.pn++pins,p.1≠it):Inv X pins σ H { s with heap:=h',toks:=t' }:=by
 have nit:∀ b u,H b=some u->b≠it:=fun b u e z=>by rw[z,hn] at e;cases e
 refine I.step (g':=s.gens) (d':=s.drawn) (ch:=[it]) (fun b hb=>?_) (fun b o _ _ hc e _=>k b o (fun z=>hc (by simp[z])) e) (fun b o _ _ hc e _=>⟨o.slots,k b o (fun z=>hc (by simp[z])) e⟩) (fun _ _ _ _ n=>n)
  (fun b o hc e=>⟨o,k b o (fun z=>hc (by simp[z])) e⟩) (fun _ _ e=>e) (fun _ _ _ e=>e) (fun b ps e=>⟨#[],by rw[e];simp⟩) (fun m hm=>?_) (fun b u e=>?_) I.bare
 ·have e:b=it:=by simpa using hb
  subst e
  exact⟨h1,hL,h2,h3⟩
 ·obtain⟨o,es,ep,ho,r⟩:=hm
  exact⟨o,es,ep,k _ o (Ne.symm hL) ho,r⟩
 ·refine (I.hok b u e).stay (fun c v hc q=>k c v ?_ q) (fun _ q=>q) fun _ _ q=>q
  rcases hc with z|z
  ·rw[z];exact nit b u e
  ·exact nit c _ z
theorem Inv.tok (I:Inv X pins σ H s) (t:Nat):Inv X pins σ H { s with toks:=t }:=I.un (h':=s.heap) (t':=t) Un.refl I.hok
theorem Inv.kept {t':Nat}(I:Inv X pins σ H s) (k:∀ b u,s.heap.get? b=some u->h'.get? b=some u):Inv X pins σ H { s with heap:=h',toks:=t' }:=I.un (Un.kept k) (I.hok.kept k)
theorem Inv.laid {a:Addr}{o:HO}{t':Nat}(I:Inv X pins σ H s) (k:∀ b u,s.heap.get? b=some u->h'.get? b=some u) (hp:s.heap.objs.size<=a) (new:zk0 X.prog X.w (upd H a o) h' a o) :
  Inv X pins σ (upd H a o) { s with heap:=h',toks:=t' }:=I.un (Un.laid k hp (I.hok.fresh hp)) (I.hok.laid k hp new)
theorem Inv.write {x e:Addr}{o:HO}{t':Nat}(I:Inv X pins σ H s) (mu:Mut (H x)) (he:e=x∨H e=some (.own x)) (k:∀ b u,b≠e->s.heap.get? b=some u->h'.get? b=some u) (heo:∃ u,h'.get? e=some u)
  (new:zk0 X.prog X.w (upd H x o) h' x o):Inv X pins σ (upd H x o) { s with heap:=h',toks:=t' }:=I.un (Un.write mu he k heo) (I.hok.write mu he k heo new)
theorem Inv.pins_of {pins':List (Addr×Obj)}(I:Inv X pins σ H s) (h:∀ p∈pins',s.heap.get? p.1=some p.2/\H p.1=none/\p.1≠X.env.locals/\p.1 ∉ X.fs/\∀ v,p.2.data≠.cell v):Inv X pins' σ H s:=
 ⟨I.ok,I.os,I.bare,I.base,I.loc,I.cell,I.free,I.freeC,fun p hp=>(zcy0.mp hp).elim (fun z=>I.pin p (List.mem_append_left _ z)) (h p),I.hok,I.len⟩
theorem zar1 {N:List Str}(hN:N.Nodup) {i j:Nat}{x:Str}(a:N[i]?=some x) (b:N[j]?=some x):i=j:=by
 obtain⟨h1,e1⟩:=zcv3.mp a
 obtain⟨h2,e2⟩:=zcv3.mp b
 exact (List.getElem_inj hN).mp (e1.trans e2.symm)
theorem zba0 {M:Model}{A:Around}{E:Value->Shared->Prop}{i:Nat}{x:Str}{v:V}{u:Value}{Q:Unit->Shared->Prop}(I:Inv X pins σ H s) (hN:X.N.Nodup) (hi:X.N[i]?=some x) (hx:Loc X.env.scope x) (r:RelV v u)
  (h:∀ s',Inv X pins (σ.set i (some v)) H s'->(∃ a,Heap.SameBut a s.heap s'.heap/\(a=X.env.locals∨X.env.cells.lookup x=some a))->Q () s') (hf:X.fn x=true∨X.env.scope.names.lookup x=some .local:=by first|exact .inl rfl|exact .inr rfl|assumption):wpAny M A (storeName X.env x u) Q E s:=by
 obtain⟨m,hn,hl⟩:=id I.loc
 have hcls:(X.env.scope.kind==.class || (X.env.scope.kind==.module&&X.env.locals != X.env.globals))=false:=by rw[I.ok.kind];rfl
 have hiσ:i<σ.length:=by rw[I.len];exact (zcv3.mp hi).1
 have cne:=I.cne
 have tracked:∀ {a:Addr}{h':Heap},(∃ o,s.heap.get? a=some o/\H a=none)->Heap.SameBut a s.heap h'->HOk X.prog X.w H h':=fun {a h'} ha hs b ob e=>by
  obtain⟨_,_,hfree⟩:=ha
  refine (I.hok b ob e).stay (fun c w' hc q=>(hs.2 c ?_).trans q) (fun _ q=>q) fun _ _ q=>q
  rintro rfl
  rcases hc with rfl|hc
  ·rw[hfree] at e;cases e
  ·rw[hfree] at hc;cases hc
 rcases hx with hk|hk
 ·refine wpAny_storeName_local hk hn (fun h' hn' hs=>?_) hcls
  obtain⟨oL,_,_,hoL,_⟩:=id hn
  refine h _ ⟨I.ok,I.os,I.bare,⟨fun b o e n hb hx=>?_,fun b o e n hb hx=>?_,I.base.free,fun b o e hx=>?_,I.base.tups,I.base.frzs,I.base.tbls⟩,⟨_,hn',fun j y v' e1 e2 e3=>?_⟩,fun y c e=>?_,I.free,I.freeC,fun p hp=>?_,tracked ⟨oL,hoL,I.free⟩ hs,by simpa using I.len⟩ ⟨_,hs,.inl rfl⟩
  ·exact (hs.2 b (zcy6 (zcx9 (zcw6 e) I.ok.above))).trans (I.base.keep b o e n hb hx)
  ·obtain⟨sl,e1⟩:=I.base.slot b o e n hb hx
   exact⟨sl,(hs.2 b (zcy6 (zcx9 (zcw6 e) I.ok.above))).trans e1⟩
  ·obtain⟨o',e1⟩:=I.base.there b o e hx
   exact⟨o',(hs.2 b (zcy6 (zcx9 (zcw6 e) I.ok.above))).trans e1⟩
  ·by_cases hj:j=i
   ·subst hj
    rw[hi] at e1;cases e1
    rw[zda5 hiσ] at e2
    cases e2
    exact⟨u,r,.inl ⟨hk,by simp⟩⟩
   ·rw[zda9 (Ne.symm hj)] at e2
    obtain⟨u',r',q⟩:=hl j y v' e1 e2 e3
    refine⟨u',r',?_⟩
    rcases q with ⟨k,e⟩|⟨k,c,e,z⟩
    ·refine .inl ⟨k,?_⟩
     have:y≠x:=fun e=>hj (zar1 hN e1 (e▸hi))
     simp[this,e]
    ·exact .inr ⟨k,c,e,z.sameBut hs (cne y c e)⟩
  ·obtain⟨w',z⟩:=I.cell y c e
   exact⟨w',z.sameBut hs (cne y c e)⟩
  ·obtain⟨e,n,ne,nf,d⟩:=I.pin p hp
   exact⟨(hs.2 p.1 ne).trans e,n,ne,nf,d⟩
 ·have hfn:X.fn x=true:=by
   rcases hf with z|z
   ·exact z
   ·rw[z] at hk;cases hk
  obtain⟨c,hc⟩:=I.ok.has x (.inl hk)
  obtain⟨w',z⟩:=I.cell x c hc
  refine wpAny_storeName_cell I.ok.kind hk hc z (fun h' hc' hs=>?_)
  obtain⟨oc,hoc,hocd⟩:=id z
  refine h { s with heap:=h' } ⟨I.ok,I.os,I.bare,⟨fun b o e n hb hx=>?_,fun b o e n hb hx=>?_,I.base.free,fun b o e hx=>?_,I.base.tups,I.base.frzs,I.base.tbls⟩,⟨m,hn.sameBut hs (Ne.symm (cne x c hc)),fun j y v' e1 e2 e3=>?_⟩,fun y c' e=>?_,I.free,I.freeC,fun p hp=>?_,tracked ⟨oc,hoc,I.freeC x c hc⟩ hs,by simpa using I.len⟩ ⟨c,hs,.inr hc⟩
  ·exact (hs.2 b (zcy6 (zcx9 (zcw6 e) (I.ok.cab x c hfn hc)))).trans (I.base.keep b o e n hb hx)
  ·obtain⟨sl,e1⟩:=I.base.slot b o e n hb hx
   exact⟨sl,(hs.2 b (zcy6 (zcx9 (zcw6 e) (I.ok.cab x c hfn hc)))).trans e1⟩
  ·obtain⟨o',e1⟩:=I.base.there b o e hx
   exact⟨o',(hs.2 b (zcy6 (zcx9 (zcw6 e) (I.ok.cab x c hfn hc)))).trans e1⟩
  ·by_cases hj:j=i
   ·subst hj
    rw[hi] at e1;cases e1
    rw[zda5 hiσ] at e2
    cases e2
    exact⟨u,r,.inr ⟨.inl hk,c,hc,hc'⟩⟩
   ·rw[zda9 (Ne.symm hj)] at e2
    obtain⟨u',r',q⟩:=hl j y v' e1 e2 e3
    refine⟨u',r',?_⟩
    rcases q with q|⟨k,c',e,z'⟩
    ·exact .inl q
    ·refine .inr ⟨k,c',e,z'.sameBut hs ?_⟩
     rintro rfl
     exact hj (zar1 hN e1 (I.ok.inj _ _ _ e hc▸hi))
  ·by_cases hcc:c'=c
   ·subst hcc;exact⟨_,hc'⟩
   ·obtain⟨w2,z2⟩:=I.cell y c' e
    exact⟨w2,z2.sameBut hs hcc⟩
  ·obtain⟨e,n,ne,nf,d⟩:=I.pin p hp
   refine⟨(hs.2 p.1 ?_).trans e,n,ne,nf,d⟩
   intro q
   rw[q,hoc] at e
   have q':oc=p.2:=Option.some.inj e
   exact d w' (by rw[← q'];exact hocd)
theorem zz2 {M:Model}{A:Around}{E:Value->Shared->Prop}{i:Nat}{x:Str}{v:V}{u:Value}{Q:Unit->Shared->Prop}(I:Inv X pins σ H s) (hN:X.N.Nodup) (hi:X.N[i]?=some x) (hx:Loc X.env.scope x) (r:RelV v u)
  (h:∀ s',Inv X pins (σ.set i (some v)) H s'->Q () s') (hf:X.fn x=true∨X.env.scope.names.lookup x=some .local:=by first|exact .inl rfl|exact .inr rfl|assumption):wpAny M A (storeName X.env x u) Q E s:=
 zba0 I hN hi hx r (fun s' I' _=>h s' I') hf
theorem Inv.call' {s':Shared}{ch:List Addr}(I:Inv X pins σ H s) (ho:s'.os=s.os) (u:Un (frs X.stack) ch H H' s.heap s'.heap) (hok:HOk X.prog X.w H' s'.heap) (hg:AllBare s'.gens)
  (hch:∀ b∈ch,(b∈X.ex∨X.s₀.heap.objs.size<=b)/\b≠X.env.locals/\(∀ x c,X.env.cells.lookup x=some c->c≠b)/\∀ p∈X.pn++pins,p.1≠b):Inv X pins σ H' s':=by
 obtain⟨h',g',d',t',o'⟩:=s'
 have e:o'=s.os:=ho
 subst e
 exact I.call (g':=g') (t':=t') (d':=d') u hok hg hch
end
abbrev XK:=Value->Option Addr->Hp->Prop
abbrev St:=List (Option V)
abbrev VK:=V->Hp->Prop
abbrev TE:=St->Hp->VK->Prop
abbrev TT:=St->Hp->(Bool->Hp->Prop)->Prop
abbrev TA:=St->Hp->(List V->Hp->Prop)->Prop
structure Ends where
 nx:St->Hp->Prop
 rt:VK
 bk:St->Hp->Prop:=fun _ _=>False
 ct:St->Hp->Prop:=fun _ _=>False
abbrev TS:=Ends->St->Hp->Prop
def EP (X:Cx) (pins:List (Addr×Obj)) (σ:St) (Q:VK) (u:Value) (s':Shared):Prop:=∃ v H',Inv X pins σ H' s'/\RelV v u/\Q v H'
def TP (X:Cx) (pins:List (Addr×Obj)) (σ:St) (Q:Bool->Hp->Prop) (b:Bool) (s':Shared):Prop:=∃ H',Inv X pins σ H' s'/\Q b H'
def AP (X:Cx) (pins:List (Addr×Obj)) (σ:St) (Q:List V->Hp->Prop) (us:List Value) (s':Shared):Prop:=∃ vs H',Inv X pins σ H' s'/\Vals vs us/\Q vs H'
def SP (X:Cx) (pins:List (Addr×Obj)) (D:Ends) (f:Flow) (s':Shared):Prop:=
 match f with
 | .next=>∃ σ' H',Inv X pins σ' H' s'/\D.nx σ' H'
 | .brk=>∃ σ' H',Inv X pins σ' H' s'/\D.bk σ' H'
 | .cont=>∃ σ' H',Inv X pins σ' H' s'/\D.ct σ' H'
 | .ret u=>∃ v σ' H',Inv X pins σ' H' s'/\RelV v u/\D.rt v H'
def PE (X:Cx) (e:Expr) (t:TE):Prop:=
 ∀ (pins:List (Addr×Obj)) (s:Shared) (σ:St) (H:Hp) (Q:VK),Inv X pins σ H s->t σ H Q->wpAny (model X.prog X.w) X.A (eval e X.env) (EP X pins σ Q) X.xe s
def PT (X:Cx) (e:Expr) (t:TT):Prop:=
 ∀ (pins:List (Addr×Obj)) (s:Shared) (σ:St) (H:Hp) (Q:Bool->Hp->Prop),Inv X pins σ H s->t σ H Q->wpAny (model X.prog X.w) X.A (isTrue e X.env (eval e X.env)) (TP X pins σ Q) X.xe s
def PW (X:Cx) (e:Expr) (t:TT):Prop:=
 ∀ (whole:Sem Value) (pins:List (Addr×Obj)) (s:Shared) (σ:St) (H:Hp) (Q:Bool->Hp->Prop),Inv X pins σ H s->t σ H Q->wpAny (model X.prog X.w) X.A (isTrue e X.env whole) (TP X pins σ Q) X.xe s
theorem PW.pt {X:Cx}{e:Expr}{t:TT}(h:PW X e t):PT X e t:=h _
def PA (X:Cx) (es:List Expr) (t:TA):Prop:=
 ∀ (pos:Pos) (pins:List (Addr×Obj)) (s:Shared) (σ:St) (H:Hp) (Q:List V->Hp->Prop),Inv X pins σ H s->t σ H Q->wpAny (model X.prog X.w) X.A (spliced (backTo pos (starEach es X.env))) (AP X pins σ Q) X.xe s
def PS (X:Cx) (st:Stmt) (t:TS):Prop:=
 ∀ (pins:List (Addr×Obj)) (s:Shared) (σ:St) (H:Hp) (D:Ends),Inv X pins σ H s->t D σ H->wpAny (model X.prog X.w) X.A (exec st X.env) (SP X pins D) X.xe s
def PSs (X:Cx) (st:List Stmt) (t:TS):Prop:=
 ∀ (pins:List (Addr×Obj)) (s:Shared) (σ:St) (H:Hp) (D:Ends),Inv X pins σ H s->t D σ H->wpAny (model X.prog X.w) X.A (execs st X.env) (SP X pins D) X.xe s
theorem thn {α:Type}{t:Sem α}{Q Q':α->Shared->Prop}{M:Model}{A:Around}{E:Value->Shared->Prop}{s:Shared}(h:wpAny M A t Q E s) (hQ:∀ a s,Q a s->Q' a s):wpAny M A t Q' E s:=wpAny_mono h hQ fun _ _ x=>x
end L2
namespace L2
open PySem PySem.Spec PyProof.Rows
section
variable {X:Cx}
theorem bin {a b:Expr}{ta tb:TE}(ha:PE X a ta) (hb:PE X b tb) {pins:List (Addr×Obj)}{s:Shared}{σ:St}{H:Hp}{R:V->V->Hp->Prop}(I:Inv X pins σ H s) (h:ta σ H fun x H1=>tb σ H1 fun y H2=>R x y H2)
  {α:Type}{Q:α->Shared->Prop}{f:Value->Value->Sem α}
  (hf:∀ v u s2 x y H2,Inv X pins σ H2 s2->RelV x v->RelV y u->R x y H2->wpAny (model X.prog X.w) X.A (f v u) Q X.xe s2) :
  wpAny (model X.prog X.w) X.A (eval a X.env) (fun v s₁=>wpAny (model X.prog X.w) X.A (eval b X.env) (fun u s₂=>wpAny (model X.prog X.w) X.A (f v u) Q X.xe s₂) X.xe s₁) X.xe s:=by
 refine thn (ha pins s σ H _ I h) fun v s1 ⟨x,H1,I1,r1,q1⟩=>?_
 refine thn (hb pins s1 σ H1 _ I1 q1) fun u s2 ⟨y,H2,I2,r2,q2⟩=>?_
 exact hf v u s2 x y H2 I2 r1 r2 q2
def tVar (i:Nat):TE:=fun σ H Q=>∃ v,σ[i]?=some (some v)/\Q v H
def tC (v:V):TE:=fun _ H Q=>Q v H
theorem pe_var {i:Nat}{x:Str}{pos:Pos}(hN:X.N[i]?=some x) (hv:Vis X.env.scope x) (hd:(x==("__debug__":Str))=false:=by decide) (hcd:(x==("__classdict__":Str))=false:=by decide):PE X (.Name x pos) (tVar i):=by
 intro pins s σ H Q I h
 obtain⟨v,e,h⟩:=h
 obtain⟨m,hn,hl⟩:=I.loc
 obtain⟨u,r,l⟩:=hl i x v hN e hv
 have fin:EP X pins σ Q u s:=⟨v,H,I,r,h⟩
 rcases l with ⟨hk,hm⟩|⟨hk,c,hc,hcell⟩
 ·exact wpAny_Name (wpAny_loadName_local I.ok.kind hk hn hm fin) hd
 ·rcases hk with hk|hk
  ·exact wpAny_Name (wpAny_loadName_cell I.ok.kind hk hc hcell fin) hd
  ·exact wpAny_Name (wpAny_loadName_free I.ok.kind hk hc hcell fin hcd) hd
theorem za2 {i j pos}:PE X (.Constant (.int i) j pos) (tC (.int i)):=fun _ _ _ H _ I h=>wpAny_Constant_int ⟨.int i,H,I.tok _,⟨_,rfl⟩,h⟩
theorem zx8 {b j pos}:PE X (.Constant (.bool b) j pos) (tC (.bl b)):=fun _ _ _ H _ I h=>Constant_bool ⟨.bl b,H,I,rfl,h⟩
theorem zaz9 {j pos}:PE X (.Constant .none j pos) (tC .non):=fun _ _ _ H _ I h=>Constant_none ⟨.non,H,I,rfl,h⟩
theorem zg5 {x j pos}:PE X (.Constant (.str x) j pos) (tC (.str x)):=fun _ _ _ H _ I h=>Calls.Constant_str ⟨.str x,H,I.tok _,⟨_,rfl⟩,h⟩
def Gl (X:Cx) (x:Str):Prop:=X.env.kindOf x=some .globalImplicit
theorem zae8 {E:Value->Shared->Prop}{pins:List (Addr×Obj)}{s:Shared}{σ:St}{H:Hp}{x:Str}{u:Value}{pos:Pos}{Q:Value->Shared->Prop}(I:Inv X pins σ H s) (hg:Gl X x) (hm:X.mg x=some u) (h:Q u s)
  (hd:(x==("__debug__":Str))=false:=by decide):wpAny (model X.prog X.w) X.A (eval (.Name x pos) X.env) Q E s:=
 Calls.Name_function_global I.ok.kind hg (Calls.loadGlobal_global (by rw[I.ok.glob];exact I.mod.glob.keeps I.bk) hm h) hd
theorem zam1 {E:Value->Shared->Prop}{pins:List (Addr×Obj)}{s:Shared}{σ:St}{H:Hp}{x:Str}{u:Value}{pos:Pos}{Q:Value->Shared->Prop}(I:Inv X pins σ H s) (hg:Gl X x) (hm:X.mg x=none) (hv:bootBuiltins x=some u) (h:Q u s)
  (hn:x≠"__name__":=by decide) (hd:(x==("__debug__":Str))=false:=by decide):wpAny (model X.prog X.w) X.A (eval (.Name x pos) X.env) Q E s:=by
 obtain⟨mb,h1,h2⟩:=I.mod.blt
 exact Calls.Name_function_global I.ok.kind hg (Calls.loadGlobal_builtin (by rw[I.ok.glob];exact I.mod.glob.keeps I.bk) hm (by rw[I.ok.blt];exact h1.keeps I.bk) ((h2 x hn).trans hv) h) hd
theorem zk5 {x:Str}{v:V}{u:Value}{pos:Pos}(hg:Gl X x) (hm:X.mg x=some u) (r:RelV v u) (hd:(x==("__debug__":Str))=false:=by decide):PE X (.Name x pos) (tC v):=
 fun _ _ _ H _ I h=>zae8 I hg hm ⟨v,H,I,r,h⟩ hd
theorem zcj6 {x:Str}{v:V}{u:Value}{pos:Pos}(hg:Gl X x) (hm:X.mg x=none) (hv:bootBuiltins x=some u) (r:RelV v u) (hn:x≠"__name__":=by decide) (hd:(x==("__debug__":Str))=false:=by decide):PE X (.Name x pos) (tC v):=
 fun _ _ _ H _ I h=>zam1 I hg hm hv ⟨v,H,I,r,h⟩ hn hd
variable {a b:Expr}{ta tb:TE}{pos:Pos}
variable {tA tB':TT}{rest:List Expr}
def tAnd (t u:TT):TT:=fun σ H Q=>t σ H fun c H1=>if c=true then u σ H1 Q else Q false H1
def tOr (t u:TT):TT:=fun σ H Q=>t σ H fun c H1=>if c=true then Q true H1 else u σ H1 Q
def tNot (t:TT):TT:=fun σ H Q=>t σ H fun c H1=>Q (!c) H1
theorem zas1 (ha:PT X a tA):PW X (.BoolOp .And [a] pos) tA:=by
 intro wh pins s σ H Q I h
 refine isTrue_and (thn (ha pins s σ H Q I h) fun c s1 e=>?_)
 cases c with
 | true=>exact isTrue_and_nil e
 | false=>exact e
theorem zaa8 (ha:PT X a tA):PW X (.BoolOp .Or [a] pos) tA:=by
 intro wh pins s σ H Q I h
 refine isTrue_or (thn (ha pins s σ H Q I h) fun c s1 e=>?_)
 cases c with
 | false=>exact isTrue_or_nil e
 | true=>exact e
theorem pw_and (ha:PT X a tA) (hb:PW X (.BoolOp .And (b :: rest) pos) tB'):PW X (.BoolOp .And (a :: b :: rest) pos) (tAnd tA tB'):=by
 intro wh pins s σ H Q I h
 refine isTrue_and (thn (ha pins s σ H _ I h) fun c s1 ⟨H1,I1,q1⟩=>?_)
 cases c with
 | true=>exact hb wh pins s1 σ H1 Q I1 q1
 | false=>exact⟨H1,I1,q1⟩
theorem pw_or (ha:PT X a tA) (hb:PW X (.BoolOp .Or (b :: rest) pos) tB'):PW X (.BoolOp .Or (a :: b :: rest) pos) (tOr tA tB'):=by
 intro wh pins s σ H Q I h
 refine isTrue_or (thn (ha pins s σ H _ I h) fun c s1 ⟨H1,I1,q1⟩=>?_)
 cases c with
 | true=>exact⟨H1,I1,q1⟩
 | false=>exact hb wh pins s1 σ H1 Q I1 q1
theorem zm0 (ha:PT X a tA):PT X (.UnaryOp .Not a pos) (tNot tA):=by
 intro pins s σ H Q I h
 exact isTrue_not (ha pins s σ H (fun c H1=>Q (!c) H1) I h)
theorem zs2 {op} {t:TE}(h:PE X a t):PE X (.BoolOp op [a] pos) t:=fun pins s σ H Q I hw=>BoolOp_one (h pins s σ H Q I hw)
def tIf (t:TT) (ta tb:TE):TE:=fun σ H Q=>t σ H fun c H1=>if c=true then ta σ H1 Q else tb σ H1 Q
theorem zcc1 {c:Expr}(hc:PT X c tA) (ha:PE X a ta) (hb:PE X b tb):PE X (.IfExp c a b pos) (tIf tA ta tb):=by
 intro pins s σ H Q I h
 refine wpAny_IfExp (thn (hc pins s σ H _ I h) fun d s1 ⟨H1,I1,q1⟩=>?_)
 cases d with
 | true=>exact ha pins s1 σ H1 Q I1 q1
 | false=>exact hb pins s1 σ H1 Q I1 q1
end
end L2
namespace L2
open PySem PySem.Spec PyProof.Rows
def SqL (K:zcu8) (H:Hp) (a:Addr) (xs:List V):Prop:=
 Rd H a (.lst xs) ∨
  ∃ (o:Obj) (its:Array Value) (n:Nat),K.lookup a=some o/\o.cls=.type "list"/\o.dict=none/\o.data=.seq its n/\its.size<=sizeLine/\Vals xs its.toList
def SqT (K:zcu8) (H:Hp) (a:Addr) (xs:List V):Prop:=
 Rd H a (.tup xs) ∨
  ∃ (o:Obj) (its:Array Value) (n:Nat),K.lookup a=some o/\o.cls=.type "tuple"/\o.data=.seq its n/\its.size<=sizeLine/\Vals xs its.toList
def absV:Value->Option V
 | .none=>some .non
 | .bool b=>some (.bl b)
 | .int i _=>some (.int i)
 | .str x _=>some (.str x)
 | .bytes b _=>some (.byt b)
 | .float b _=>some (.flt b)
 | .ref a=>some (.ref a)
 | .type n=>some (.ty n)
 | _=>none
theorem RelV.abs {x:V}{u:Value}(r:RelV x u):absV u=some x:=by
 cases x with
 | non=>cases r;rfl
 | bl _=>cases r;rfl
 | int _=>obtain⟨t,rfl⟩:=r;rfl
 | str _=>obtain⟨t,rfl⟩:=r;rfl
 | byt _=>obtain⟨t,rfl⟩:=r;rfl
 | flt _=>obtain⟨t,rfl⟩:=r;rfl
 | ref _=>cases r;rfl
 | ty _=>cases r;rfl
theorem RelV.inj {x y:V}{u:Value}(r:RelV x u) (q:RelV y u):x=y:=Option.some.inj (r.abs.symm.trans q.abs)
theorem Vals.inj:∀ {xs ys:List V}{us:List Value},Vals xs us->Vals ys us->xs=ys
 | _,_,_,.nil,.nil=>rfl
 | _,_,_,.cons r t,.cons r' t'=>by rw[r.inj r',Vals.inj t t']
section
variable {X:Cx}{pins:List (Addr×Obj)}{σ:St}{H:Hp}{s:Shared}{a:Addr}{xs ys:List V}
theorem SqL.of {K:zcu8}(h:H a=some (.lst xs)):SqL K H a xs:=.inl (.inl h)
theorem SqT.of {K:zcu8}(h:H a=some (.tup xs)):SqT K H a xs:=.inl (.inl h)
theorem Inv.list (I:Inv X pins σ H s) (h:SqL X.K H a xs):∃ its:List Value,Vals xs its/\PlainL s.heap a its.toArray/\xs.length<=sizeLine:=by
 rcases h with h|⟨o,its,n,hk,hc,hd,hs,hz,r⟩
 ·obtain⟨z,its,n,r,e⟩:=h.ok I.hok
  exact⟨its,r,⟨_,n,e,rfl,rfl,rfl⟩,z⟩
 ·refine⟨its.toList,r,⟨o,n,I.kIn a o hk,hc,hd,by simpa using hs⟩,?_⟩
  have e:=r.length
  simp only[Array.length_toList] at e
  omega
theorem Inv.tuple (I:Inv X pins σ H s) (h:SqT X.K H a xs):∃ its:List Value,Vals xs its/\IsTup s.heap a its.toArray/\xs.length<=sizeLine:=by
 rcases h with h|⟨o,its,n,hk,hc,hs,hz,r⟩
 ·obtain⟨z,its,r,p⟩:=h.ok I.hok
  exact⟨its,r,p,z⟩
 ·refine⟨its.toList,r,⟨o,I.kIn a o hk,hc,n,by simpa using hs⟩,?_⟩
  have e:=r.length
  simp only[Array.length_toList] at e
  omega
theorem Inv.list_inj (I:Inv X pins σ H s) (h:SqL X.K H a xs) (h':SqL X.K H a ys):xs=ys:=by
 obtain⟨its,r,⟨o,n,e,_,_,d⟩,_⟩:=I.list h
 obtain⟨its',r',⟨o',n',e',_,_,d'⟩,_⟩:=I.list h'
 rw[e] at e';cases e'
 rw[d] at d'
 injection d' with d1 _
 have:its=its':=by simpa using congrArg Array.toList d1
 subst this
 exact r.inj r'
theorem Inv.tuple_inj (I:Inv X pins σ H s) (h:SqT X.K H a xs) (h':SqT X.K H a ys):xs=ys:=by
 obtain⟨its,r,⟨o,e,_,n,d⟩,_⟩:=I.tuple h
 obtain⟨its',r',⟨o',e',_,n',d'⟩,_⟩:=I.tuple h'
 rw[e] at e';cases e'
 rw[d] at d'
 injection d' with d1 _
 have:its=its':=by simpa using congrArg Array.toList d1
 subst this
 exact r.inj r'
end
abbrev Cx.wish (X:Cx) (E:Value->Shared->Prop):Cx:={ X with xe:=E }
abbrev Cx.nox (X:Cx):Cx:=X.wish fun _ _=>False
theorem Cx.Ok.wish {X:Cx}(ok:X.Ok) (E:Value->Shared->Prop):(X.wish E).Ok:=
 ⟨ok.mod,ok.kind,ok.glob,ok.blt,ok.above,ok.inj,ok.has,ok.cab,ok.hd,ok.frames,ok.stk,ok.exf,ok.bs,ok.bsz,ok.noex,ok.exfs,ok.funs,ok.frf⟩
theorem Cx.Ok.unwish {X:Cx}{E:Value->Shared->Prop}(ok:(X.wish E).Ok):X.Ok:=
 ⟨ok.mod,ok.kind,ok.glob,ok.blt,ok.above,ok.inj,ok.has,ok.cab,ok.hd,ok.frames,ok.stk,ok.exf,ok.bs,ok.bsz,ok.noex,ok.exfs,ok.funs,ok.frf⟩
section
variable {X:Cx}{pins:List (Addr×Obj)}{σ:St}{H:Hp}{s:Shared}{E:Value->Shared->Prop}
theorem Inv.wish (I:Inv X pins σ H s) (E:Value->Shared->Prop):Inv (X.wish E) pins σ H s:=⟨I.ok.wish E,I.os,I.bare,I.base,I.loc,I.cell,I.free,I.freeC,I.pin,I.hok,I.len⟩
theorem Inv.unwish (I:Inv (X.wish E) pins σ H s):Inv X pins σ H s:=⟨I.ok.unwish,I.os,I.bare,I.base,I.loc,I.cell,I.free,I.freeC,I.pin,I.hok,I.len⟩
theorem SP.unwish {D:Ends}{f:Flow}{s':Shared}(h:SP (X.wish E) pins D f s'):SP X pins D f s':=by
 cases f with
 | next=>obtain⟨σ',H',I,q⟩:=h;exact⟨σ',H',I.unwish,q⟩
 | brk=>obtain⟨σ',H',I,q⟩:=h;exact⟨σ',H',I.unwish,q⟩
 | cont=>obtain⟨σ',H',I,q⟩:=h;exact⟨σ',H',I.unwish,q⟩
 | ret u=>obtain⟨v,σ',H',I,r,q⟩:=h;exact⟨v,σ',H',I.unwish,r,q⟩
theorem PSs.nox {st:List Stmt}{t:TS}(h:PSs X.nox st t):PSs X st t:=fun pins s σ H D I hw=>
 wpAny_mono (h pins s σ H D (I.wish _) hw) (fun _ _ q=>q.unwish) fun _ _ z=>False.elim z
end
section
variable {X:Cx}{st:Stmt}{rest:List Stmt}{t u:TS}{e:Expr}{te:TE}{pos:Pos}
def tNext:TS:=fun D σ H=>D.nx σ H
def tSeq (t u:TS):TS:=fun D σ H=>t { D with nx:=u D } σ H
theorem zc2:PSs X [] tNext:=fun _ _ σ H _ I h=>wpAny_execs_nil ⟨σ,H,I,h⟩
theorem za4 (h1:PS X st t) (h2:PSs X rest u):PSs X (st :: rest) (tSeq t u):=by
 intro pins s σ H D I h
 refine wpAny_execs_cons (thn (h1 pins s σ H { D with nx:=u D } I h) fun f s1 q=>?_)
 cases f with
 | next=>
  obtain⟨σ',H',I',q⟩:=q
  exact h2 pins s1 σ' H' D I' q
 | ret v=>exact q
 | brk=>exact q
 | cont=>exact q
theorem za6 (h1:PS X st t):PSs X [st] t:=by
 intro pins s σ H D I h
 refine wpAny_execs_cons (thn (h1 pins s σ H D I h) fun f s1 q=>?_)
 cases f with
 | next=>exact wpAny_execs_nil q
 | ret v=>exact q
 | brk=>exact q
 | cont=>exact q
theorem Inv.quiet {pins:List (Addr×Obj)}{σ:St}{H:Hp}{s:Shared}(I:Inv X pins σ H s):interactive X.env=false:=by simp[interactive,I.ok.kind]
def tDrop (te:TE):TS:=fun D σ H=>te σ H fun _ H1=>D.nx σ H1
theorem zr7 (he:PE X e te) (hs:swapsWith e none pos.line X.env=pure false:=by rfl):PS X (.Expr e pos) (tDrop te):=by
 intro pins s σ H D I h
 exact wpAny_Expr_any (thn (he pins s σ H _ I h) fun v s1 ⟨x,H1,I1,r1,q1⟩=>⟨σ,H1,I1,q1⟩) I.quiet hs
def tRet (te:TE):TS:=fun D σ H=>te σ H D.rt
theorem zb0 (he:PE X e te):PS X (.Return (some e) pos) (tRet te):=by
 intro pins s σ H D I h
 exact wpAny_Return_some (thn (he pins s σ H _ I h) fun v s1 ⟨x,H1,I1,r1,q1⟩=>⟨x,σ,H1,I1,r1,q1⟩)
def tIfS (c:TT) (t u:TS):TS:=fun D σ H=>c σ H fun b H1=>if b=true then t D σ H1 else u D σ H1
theorem ps_if {c:Expr}{a b:List Stmt}{tc:TT}(hc:PT X c tc) (ha:PSs X a t) (hb:PSs X b u):PS X (.If c a b pos) (tIfS tc t u):=by
 intro pins s σ H D I h
 refine wpAny_If (thn (hc pins s σ H _ I h) fun d s1 ⟨H1,I1,q1⟩=>?_)
 cases d with
 | true=>exact ha pins s1 σ H1 D I1 q1
 | false=>exact hb pins s1 σ H1 D I1 q1
def tNever:TS:=fun _ _ _=>False
theorem zbf4:PS X st tNever:=fun _ _ _ _ _ _ h=>h.elim
end
abbrev TG:=V->St->Hp->(St->Hp->Prop)->Prop
abbrev TGs:=List V->St->Hp->(St->Hp->Prop)->Prop
def PG (X:Cx) (target:Expr) (t:TG):Prop:=
 ∀ (pins:List (Addr×Obj)) (s:Shared) (σ:St) (H:Hp) (v:V) (u:Value) (Q:St->Hp->Prop),Inv X pins σ H s->RelV v u->t v σ H Q ->
  wpAny (model X.prog X.w) X.A (assign target X.env u) (fun _ s'=>∃ σ' H',Inv X pins σ' H' s'/\Q σ' H') X.xe s
def PGs (X:Cx) (ts:List Expr) (t:TGs):Prop:=
 ∀ (pins:List (Addr×Obj)) (s:Shared) (σ:St) (H:Hp) (vs:List V) (us:List Value) (Q:St->Hp->Prop),Inv X pins σ H s->Vals vs us->t vs σ H Q ->
  wpAny (model X.prog X.w) X.A (assignInOrder ((assignEach ts X.env).map (·.2)) us) (fun _ s'=>∃ σ' H',Inv X pins σ' H' s'/\Q σ' H') X.xe s
abbrev TSet:=V->V->V->Hp->(Hp->Prop)->Prop
def PSet (X:Cx) (t:TSet):Prop:=
 ∀ (pins:List (Addr×Obj)) (s:Shared) (σ:St) (H:Hp) (o i v:V) (ov iv u:Value) (Q:Hp->Prop),Inv X pins σ H s->RelV o ov->RelV i iv->RelV v u->t o i v H Q ->
  wpAny (model X.prog X.w) X.A (setItem ov iv u) (fun _ s'=>∃ H',Inv X pins σ H' s'/\Q H') X.xe s
section
variable {X:Cx}{pos:Pos}
def zbi8 (i:Nat):TG:=fun v σ H Q=>Q (σ.set i (some v)) H
theorem za7 {i:Nat}{x:Str}(hN:X.N.Nodup) (hi:X.N[i]?=some x) (hx:Loc X.env.scope x) (hf:X.fn x=true∨X.env.scope.names.lookup x=some .local:=by first|exact .inl rfl|exact .inr rfl|assumption):PG X (.Name x pos) (zbi8 i):=by
 intro pins s σ H v u Q I r h
 exact wpAny_assign_Name (zz2 I hN hi hx r (fun s' I'=>⟨_,H,I',h⟩) hf)
def gNil:TGs:=fun vs σ H Q=>vs=[]/\Q σ H
def gCons (t:TG) (u:TGs):TGs:=fun vs σ H Q=>∃ v r,vs=v :: r/\t v σ H fun σ' H'=>u r σ' H' Q
theorem zcg3:PGs X [] gNil:=by
 intro pins s σ H vs us Q I r h
 obtain⟨e,h⟩:=h
 subst e
 cases r
 exact assignInOrder_nil ⟨σ,H,I,h⟩
theorem zcb5 {e:Expr}{es:List Expr}{t:TG}{u:TGs}(h1:PG X e t) (h2:PGs X es u)
  (hs:(assignEach (e :: es) X.env).map (·.2)=assign e X.env :: (assignEach es X.env).map (·.2):=by rfl):PGs X (e :: es) (gCons t u):=by
 intro pins s σ H vs us Q I r h
 obtain⟨v,vr,e1,h⟩:=h
 subst e1
 cases r with
 | cons r rr=>
  rw[hs]
  refine assignInOrder_cons (thn (h1 pins s σ H _ _ _ I r h) fun _ s1 ⟨σ1,H1,I1,q1⟩=>?_)
  exact h2 pins s1 σ1 H1 _ _ Q I1 rr q1
def gTup (K:zcu8) (n:Nat) (t:TGs):TG:=fun v σ H Q=>∃ a xs,v=.ref a/\SqT K H a xs/\xs.length=n/\t xs σ H Q
theorem pg_tup {es:List Expr}{k:Nat}{t:TGs}{n:Nat}(hc:X.calm=true) (h:PGs X es t)
  (hn:(assignEach es X.env).length=n:=by rfl) (hst:(assignEach es X.env).findIdx? (·.1)=none:=by rfl):PG X (.Tuple es k pos) (gTup X.K n t):=by
 intro pins s σ H v u Q I r hw
 obtain⟨a,xs,e1,hq,hl,hw⟩:=hw
 subst e1
 cases r
 obtain⟨its,rv,ht,hz⟩:=I.tuple hq
 refine assign_Tuple_tuple (I.ok.hd hc) ht (by simp[hn,← hl,rv.length]) hst fun h' hx=>?_
 have I1:Inv X pins σ H { s with heap:=h' }:=I.kept (t':=s.toks) fun b o e=>hx b o (zcy6 (zcw6 e)) e
 exact h pins _ σ H xs _ Q I1 (by simpa using rv) hw
def gSub (to ti:TE) (t:TSet):TG:=fun v σ H Q=>to σ H fun o H1=>ti σ H1 fun i H2=>t o i v H2 fun H3=>Q σ H3
theorem zbw7 {o i:Expr}{to ti:TE}{t:TSet}(ho:PE X o to) (hi:PE X i ti) (hs:PSet X t)
  (ha:∀ v,assign (.Subscript o i pos) X.env v=(do
   let ov ← holding [v] (eval o X.env)
   let iv ← holding [v,ov] (eval i X.env)
   standAt pos
   holding [v,ov,iv] (setItem ov iv v)
   release [v,ov,iv] []):=by intro _;rfl):PG X (.Subscript o i pos) (gSub to ti t):=by
 intro pins s σ H v u Q I r h
 rw[ha]
 refine wpAny_bind (wpAny_holding (thn (ho pins s σ H _ I h) fun ov s1 ⟨x,H1,I1,r1,q1⟩=>?_))
 refine wpAny_bind (wpAny_holding (thn (hi pins s1 σ H1 _ I1 q1) fun iv s2 ⟨y,H2,I2,r2,q2⟩=>?_))
 refine wpAny_bind (wpAny_standAt (wpAny_bind (wpAny_holding (thn (hs pins s2 σ H2 x y v ov iv u _ I2 r1 r2 r q2) fun _ s3 ⟨H3,I3,q3⟩=>?_))))
 exact wpAny_release ⟨σ,H3,I3,q3⟩
def tAsg (te:TE) (g:TG):TS:=fun D σ H=>te σ H fun x H1=>g x σ H1 D.nx
theorem zag2 {tg e:Expr}{te:TE}{g:TG}(he:PE X e te) (hg:PG X tg g) (hs:swapsWithSole [tg] e pos.line X.env=pure false:=by rfl) (hw:swappedStores [tg] e X.env=pure none:=by rfl)
  (h1:(assignEach [tg] X.env).map (·.2)=[assign tg X.env]:=by rfl):PS X (.Assign [tg] e pos) (tAsg te g):=by
 intro pins s σ H D I h
 refine wpAny_Assign_stores (thn (he pins s σ H _ I h) fun v s1 ⟨x,H1,I1,r1,q1⟩=>?_) hs hw
 rw[h1]
 exact thn (hg pins s1 σ H1 x v _ I1 r1 q1) fun _ s2 q=>q
theorem zbu5 {i:Nat}{x:Str}{e:Expr}{te:TE}{pos':Pos}(hN:X.N.Nodup) (hi:X.N[i]?=some x) (hx:Loc X.env.scope x) (he:PE X e te) (hs:swapsWith e (some (.Name x pos')) pos.line X.env=pure false:=by rfl) (hf:X.fn x=true∨X.env.scope.names.lookup x=some .local:=by first|exact .inl rfl|exact .inr rfl|assumption) :
  PS X (.Assign [.Name x pos'] e pos) (tAsg te (zbi8 i)):=by
 intro pins s σ H D I h
 refine wpAny_Assign_Name (thn (he pins s σ H _ I h) fun v s1 ⟨y,H1,I1,r1,q1⟩=>?_) hs
 exact zz2 I1 hN hi hx r1 (fun s2 I2=>⟨_,H1,I2,q1⟩) hf
end
section
variable {X:Cx}{pos:Pos}
def tWhile (c:TT) (tb:TS):TS:=fun D σ H=>∃ W:Nat->St->Hp->Prop,(∃ m,W m σ H)/\∀ m σ H,W m σ H ->
 c σ H fun b H1=>if b=true then ∃ N:St->Hp->Prop,(∀ σ' H',N σ' H'->∃ m',m'<m/\W m' σ' H')/\tb { D with nx:=N,ct:=N,bk:=D.nx } σ H1 else D.nx σ H1
theorem zby8 {c:Expr}{body:List Stmt}{tc:TT}{tb:TS}(hp:PassesOwn (model X.prog X.w) X.A X.env X.xe) (hc:PT X c tc) (hb:PSs X body tb):PS X (.While c body [] pos) (tWhile tc tb):=by
 intro pins s σ H D I h
 obtain⟨W,⟨m0,w0⟩,turn⟩:=h
 refine wpAny_While (codeAny_whileLoop (fun n s'=>∃ σ' H',Inv X pins σ' H' s'/\W n σ' H') ?_ m0 ⟨σ,H,I,w0⟩)
 rintro n s1 ⟨σ1,H1,I1,w1⟩
 refine wpAny_passesOwn hp (thn (hc pins s1 σ1 H1 _ I1 (turn n σ1 H1 w1)) fun b s2 ⟨H2,I2,q2⟩=>?_)
 cases b with
 | true=>
  obtain⟨N,hN,q2⟩:=q2
  rw[if_pos rfl]
  refine wpAny_passesOwn hp (thn (hb pins s2 σ1 H2 _ I2 q2) fun f s3 q3=>?_)
  cases f with
  | next=>
   obtain⟨σ3,H3,I3,n3⟩:=q3
   obtain⟨m',hm,w3⟩:=hN σ3 H3 n3
   exact⟨m',hm,σ3,H3,I3,w3⟩
  | cont=>
   obtain⟨σ3,H3,I3,n3⟩:=q3
   obtain⟨m',hm,w3⟩:=hN σ3 H3 n3
   exact⟨m',hm,σ3,H3,I3,w3⟩
  | brk=>exact q3
  | ret v=>exact q3
 | false=>
  rw[if_neg zcw2]
  exact wpAny_execs_nil ⟨σ1,H2,I2,q2⟩
end
structure It where
 go:Nat->Hp->Prop
 yld:Nat->Hp->V->Hp->Prop
 stop:Nat->Hp->Prop
def FpOk (X:Cx) (pins:List (Addr×Obj)) (H:Hp) (b:Addr):Prop:=
 H b=none/\b≠X.env.locals/\b ∉ X.fs/\(b∈X.ex∨X.s₀.heap.objs.size<=b)/\(∀ x c,X.env.cells.lookup x=some c->c≠b)/\∀ p∈X.pn++pins,p.1≠b
theorem Inv.fpOk {X:Cx}{pins:List (Addr×Obj)}{σ:St}{H H':Hp}{s:Shared}{b:Addr}(I:Inv X pins σ H s) (hb:s.heap.objs.size<=b) (hn:H' b=none):FpOk X pins H' b:=by
 refine⟨hn,zdc0 (zcx9 I.lt hb),I.nofs hb,.inr (zdb2 I.sz hb),fun x c e z=>?_,fun p hp z=>?_⟩
 ·obtain⟨v,q⟩:=I.cell x c e
  exact absurd (zcx9 q.lt (by rw[z];exact hb)) (zdc9 _)
 ·exact absurd (zcx9 (zcw6 (I.pin p hp).1) (by rw[z];exact hb)) (zdc9 _)
structure Turn (P:Program) (w:World) (K:zcu8) (tg:Expr) (J:It) (fp:List Addr) (it:Addr) (tn:Nat->Heap->Prop):Prop where
 mem:it∈fp
 obj:∀ i h,tn i h->∀ b∈fp,∃ o,h.get? b=some o/\∀ v,o.data≠.cell v
 keep:∀ i h h',tn i h->(∀ b∈fp,∀ o,h.get? b=some o->h'.get? b=some o)->tn i h'
 item:∀ (X:Cx),X.prog=P->X.w=w->X.K=K->X.calm=true->∀ (i:Nat) (pins:List (Addr×Obj)) (s:Shared) (σ:St) (H:Hp) (E:Value->Shared->Prop),Inv X pins σ H s->(∀ b∈fp,FpOk X pins H b)->tn i s.heap->J.go i H ->
  wpAny (model P w) X.A (pyNext (.ref it)) (fun r s1=>∃ u,r=some u /\
   wpAny (model P w) X.A (letOwnedTupleGo tg (.ref it) u) (fun _ s2=>∃ x H',Inv X pins σ H' s2/\RelV x u/\J.yld i H x H'/\tn (i+1) s2.heap/\∀ b∈fp,H' b=none) E s1) E s
 done:∀ (X:Cx),X.prog=P->X.w=w->X.K=K->X.calm=true->∀ (i:Nat) (pins:List (Addr×Obj)) (s:Shared) (σ:St) (H:Hp) (E:Value->Shared->Prop),Inv X pins σ H s->(∀ b∈fp,FpOk X pins H b)->tn i s.heap->J.stop i H ->
  wpAny (model P w) X.A (pyNext (.ref it)) (fun r s1=>r=none/\Inv X pins σ H s1) E s
 self:∀ (A:Around) (i:Nat) (s:Shared) (Q:Value->Shared->Prop) (E:Value->Shared->Prop),tn i s.heap->Q (.ref it) s->wpAny (model P w) A (pyIter (.ref it)) Q E s
abbrev TI:=St->Hp->(It->Hp->Prop)->Prop
def PIE (X:Cx) (pins:List (Addr×Obj)) (σ:St) (tg:Expr) (R:It->Hp->Prop) (itv:Value) (s2:Shared):Prop:=
 ∃ (it:Addr) (fp:List Addr) (tn:Nat->Heap->Prop) (J:It) (H':Hp),itv=.ref it/\Inv X pins σ H' s2/\Turn X.prog X.w X.K tg J fp it tn/\tn 0 s2.heap/\(∀ b∈fp,FpOk X pins H' b)/\R J H'
def PI (X:Cx) (tg iter:Expr) (wi:TI):Prop:=
 ∀ (pins:List (Addr×Obj)) (s:Shared) (σ:St) (H:Hp) (R:It->Hp->Prop),Inv X pins σ H s->wi σ H R ->
  wpAny (model X.prog X.w) X.A (eval iter X.env) (fun v s1=>wpAny (model X.prog X.w) X.A (pyIter v) (PIE X pins σ tg R) X.xe s1) X.xe s
theorem go_of {M:Model}{A:Around}{E:Value->Shared->Prop}{s:Shared}{tg:Expr}{it:Addr}{u:Value}{o:Obj}{n:String}{vs:Array Value}{Q:Unit->Shared->Prop}(ho:s.heap.get? it=some o) (hc:o.cls=.type n) (hd:o.data=.fields vs)
  (hn:["enumerate","zip","dict_itemiterator","dict_reverseitemiterator","odict_iterator","itertools.zip_longest","itertools.pairwise"].contains n=false) (hQ:Q () s):wpAny M A (letOwnedTupleGo tg (.ref it) u) Q E s:=by
 unfold letOwnedTupleGo
 cases tg<;>first
  | exact wpAny_pure hQ
  | (cases u<;>first
    | exact wpAny_pure hQ
    | (refine wpAny_bind (wpAny_load ho ?_);rw[hc,hd];show wpAny M A (if (["enumerate","zip","dict_itemiterator","dict_reverseitemiterator","odict_iterator","itertools.zip_longest","itertools.pairwise"].contains n&&vs[0]?==some (rawInt _))=true then _ else _) Q E s;rw[if_neg (by intro h;rw[hn,zdd6] at h;cases h)];exact wpAny_pure hQ))
def Itl (K:zcu8) (a:Addr):It:=
 ⟨fun i H=>∃ xs x,SqL K H a xs/\xs[i]?=some x,fun i H x H'=>H'=H/\∀ xs,SqL K H a xs->xs[i]?=some x,fun i H=>∃ xs,SqL K H a xs/\xs.length<=i⟩
def Itt (K:zcu8) (a:Addr):It:=
 ⟨fun i H=>∃ xs x,SqT K H a xs/\xs[i]?=some x,fun i H x H'=>H'=H/\∀ xs,SqT K H a xs->xs[i]?=some x,fun i H=>∃ xs,SqT K H a xs/\xs.length<=i⟩
def Itr (lo:Int) (n:Nat):It:=⟨fun i _=>i<n,fun i H x H'=>H'=H/\x=.int (lo+i),fun i _=>n<=i⟩
theorem zbw1 {P:Program}{w:World}{K:zcu8}{tg:Expr}(a it:Addr):Turn P w K tg (Itl K a) [it] it (fun i h=>h.IsListIter it a i) where
 mem:=by simp
 obj:=fun i h st b hb=>by
  have e:b=it:=by simpa using hb
  subst e
  obtain⟨o,e,c,d⟩:=st
  exact⟨o,e,fun v z=>by rw[d] at z;cases z⟩
 keep:=fun i h h' st k=>st.at fun o e=>k it (by simp) o e
 item:=by
  intro X hP hw hK hc i pins s σ H E I hf st hg
  subst hP hw hK
  obtain⟨xs,x,hq,hx⟩:=hg
  obtain⟨its,rv,p,hz⟩:=I.list hq
  obtain⟨u,hu,ru⟩:=rv.get hx
  obtain⟨f0,f1,f2,f3,f4,f5⟩:=hf it (by simp)
  refine wpAny_pyNext_list_item st p.isList (x:=u) (by simpa using hu) fun h' st' sb=>?_
  have I1:Inv X pins σ H { s with heap:=h' }:=I.turned (t':=s.toks) (fun b o hb e=>(sb.2 b hb).trans e) f0 f1 f3 f4 f5
  obtain⟨o,e,c,d⟩:=id st'
  exact⟨u,rfl,go_of (s:={ s with heap:=h' }) e c d (by decide) ⟨x,H,I1,ru,⟨rfl,fun ys hy=>by rw[I.list_inj hy hq];exact hx⟩,st',fun b hb=>(hf b hb).1⟩⟩
 done:=by
  intro X hP hw hK hc i pins s σ H E I hf st hg
  subst hP hw hK
  obtain⟨xs,hq,hx⟩:=hg
  obtain⟨its,rv,p,hz⟩:=I.list hq
  obtain⟨f0,f1,f2,f3,f4,f5⟩:=hf it (by simp)
  have hl:=rv.length
  exact wpAny_pyNext_list_end (I.ok.hd hc) st p.isList (by simp;omega) fun h' eb=>⟨rfl,I.turned (t':=s.toks) (fun b o hb e=>eb b o hb e) f0 f1 f3 f4 f5⟩
 self:=fun _ _ _ _ _ st h=>wpAny_pyIter_listiter st h
theorem zbl0 {P:Program}{w:World}{K:zcu8}{tg:Expr}(a it:Addr):Turn P w K tg (Itt K a) [it] it (fun i h=>h.IsTupleIter it a i) where
 mem:=by simp
 obj:=fun i h st b hb=>by
  have e:b=it:=by simpa using hb
  subst e
  obtain⟨o,e,c,d⟩:=st
  exact⟨o,e,fun v z=>by rw[d] at z;cases z⟩
 keep:=fun i h h' st k=>st.at fun o e=>k it (by simp) o e
 item:=by
  intro X hP hw hK hc i pins s σ H E I hf st hg
  subst hP hw hK
  obtain⟨xs,x,hq,hx⟩:=hg
  obtain⟨its,rv,p,hz⟩:=I.tuple hq
  obtain⟨u,hu,ru⟩:=rv.get hx
  obtain⟨f0,f1,f2,f3,f4,f5⟩:=hf it (by simp)
  refine wpAny_pyNext_tuple_item st (show s.heap.IsTuple a its.toArray from p) (x:=u) (by simpa using hu) fun h' st' sb=>?_
  have I1:Inv X pins σ H { s with heap:=h' }:=I.turned (t':=s.toks) (fun b o hb e=>(sb.2 b hb).trans e) f0 f1 f3 f4 f5
  obtain⟨o,e,c,d⟩:=id st'
  exact⟨u,rfl,go_of (s:={ s with heap:=h' }) e c d (by decide) ⟨x,H,I1,ru,⟨rfl,fun ys hy=>by rw[I.tuple_inj hy hq];exact hx⟩,st',fun b hb=>(hf b hb).1⟩⟩
 done:=by
  intro X hP hw hK hc i pins s σ H E I hf st hg
  subst hP hw hK
  obtain⟨xs,hq,hx⟩:=hg
  obtain⟨its,rv,p,hz⟩:=I.tuple hq
  obtain⟨f0,f1,f2,f3,f4,f5⟩:=hf it (by simp)
  have hl:=rv.length
  exact wpAny_pyNext_tuple_end (I.ok.hd hc) st (show s.heap.IsTuple a its.toArray from p) (by simp;omega) fun h' eb=>⟨rfl,I.turned (t':=s.toks) (fun b o hb e=>eb b o hb e) f0 f1 f3 f4 f5⟩
 self:=fun _ _ _ _ _ st h=>wpAny_pyIter_tupleiter st h
theorem zbk2 {P:Program}{w:World}{K:zcu8}{tg:Expr}(it:Addr) (lo:Int) (n:Nat):Turn P w K tg (Itr lo n) [it] it (fun i h=>IsRangeIter h it (lo+(i:Nat)*1) ((n:Int) - (i:Nat)) 1) where
 mem:=by simp
 obj:=fun i h st b hb=>by
  have e:b=it:=by simpa using hb
  subst e
  exact⟨_,st,fun v z=>by
   have z':Data.fields _=Data.cell v:=z
   cases z'⟩
 keep:=fun i h h' st k=>k it (by simp) _ st
 item:=by
  intro X hP hw hK hc i pins s σ H E I hf st hg
  subst hP hw hK
  obtain⟨f0,f1,f2,f3,f4,f5⟩:=hf it (by simp)
  have W:=Walks.range (prog:=X.prog) (w:=X.w) (I.ok.hd hc) it lo 1 n
  refine W.item i s _ _ hg st fun v h' tk hv st' kk=>?_
  obtain⟨t,rfl⟩:=hv
  have I1:Inv X pins σ H { s with heap:=h',toks:=tk }:=I.turned (fun b o hb e=>kk b o (by simpa using hb) e) f0 f1 f3 f4 f5
  refine⟨_,rfl,go_of (s:={ s with heap:=h',toks:=tk }) (n:="range_iterator") st' rfl rfl (by decide) ⟨.int (lo+i),H,I1,⟨t,?_⟩,⟨rfl,rfl⟩,st',fun b hb=>(hf b hb).1⟩⟩
  rw[Int.mul_one]
 done:=by
  intro X hP hw hK hc i pins s σ H E I hf st hg
  subst hP hw hK
  obtain⟨f0,f1,f2,f3,f4,f5⟩:=hf it (by simp)
  exact wpAny_pyNext_range_end (I.ok.hd hc) st (by have:n<=i:=hg;omega) fun h' eb=>⟨rfl,I.turned (t':=s.toks) (fun b o hb e=>eb b o hb e) f0 f1 f3 f4 f5⟩
 self:=fun _ _ _ _ _ st h=>wpAny_pyIter_rangeiter st h
end L2
namespace L2
open PySem PySem.Spec PyProof.Rows
section
variable {X:Cx}{tg:Expr}
theorem zbf8 {pins:List (Addr×Obj)}{σ:St}{H:Hp}{s:Shared}{R:It->Hp->Prop}{E:Value->Shared->Prop}{lo hi:Int}{t u v:Tok}{tk:Nat}(I:Inv X pins σ H s) (h1:-(2 ^ 62)<=lo) (h2:lo<2 ^ 62) (h3:-(2 ^ 62)<=hi) (h4:hi<2 ^ 62)
  (q:R (Itr lo (hi - lo).toNat) H):wpAny (model X.prog X.w) X.A (pyIter (.ref s.heap.objs.size)) (PIE X pins σ tg R) E { s with heap:=s.heap.push { cls:=.type "range",data:=.fields #[.int lo t,.int hi u,.int 1 v] },toks:=tk }:=by
 refine wpAny_pyIter_range (IsRange.new ..) (small_one h1 h2 h3 h4) ?_
 have I1:Inv X pins σ H { s with heap:=s.heap.push { cls:=.type "range",data:=.fields #[.int lo t,.int hi u,.int 1 v] },toks:=tk }:=I.kept fun b o e=>zcv0 _ e
 refine⟨(s.heap.push { cls:=.type "range",data:=.fields #[.int lo t,.int hi u,.int 1 v] }).objs.size,[(s.heap.push { cls:=.type "range",data:=.fields #[.int lo t,.int hi u,.int 1 v] }).objs.size],_,_,H,rfl,
  I1.kept (t':=tk) fun b o e=>zcv0 _ e,zbk2 _ lo (hi - lo).toNat,?_,fun b hb=>?_,q⟩
 ·have e1:lo+((0:Nat):Int)*1=lo:=by simp
  have e2:(((hi - lo).toNat:Nat):Int) - ((0:Nat):Int)=Builtin.Range.rangeSize lo hi 1:=by rw[rangeSize_one];split<;>omega
  show IsRangeIter _ _ (lo+((0:Nat):Int)*1) ((((hi - lo).toNat:Nat):Int) - ((0:Nat):Int)) 1
  rw[e1,e2]
  exact zcx2 _ rfl
 ·have e:b=(s.heap.push { cls:=.type "range",data:=.fields #[.int lo t,.int hi u,.int 1 v] }).objs.size:=by simpa using hb
  subst e
  exact I1.fpOk (zcw9 _) (I1.hok.fresh (zcw9 _))
def tFor (wi:TI) (g:TG) (tb:TS):TS:=fun D σ H=>wi σ H fun J H1=>∃ W:Nat->Nat->St->Hp->Prop,(∃ m,W 0 m σ H1)/\∀ i m σ H,W i m σ H ->
 (J.stop i H/\D.nx σ H)∨(J.go i H/\∃ N:St->Hp->Prop,(∀ σ' H',N σ' H'->∃ m',m'<m/\W (i+1) m' σ' H')/\∀ x H',J.yld i H x H'->g x σ H' fun σ2 H2=>tb { D with nx:=N,ct:=N,bk:=D.nx } σ2 H2)
def zaw5 (fp:List Addr) (h:Heap):List (Addr×Obj):=fp.filterMap fun b=>(h.get? b).map fun o=>(b,o)
theorem zz3 {fp:List Addr}{h:Heap}{b:Addr}{o:Obj}(hb:b∈fp) (e:h.get? b=some o):(b,o)∈zaw5 fp h:=List.mem_filterMap.mpr ⟨b,hb,by rw[e];rfl⟩
theorem zbn6 {fp:List Addr}{h:Heap}{p:Addr×Obj}(hp:p∈zaw5 fp h):p.1∈fp/\h.get? p.1=some p.2:=by
 obtain⟨b,hb,e⟩:=List.mem_filterMap.mp hp
 cases q:h.get? b with
 | none=>rw[q] at e;cases e
 | some o=>
  rw[q] at e
  have e':(b,o)=p:=Option.some.inj e
  subst e'
  exact⟨hb,q⟩
theorem Inv.pinned {pins:List (Addr×Obj)}{σ:St}{H:Hp}{s:Shared}{fp:List Addr}(I:Inv X pins σ H s) (hf:∀ b∈fp,FpOk X pins H b) (ho:∀ b∈fp,∃ o,s.heap.get? b=some o/\∀ v,o.data≠.cell v):Inv X (pins++zaw5 fp s.heap) σ H s:=
 I.pins_of fun p hp=>(zcy0.mp hp).elim (fun z=>I.pin p (zcz0 _ z)) fun z=>by
  obtain⟨hb,e⟩:=zbn6 z
  obtain⟨f0,f1,f2,_⟩:=hf p.1 hb
  obtain⟨o,e',d⟩:=ho p.1 hb
  rw[e] at e';cases e'
  exact⟨e,f0,f1,f2,d⟩
theorem Inv.unpinned {pins pl:List (Addr×Obj)}{σ:St}{H:Hp}{s:Shared}(I:Inv X (pins++pl) σ H s):Inv X pins σ H s:=I.pins_of fun p hp=>I.pin p (zcz0 _ (List.mem_append_left _ hp))
theorem ps_for {iter:Expr}{body:List Stmt}{wi:TI}{g:TG}{tb:TS}{pos:Pos}(hp:PassesOwn (model X.prog X.w) X.A X.env X.xe) (hc:X.calm=true) (hi:PI X tg iter wi) (hg:PG X tg g) (hb:PSs X body tb)
  (hs:∀ x,foldedSetIterable iter X.env x=pure x:=by intro _;rfl):PS X (.For tg iter body [] pos) (tFor wi g tb):=by
 intro pins s σ H D I h
 refine wpAny_For (thn (hi pins s σ H _ I h) fun v s1 h1=>thn h1 fun itv s2 h2=>?_) hs
 obtain⟨it,fp,tn,J,H2,e,I2,T,st2,f2,W,⟨m0,w0⟩,turn⟩:=h2
 subst e
 have stat:∀ {H':Hp},(∀ b∈fp,H' b=none)->∀ b∈fp,FpOk X pins H' b:=fun hn b hb=>⟨hn b hb,(f2 b hb).2⟩
 refine codeAny_forLoop_any (fun n s'=>∃ i σ' H',Inv X pins σ' H' s'/\tn i s'.heap/\(∀ b∈fp,H' b=none)/\W i n σ' H') ?_ m0 ⟨0,σ,H2,I2,st2,fun b hb=>(f2 b hb).1,w0⟩
 rintro n s3 ⟨i,σ3,H3,I3,st3,fr3,w3⟩
 rcases turn i n σ3 H3 w3 with ⟨stop,qn⟩|⟨go,N,hN,step⟩
 ·refine wpAny_passesOwn hp (thn (T.done X rfl rfl rfl hc i pins s3 σ3 H3 X.xe I3 (stat fr3) st3 stop) fun r s4 ⟨hr,I4⟩=>?_)
  subst hr
  exact wpAny_execs_nil ⟨σ3,H3,I4,qn⟩
 ·refine wpAny_passesOwn hp (thn (T.item X rfl rfl rfl hc i pins s3 σ3 H3 X.xe I3 (stat fr3) st3 go) fun r s4 ⟨u,hr,h4⟩=>?_)
  subst hr
  refine wpAny_passesOwn hp (thn h4 fun _ s5 ⟨x,H5,I5,r5,y5,st5,fr5⟩=>?_)
  have I5':=I5.pinned (stat fr5) (T.obj _ _ st5)
  refine wpAny_passesOwn hp (thn (hg _ s5 σ3 H5 x u _ I5' r5 (step x H5 y5)) fun _ s6 ⟨σ6,H6,I6,q6⟩=>?_)
  refine wpAny_passesOwn hp (thn (hb _ s6 σ6 H6 _ I6 q6) fun f s7 q7=>?_)
  have again:∀ {σ7:St}{H7:Hp},Inv X (pins++zaw5 fp s5.heap) σ7 H7 s7->N σ7 H7->∃ m,m<n/\∃ i σ' H',Inv X pins σ' H' s7/\tn i s7.heap/\(∀ b∈fp,H' b=none)/\W i m σ' H':=fun {σ7 H7} I7 n7=>by
   obtain⟨m',hm,w7⟩:=hN σ7 H7 n7
   refine⟨m',hm,i+1,σ7,H7,I7.unpinned,T.keep _ _ _ st5 fun b hb o e=>(I7.pin (b,o) (zcz0 _ (zcz0 _ (zz3 hb e)))).1,fun b hb=>?_,w7⟩
   obtain⟨o,e,d⟩:=T.obj _ _ st5 b hb
   exact (I7.pin (b,o) (zcz0 _ (zcz0 _ (zz3 hb e)))).2.1
  cases f with
  | next=>obtain⟨σ7,H7,I7,n7⟩:=q7;exact again I7 n7
  | cont=>obtain⟨σ7,H7,I7,n7⟩:=q7;exact again I7 n7
  | brk=>obtain⟨σ7,H7,I7,q7⟩:=q7;exact⟨σ7,H7,I7.unpinned,q7⟩
  | ret v=>obtain⟨x7,σ7,H7,I7,r7,q7⟩:=q7;exact⟨x7,σ7,H7,I7.unpinned,r7,q7⟩
end
theorem zby2 {K:zcu8}{a:Addr}{xs:List V}{g:TG}{tb:TS}{D:Ends}{σ:St}{H:Hp}(Pv:Nat->St->Hp->Prop) (h0:Pv 0 σ H) (hl:∀ i σ H,i<=xs.length->Pv i σ H->SqL K H a xs)
  (hs:∀ i x σ H,xs[i]?=some x->Pv i σ H->g x σ H fun σ2 H2=>tb { D with nx:=Pv (i+1),ct:=Pv (i+1),bk:=D.nx } σ2 H2) (hd:∀ σ H,Pv xs.length σ H->D.nx σ H) :
  ∃ W:Nat->Nat->St->Hp->Prop,(∃ m,W 0 m σ H)/\∀ i m σ H,W i m σ H ->
   ((Itl K a).stop i H/\D.nx σ H)∨((Itl K a).go i H/\∃ N:St->Hp->Prop,(∀ σ' H',N σ' H'->∃ m',m'<m/\W (i+1) m' σ' H')/\∀ x H',(Itl K a).yld i H x H'->g x σ H' fun σ2 H2=>tb { D with nx:=N,ct:=N,bk:=D.nx } σ2 H2):=by
 refine⟨fun i m σ H=>m=xs.length - i/\i<=xs.length/\Pv i σ H,⟨xs.length,by simp,zcz3 _,h0⟩,?_⟩
 rintro i m σ H ⟨rfl,hi,p⟩
 have q:=hl i σ H hi p
 by_cases hlt:i<xs.length
 ·refine .inr ⟨⟨xs,xs[i],q,by simp[hlt]⟩,Pv (i+1),fun σ' H' p'=>⟨xs.length - (i+1),by omega,rfl,hlt,p'⟩,fun x H' y=>?_⟩
  obtain⟨e,y⟩:=y
  subst e
  exact hs i x σ _ (y xs q) p
 ·have e:i=xs.length:=by omega
  subst e
  exact .inl ⟨⟨xs,q,zcw9 _⟩,hd σ H p⟩
theorem zbs4 {lo:Int}{n:Nat}{g:TG}{tb:TS}{D:Ends}{σ:St}{H:Hp}(Pv:Nat->St->Hp->Prop) (h0:Pv 0 σ H)
  (hs:∀ i σ H,i<n->Pv i σ H->g (.int (lo+i)) σ H fun σ2 H2=>tb { D with nx:=Pv (i+1),ct:=Pv (i+1),bk:=D.nx } σ2 H2) (hd:∀ σ H,Pv n σ H->D.nx σ H) :
  ∃ W:Nat->Nat->St->Hp->Prop,(∃ m,W 0 m σ H)/\∀ i m σ H,W i m σ H ->
   ((Itr lo n).stop i H/\D.nx σ H)∨((Itr lo n).go i H/\∃ N:St->Hp->Prop,(∀ σ' H',N σ' H'->∃ m',m'<m/\W (i+1) m' σ' H')/\∀ x H',(Itr lo n).yld i H x H'->g x σ H' fun σ2 H2=>tb { D with nx:=N,ct:=N,bk:=D.nx } σ2 H2):=by
 refine⟨fun i m σ H=>m=n - i/\i<=n/\Pv i σ H,⟨n,by simp,zcz3 _,h0⟩,?_⟩
 rintro i m σ H ⟨rfl,hi,p⟩
 by_cases hlt:i<n
 ·refine .inr ⟨hlt,Pv (i+1),fun σ' H' p'=>⟨n - (i+1),by omega,rfl,hlt,p'⟩,fun x H' y=>?_⟩
  obtain⟨e,y⟩:=y
  subst e y
  exact hs i σ _ hlt p
 ·have e:i=n:=by omega
  subst e
  exact .inl ⟨zcw9 _,hd σ H p⟩
end L2
namespace L2
open PySem PySem.Spec PyProof.Rows
abbrev R2:=V->V->Hp->VK->Prop
def OpR (X:Cx) (f:Value->Value->Sem Value) (r:R2):Prop:=
 ∀ (pins:List (Addr×Obj)) (s:Shared) (σ:St) (H:Hp) (x y:V) (v u:Value) (Q:VK),Inv X pins σ H s->RelV x v->RelV y u->r x y H Q ->
  wpAny (model X.prog X.w) X.A (f v u) (EP X pins σ Q) X.xe s
def UnR (X:Cx) (f:Value->Sem Value) (r:V->Hp->VK->Prop):Prop:=
 ∀ (pins:List (Addr×Obj)) (s:Shared) (σ:St) (H:Hp) (x:V) (v:Value) (Q:VK),Inv X pins σ H s->RelV x v->r x H Q ->
  wpAny (model X.prog X.w) X.A (f v) (EP X pins σ Q) X.xe s
def zt2 (X:Cx) (f:Value) (r:List V->Hp->VK->Prop):Prop:=
 ∀ (pins:List (Addr×Obj)) (s:Shared) (σ:St) (H:Hp) (xs:List V) (us:List Value) (Q:VK),Inv X pins σ H s->Vals xs us->r xs H Q ->
  wpAny (model X.prog X.w) X.A (call f us) (EP X pins σ Q) X.xe s
def TruR (X:Cx) (r:V->Hp->(Bool->Hp->Prop)->Prop):Prop:=
 ∀ (pins:List (Addr×Obj)) (s:Shared) (σ:St) (H:Hp) (x:V) (v:Value) (Q:Bool->Hp->Prop),Inv X pins σ H s->RelV x v->r x H Q ->
  wpAny (model X.prog X.w) X.A (truthy v) (TP X pins σ Q) X.xe s
def tOp (r:R2) (ta tb:TE):TE:=fun σ H Q=>ta σ H fun x H1=>tb σ H1 fun y H2=>r x y H2 Q
def tUn (r:V->Hp->VK->Prop) (ta:TE):TE:=fun σ H Q=>ta σ H fun x H1=>r x H1 Q
def rI (C:Int->Int->Prop) (g:Int->Int->V):R2:=fun x y H Q=>∃ i j,x=.int i/\y=.int j/\C i j/\Q (g i j) H
def rI0 (g:Int->Int->V):R2:=fun x y H Q=>∃ i j,x=.int i/\y=.int j/\Q (g i j) H
def rU (g:Int->V):V->Hp->VK->Prop:=fun x H Q=>∃ i,x=.int i/\Q (g i) H
section
variable {X:Cx}{a b c:Expr}{ta tb tc:TE}{pos:Pos}
theorem binT (ha:PE X a ta) (hb:PE X b tb) {pins:List (Addr×Obj)}{s:Shared}{σ:St}{H:Hp}{R:V->V->Hp->Prop}(I:Inv X pins σ H s)
  (h:ta σ H fun x H1=>tb σ H1 fun y H2=>R x y H2) {Q:Value->Shared->Prop}{f:Value->Value->Sem Value}
  (hf:∀ v u s2 x y H2,Inv X pins σ H2 s2->RelV x v->RelV y u->R x y H2->wpAny (model X.prog X.w) X.A (f v u) Q X.xe s2) :
  wpAny (model X.prog X.w) X.A (eval a X.env) (fun v s₁=>wpAny (model X.prog X.w) X.A (eval b X.env) (fun u s₂=>wpAny (model X.prog X.w) X.A (f v u) Q X.xe s₂) X.xe s₁) X.xe s:=by
 refine thn (ha pins s σ H _ I h) fun v s1 ⟨x,H1,I1,r1,q1⟩=>?_
 refine thn (hb pins s1 σ H1 _ I1 q1) fun u s2 ⟨y,H2,I2,r2,q2⟩=>?_
 exact hf v u s2 x y H2 I2 r1 r2 q2
theorem zb4 {op:Operator}{r:R2}(ho:OpR X (binaryOp op) r) (ha:PE X a ta) (hb:PE X b tb):PE X (.BinOp a op b pos) (tOp r ta tb):=by
 intro pins s σ H Q I h
 exact wpAny_BinOp (binT ha hb I h fun v u s2 x y H2 I2 rx ry q=>ho pins s2 σ H2 x y v u Q I2 rx ry q)
theorem zaa3 {op:UnaryOp}{r:V->Hp->VK->Prop}(ho:UnR X (unaryOp op) r) (ha:PE X a ta):PE X (.UnaryOp op a pos) (tUn r ta):=by
 intro pins s σ H Q I h
 exact UnaryOp_ (thn (ha pins s σ H _ I h) fun v s1 ⟨x,H1,I1,r1,q1⟩=>ho pins s1 σ H1 x v Q I1 r1 q1)
theorem opI {f:Value->Value->Sem Value}{C:Int->Int->Prop}{g:Int->Int->Int}
  (rule:∀ (i j:Int) (t u:Tok) (s:Shared) (Q:Value->Shared->Prop) (E:Value->Shared->Prop),C i j->Q (.int (g i j) s.toks) { s with toks:=s.toks+1 }->wpAny (model X.prog X.w) X.A (f (.int i t) (.int j u)) Q E s) :
  OpR X f (rI C fun i j=>.int (g i j)):=by
 intro pins s σ H x y v u Q I rx ry h
 obtain⟨i,j,rfl,rfl,hc,q⟩:=h
 obtain⟨t,rfl⟩:=rx
 obtain⟨t',rfl⟩:=ry
 exact rule i j t t' s _ _ hc ⟨.int (g i j),H,I.tok _,⟨_,rfl⟩,q⟩
theorem opI0 {f:Value->Value->Sem Value}{g:Int->Int->Int}
  (rule:∀ (i j:Int) (t u:Tok) (s:Shared) (Q:Value->Shared->Prop) (E:Value->Shared->Prop),Q (.int (g i j) s.toks) { s with toks:=s.toks+1 }->wpAny (model X.prog X.w) X.A (f (.int i t) (.int j u)) Q E s) :
  OpR X f (rI0 fun i j=>.int (g i j)):=by
 intro pins s σ H x y v u Q I rx ry h
 obtain⟨i,j,rfl,rfl,q⟩:=h
 obtain⟨t,rfl⟩:=rx
 obtain⟨t',rfl⟩:=ry
 exact rule i j t t' s _ _ ⟨.int (g i j),H,I.tok _,⟨_,rfl⟩,q⟩
theorem opB0 {f:Value->Value->Sem Value}{g:Int->Int->Bool}
  (rule:∀ (i j:Int) (t u:Tok) (s:Shared) (Q:Value->Shared->Prop) (E:Value->Shared->Prop),Q (.bool (g i j)) s->wpAny (model X.prog X.w) X.A (f (.int i t) (.int j u)) Q E s) :
  OpR X f (rI0 fun i j=>.bl (g i j)):=by
 intro pins s σ H x y v u Q I rx ry h
 obtain⟨i,j,rfl,rfl,q⟩:=h
 obtain⟨t,rfl⟩:=rx
 obtain⟨t',rfl⟩:=ry
 exact rule i j t t' s _ _ ⟨.bl (g i j),H,I,rfl,q⟩
def CPow (i j:Int):Prop:=0<=j/\j<=1000000/\i.natAbs<2 ^ 64
def CMul (i j:Int):Prop:=(-(2 ^ 64)<i/\i<2 ^ 64)∨(-(2 ^ 64)<j/\j<2 ^ 64)
theorem CMul.ok {i j:Int}(h:CMul i j):IntMulOk i j:=by
 rcases h with ⟨h1,h2⟩|⟨h1,h2⟩
 ·exact .of_left (intBits_le_64 h1 h2)
 ·exact .of_right (intBits_le_64 h1 h2)
theorem op_add:OpR X (binaryOp .Add) (rI0 fun i j=>.int (i+j)):=opI0 fun _ _ _ _ _ _ _ q=>add_int q
theorem op_sub:OpR X (binaryOp .Sub) (rI0 fun i j=>.int (i - j)):=opI0 fun _ _ _ _ _ _ _ q=>sub_int q
theorem zch9:OpR X (binaryOp .Mod) (rI (fun _ j=>j≠0) fun i j=>.int (i.fmod j)):=opI fun _ _ _ _ _ _ _ hc q=>mod_int' hc q
theorem op_pow:OpR X (binaryOp .Pow) (rI CPow fun i j=>.int (i ^ j.toNat)):=opI fun _ _ _ _ _ _ _ hc q=>pow_int_small hc.1 hc.2.1 hc.2.2 q
theorem unI {f:Value->Sem Value}{g:Int->Int}
  (rule:∀ (i:Int) (t:Tok) (s:Shared) (Q:Value->Shared->Prop) (E:Value->Shared->Prop),Q (.int (g i) s.toks) { s with toks:=s.toks+1 }->wpAny (model X.prog X.w) X.A (f (.int i t)) Q E s) :
  UnR X f (rU fun i=>.int (g i)):=by
 intro pins s σ H x v Q I rx h
 obtain⟨i,rfl,q⟩:=h
 obtain⟨t,rfl⟩:=rx
 exact rule i t s _ _ ⟨.int (g i),H,I.tok _,⟨_,rfl⟩,q⟩
theorem un_neg:UnR X (unaryOp .USub) (rU fun i=>.int (-i)):=unI fun _ _ _ _ _ q=>neg_int q
end
def scal:V->V->Bool
 | .non,.non=>true | .non,.int _=>true | .int _,.non=>true | .non,.bl _=>true | .bl _,.non=>true | .non,.str _=>true | .str _,.non=>true
 | .int _,.int _=>true | .bl _,.bl _=>true | .str _,.str _=>true | .byt _,.byt _=>true
 | .int _,.str _=>true | .str _,.int _=>true | .bl _,.str _=>true | .str _,.bl _=>true
 | _,_=>false
def rEq:R2:=fun x y H Q=>scal x y=true/\Q (.bl (decide (x=y))) H
def rNe:R2:=fun x y H Q=>scal x y=true/\Q (.bl (!decide (x=y))) H
theorem zbo1 {i j:Int}:decide (V.int i=V.int j)=(i==j):=by
 rw[zdd2]
 simp
theorem zcd9 {i j:Bool}:decide (V.bl i=V.bl j)=(i==j):=by
 rw[zdd2]
 simp
theorem zbq5 {i j:Str}:decide (V.str i=V.str j)=(i==j):=by
 rw[zdd2]
 simp
theorem zbw3 {i j:Array UInt8}:decide (V.byt i=V.byt j)=(i.toList==j.toList):=by
 rw[zdd2]
 cases i
 cases j
 simp
section
variable {X:Cx}{a b c:Expr}{ta tb tc:TE}{pos:Pos}
theorem zh8 {pins:List (Addr×Obj)}{σ:St}{H:Hp}{s:Shared}{Q:VK}{k k':Bool}(I:Inv X pins σ H s) (q:Q (.bl k) H) (e:k=k'):EP X pins σ Q (.bool k') s:=by
 subst e
 exact⟨.bl k,H,I,rfl,q⟩
theorem zbe2:OpR X (compareOp .Eq) rEq:=by
 intro pins s σ H x y v u Q I rx ry h
 obtain⟨hs,q⟩:=h
 cases x with
 | non=>
  cases rx
  cases y with
  | non=>cases ry;exact PySem.EqNone.eq_none_none (zh8 I q (by simp))
  | bl j=>cases ry;exact PySem.EqNone.eq_none_bool (zh8 I q (by simp))
  | int j=>obtain⟨t',rfl⟩:=ry;exact PySem.EqNone.eq_none_int (zh8 I q (by simp))
  | str j=>obtain⟨t',rfl⟩:=ry;exact PySem.EqNone.eq_none_str (zh8 I q (by simp))
  | _=>exact absurd (show false=true from hs) zcw2
 | bl i=>
  cases rx
  cases y with
  | non=>cases ry;exact PySem.EqNone.eq_bool_none (zh8 I q (by simp))
  | bl j=>cases ry;exact eq_bool (zh8 I q zcd9)
  | str j=>obtain⟨t',rfl⟩:=ry;exact PySem.EqMixed.eq_bool_str (zh8 I q (by simp))
  | _=>exact absurd (show false=true from hs) zcw2
 | int i=>
  obtain⟨t,rfl⟩:=rx
  cases y with
  | non=>cases ry;exact PySem.EqNone.eq_int_none (zh8 I q (by simp))
  | int j=>obtain⟨t',rfl⟩:=ry;exact eq_int (zh8 I q zbo1)
  | str j=>obtain⟨t',rfl⟩:=ry;exact PySem.EqMixed.eq_int_str (zh8 I q (by simp))
  | _=>exact absurd (show false=true from hs) zcw2
 | str i=>
  obtain⟨t,rfl⟩:=rx
  cases y with
  | non=>cases ry;exact PySem.EqNone.eq_str_none (zh8 I q (by simp))
  | bl j=>cases ry;exact PySem.EqMixed.eq_str_bool (zh8 I q (by simp))
  | int j=>obtain⟨t',rfl⟩:=ry;exact PySem.EqMixed.eq_str_int (zh8 I q (by simp))
  | str j=>obtain⟨t',rfl⟩:=ry;exact eq_str (zh8 I q zbq5)
  | _=>exact absurd (show false=true from hs) zcw2
 | byt i=>
  obtain⟨t,rfl⟩:=rx
  cases y with
  | byt j=>obtain⟨t',rfl⟩:=ry;exact PySem.W.eq_bytes (zh8 I q zbw3)
  | _=>exact absurd (show false=true from hs) zcw2
 | _=>cases y<;>exact absurd (show false=true from hs) zcw2
theorem zba3:OpR X (compareOp .NotEq) rNe:=by
 intro pins s σ H x y v u Q I rx ry h
 obtain⟨hs,q⟩:=h
 cases x with
 | non=>
  cases rx
  cases y with
  | non=>cases ry;exact PySem.EqNone.ne_none_none (zh8 I q (by simp))
  | bl j=>cases ry;exact PySem.EqNone.ne_none_bool (zh8 I q (by simp))
  | int j=>obtain⟨t',rfl⟩:=ry;exact PySem.EqNone.ne_none_int (zh8 I q (by simp))
  | str j=>obtain⟨t',rfl⟩:=ry;exact PySem.EqNone.ne_none_str (zh8 I q (by simp))
  | _=>exact absurd (show false=true from hs) zcw2
 | bl i=>
  cases rx
  cases y with
  | non=>cases ry;exact PySem.EqNone.ne_bool_none (zh8 I q (by simp))
  | bl j=>cases ry;exact ne_bool (zh8 I q (congrArg not zcd9))
  | str j=>obtain⟨t',rfl⟩:=ry;exact PySem.EqMixed.ne_bool_str (zh8 I q (by simp))
  | _=>exact absurd (show false=true from hs) zcw2
 | int i=>
  obtain⟨t,rfl⟩:=rx
  cases y with
  | non=>cases ry;exact PySem.EqNone.ne_int_none (zh8 I q (by simp))
  | int j=>obtain⟨t',rfl⟩:=ry;exact ne_int (zh8 I q (congrArg not zbo1))
  | str j=>obtain⟨t',rfl⟩:=ry;exact PySem.EqMixed.ne_int_str (zh8 I q (by simp))
  | _=>exact absurd (show false=true from hs) zcw2
 | str i=>
  obtain⟨t,rfl⟩:=rx
  cases y with
  | non=>cases ry;exact PySem.EqNone.ne_str_none (zh8 I q (by simp))
  | bl j=>cases ry;exact PySem.EqMixed.ne_str_bool (zh8 I q (by simp))
  | int j=>obtain⟨t',rfl⟩:=ry;exact PySem.EqMixed.ne_str_int (zh8 I q (by simp))
  | str j=>obtain⟨t',rfl⟩:=ry;exact ne_str (zh8 I q (congrArg not zbq5))
  | _=>exact absurd (show false=true from hs) zcw2
 | byt i=>
  obtain⟨t,rfl⟩:=rx
  cases y with
  | byt j=>obtain⟨t',rfl⟩:=ry;exact PySem.W.ne_bytes (zh8 I q (congrArg not zbw3))
  | _=>exact absurd (show false=true from hs) zcw2
 | _=>cases y<;>exact absurd (show false=true from hs) zcw2
theorem op_lt:OpR X (compareOp .Lt) (rI0 fun i j=>.bl (decide (i<j))):=opB0 fun _ _ _ _ _ _ _ q=>lt_int q
theorem op_le:OpR X (compareOp .LtE) (rI0 fun i j=>.bl (decide (i<=j))):=opB0 fun _ _ _ _ _ _ _ q=>le_int q
theorem op_gt:OpR X (compareOp .Gt) (rI0 fun i j=>.bl (decide (j<i))):=opB0 fun _ _ _ _ _ _ _ q=>gt_int q
theorem op_ge:OpR X (compareOp .GtE) (rI0 fun i j=>.bl (decide (j<=i))):=opB0 fun _ _ _ _ _ _ _ q=>ge_int q
theorem op_isN:OpR X (compareOp .Is) (fun x y H Q=>y=.non/\Q (.bl (decide (x=.non))) H):=by
 intro pins s σ H x y v u Q I rx ry h
 obtain⟨rfl,q⟩:=h
 cases ry
 refine is_none_gen (zh8 I q ?_)
 cases x<;>first
  | (cases rx;rfl)
  | (obtain⟨t,rfl⟩:=rx;rfl)
theorem zce1 (b:Expr) {op:CmpOp}(h:op≠.In:=by decide) (h2:op≠.NotIn:=by decide):behindInMarks op b=false:=by
 have e1:(op==CmpOp.In)=false:=by cases op<;>first|rfl|exact absurd rfl h
 have e2:(op==CmpOp.NotIn)=false:=by cases op<;>first|rfl|exact absurd rfl h2
 cases b<;>simp[behindInMarks,e1,e2]
theorem zci8 {op:CmpOp}{r:R2}(ho:OpR X (compareOp op) r) (ha:PE X a ta) (hb:PE X b tb) (hm:behindInMarks op b=false):PE X (.Compare a [op] [b] pos) (tOp r ta tb):=by
 intro pins s σ H Q I h
 exact wpAny_Compare1 (binT ha hb I h fun v u s2 x y H2 I2 rx ry q=>ho pins s2 σ H2 x y v u Q I2 rx ry q) hm
def TruV (K:zcu8) (x:V) (H:Hp) (k:Bool):Prop:=
 match x with
 | .non=>k=false
 | .bl b=>k=b
 | .int i=>k=(i != 0)
 | .str y=>y.length<=sizeLine/\k=((y.length:Int) != 0)
 | .byt y=>y.size<=sizeLine/\k=((y.size:Int) != 0)
 | .ref p=>(∃ xs,SqL K H p xs/\k=!xs.isEmpty)∨(∃ xs,SqT K H p xs/\k=!xs.isEmpty)∨∃ kvs,H p=some (.dK kvs)/\k=!kvs.isEmpty
 | _=>False
theorem zbi5 {κ:Type}{kvs:List (κ×V)}{vs:List (κ×Value)}(r:KV kvs vs):(!vs.isEmpty)=!kvs.isEmpty:=by
 cases r<;>rfl
theorem zap5 {xs:List V}{its:List Value}(r:Vals xs its):(!its.toArray.isEmpty)=!xs.isEmpty:=by
 cases r<;>simp
theorem zam4:(sizeLine:Nat)<2 ^ 63:=by rw[sizeLine_eq];decide
theorem zbp9:TruR X (fun x H Q=>∃ k,TruV X.K x H k/\Q k H):=by
 intro pins s σ H x v Q I rx h
 obtain⟨k,e,q⟩:=h
 have hl:=zam4
 have hs:sizeLine=16777216:=sizeLine_eq
 cases x with
 | non=>
  cases rx
  have e':k=false:=e
  subst e'
  exact truthy_none ⟨H,I,q⟩
 | bl b=>
  cases rx
  have e':k=b:=e
  subst e'
  exact wpAny_truthy_bool ⟨H,I,q⟩
 | int i=>
  obtain⟨t,rfl⟩:=rx
  have e':k=(i != 0):=e
  subst e'
  exact PySem.P.truthy_int ⟨H,I,q⟩
 | str y=>
  obtain⟨t,rfl⟩:=rx
  obtain⟨hy,e'⟩:y.length<=sizeLine/\k=((y.length:Int) != 0):=e
  subst e'
  exact PySem.P.truthy_str (by omega) ⟨H,I.tok _,q⟩
 | byt y=>
  obtain⟨t,rfl⟩:=rx
  obtain⟨hy,e'⟩:y.size<=sizeLine/\k=((y.size:Int) != 0):=e
  subst e'
  exact PySem.W.truthy_bytes (by omega) ⟨H,I.tok _,q⟩
 | ref p=>
  cases rx
  have e':(∃ xs,SqL X.K H p xs/\k=!xs.isEmpty)∨(∃ xs,SqT X.K H p xs/\k=!xs.isEmpty)∨∃ kvs,H p=some (.dK kvs)/\k=!kvs.isEmpty:=e
  rcases e' with ⟨xs,hx,e'⟩|⟨xs,hx,e'⟩|⟨kvs,hx,e'⟩
  ·subst e'
   obtain⟨its,r,pl,hz⟩:=I.list hx
   have hlen:=r.length
   exact wpAny_truthy_list pl.isList (by simp only[zcv8];omega) ⟨H,I.tok _,by rw[zap5 r];exact q⟩
  ·subst e'
   obtain⟨its,r,pl,hz⟩:=I.tuple hx
   have hlen:=r.length
   exact truthy_tuple pl (by simp only[zcv8];omega) ⟨H,I.tok _,by rw[zap5 r];exact q⟩
  ·subst e'
   obtain⟨hz,hS,vs,r,m⟩:kvs.length<=sizeLine/\(p==sysModules)=false/\∃ vs,KV kvs vs/\s.heap.DictOf (zn9 X.prog X.w) p vs:=I.hok p _ hx
   have hlen:kvs.length=vs.length:=Paired.length r
   exact wpAny_truthy_dict hS m (by omega) ⟨H,I.tok _,by rw[zbi5 r];exact q⟩
 | _=>exact (show False from e).elim
theorem zbl4:OpR X (binaryOp .Add) (fun x y H Q=>∃ i j,x=.str i/\y=.str j/\i.length+j.length<=sizeLine/\Q (.str (i++j)) H):=by
 intro pins s σ H x y v u Q I rx ry h
 obtain⟨i,j,rfl,rfl,hz,q⟩:=h
 obtain⟨t,rfl⟩:=rx
 obtain⟨t',rfl⟩:=ry
 exact add_str (fun t' tk=>⟨.str (i++j),H,I.tok _,⟨_,rfl⟩,q⟩) hz
theorem zao3 {x:V}{us:List Value}(r:Vals [x] us):∃ u,us=[u]/\RelV x u:=by
 cases r with
 | cons r1 r2=>cases r2;exact⟨_,rfl,r1⟩
theorem zbu6 {x y:V}{us:List Value}(r:Vals [x,y] us):∃ u w',us=[u,w']/\RelV x u/\RelV y w':=by
 cases r with
 | cons r1 r2=>
  cases r2 with
  | cons r3 r4=>cases r4;exact⟨_,_,rfl,r1,r3⟩
theorem zby9:zt2 X (.builtin "abs") (fun xs H Q=>∃ i,xs=[.int i]/\Q (.int (if i<0 then -i else i)) H):=by
 intro pins s σ H xs us Q I r h
 obtain⟨i,rfl,q⟩:=h
 obtain⟨u,rfl,t,rfl⟩:=zao3 r
 exact call_abs_int fun u tk=>⟨.int (if i<0 then -i else i),H,I.tok _,⟨_,rfl⟩,q⟩
theorem zav7:zt2 X (.type "int") (fun xs H Q=>(∃ i,xs=[.int i]/\Q (.int i) H)∨∃ k,xs=[.bl k]/\Q (.int (if k then 1 else 0)) H):=by
 intro pins s σ H xs us Q I r h
 rcases h with ⟨i,rfl,q⟩|⟨k,rfl,q⟩
 ·obtain⟨u,rfl,t,rfl⟩:=zao3 r
  exact call_int_int ⟨.int i,H,I,⟨_,rfl⟩,q⟩
 ·obtain⟨u,rfl,r1⟩:=zao3 r
  cases r1
  exact call_int_bool ⟨.int (if k then 1 else 0),H,I.tok _,⟨_,rfl⟩,q⟩
end
end L2
namespace L2
open PySem PySem.Spec PyProof.Rows
structure ObjM (h:Heap) (x dx C:Addr) (mA:Str->Option Value):Prop where
 obj:h.get? x=some (PySem.W.instObj C dx)
 ns:h.Ns1 dx mA
 ne:dx≠x
theorem zax0 {h:Heap}{dx:Addr}{mA:Str->Option Value}(n:h.Ns1 dx mA):∃ od,h.get? dx=some od/\∀ name,PySem.W.lookIn name od=some (mA name):=by
 obtain⟨o,es,ep,ho,hd,hk,_,hm⟩:=n
 refine⟨o,ho,fun name=>?_⟩
 have e:=hm name
 unfold nsFind findBy at e
 rw[← Array.find?_toList] at e
 unfold PySem.W.lookIn
 rw[hd]
 dsimp only
 split
 ·rename_i y q
  rw[q] at e
  exact congrArg some e
 ·rename_i q
  rw[q] at e
  have a:es.toList.any (·.refKey)=false:=by
   rw[List.any_eq_false]
   intro y hy
   obtain⟨z,t,hkey⟩:=hk y (Array.mem_toList_iff.mp hy)
   simp[DictEntry.refKey,hkey]
  have a':¬ es.toList.any (·.refKey)=true:=by rw[a];exact zcw2
  rw[if_neg a']
  exact congrArg some e
theorem ObjM.look {h:Heap}{x dx C:Addr}{mA:Str->Option Value}(I:ObjM h x dx C mA):∃ od,PySem.W.InstAt h x (PySem.W.instObj C dx) C (some od)/\∀ name,PySem.W.lookIn name od=some (mA name):=
 let ⟨od,ho,hl⟩:=zax0 I.ns
 ⟨od,⟨I.obj,rfl,rfl,ho⟩,hl⟩
section
variable {prog:Program}{w:World}{A:Around}{E:Value->Shared->Prop}{s:Shared}{K:zcu8}{x dx C f:Addr}{mA:Str->Option Value}{name:Str}{v:Value}
end
theorem RelO.some_of {v:V}{o:Option Value}(r:RelO (some v) o):∃ u,o=some u/\RelV v u:=by
 cases o with
 | none=>exact (show False from r).elim
 | some u=>exact⟨u,rfl,r⟩
theorem zbl9 {v:V}{u:Value}(r:RelV v u):PySem.W.handedIn u=true:=by
 cases v with
 | non=>cases (show u=Value.none from r);rfl
 | bl b=>cases (show u=Value.bool b from r);rfl
 | int i=>obtain⟨t,e⟩:=(show ∃ t,u=Value.int i t from r);cases e;rfl
 | str x=>obtain⟨t,e⟩:=(show ∃ t,u=Value.str x t from r);cases e;rfl
 | byt b=>obtain⟨t,e⟩:=(show ∃ t,u=Value.bytes b t from r);cases e;rfl
 | flt b=>obtain⟨t,e⟩:=(show ∃ t,u=Value.float b t from r);cases e;rfl
 | ref a=>cases (show u=Value.ref a from r);rfl
 | ty n=>cases (show u=Value.type n from r);rfl
section
variable {P:Program}{w:World}{H H':Hp}{h h':Heap}{a C dx:Addr}{fs fs':List (Str×V)}
theorem zch8 (hok:HOk P w H h) (e:H a=some (.ins C dx fs)):∃ mA,ObjM h a dx C mA/\(∀ f,RelO (fs.lookup f) (mA f))/\PySem.Within mA (fs.map (·.1))/\fs.length<=1000/\H dx=some (.own a):=by
 obtain⟨d,z,ne,ob,mA,n,r,q⟩:=(show zk0 P w H h a (.ins C dx fs) from hok a _ e)
 exact⟨mA,⟨ob,n,ne⟩,r,q,z,d⟩
end
structure Cls (K:zcu8) (C:Addr):Prop where
 pg:PySem.W.plainGet K C Str.empty=true
 hd:zdd5 K C=true
 po:PySem.W.plainOver K C=true
 sa:zcy7 K (.ref C) "__setattr__"=some (some (.builtin "object.__setattr__"))
theorem Cls.get {K:zcu8}{C:Addr}(c:Cls K C) (f:Str):PySem.W.plainGet K C f=true:=c.pg
section
variable {X:Cx}{pins:List (Addr×Obj)}{σ:St}{H:Hp}{s:Shared}{a C dx:Addr}{fs:List (Str×V)}{f:Str}{v:V}{A:Around}{E:Value->Shared->Prop}
theorem zci3 {prog:Program}{w:World}{env:Env}{e:Expr}{f:Str}{pos:Pos}{s:Shared}{Q:Value->Shared->Prop}(hb:attributeBase e f env (eval e env)=eval e env)
  (h:wpAny (model prog w) A (eval e env) (fun o s₁=>wpAny (model prog w) A (getAttr o f true) Q E s₁) E s):wpAny (model prog w) A (eval (.Attribute e f pos) env) Q E s:=
 Attribute_any_ h (by rw[arm_eval_Attribute,hb])
end
section
variable {X:Cx}{o e value:Expr}{f:Str}{pos pos' tpos:Pos}{ta tv:TE}
end
section
variable {X:Cx}{pins:List (Addr×Obj)}{σ:St}{H:Hp}{s:Shared}{A:Around}{E:Value->Shared->Prop}{Q:Value->Shared->Prop}{c:Value}{b:Bool}
inductive TyOf (K:zcu8) (H:Hp):V->Value->Prop where
 | non:TyOf K H .non (.type "NoneType")
 | bl (x:Bool):TyOf K H (.bl x) (.type "bool")
 | int (i:Int):TyOf K H (.int i) (.type "int")
 | str (x:Str):TyOf K H (.str x) (.type "str")
 | flt (x:UInt64):TyOf K H (.flt x) (.type "float")
 | lst {a:Addr}{xs:List V}(e:H a=some (.lst xs)):TyOf K H (.ref a) (.type "list")
 | frz {a:Addr}{o:Obj}{xs:List V}(e:H a=some (.frz o (.lst xs))):TyOf K H (.ref a) (.type "list")
 | tup {a:Addr}{xs:List V}(e:H a=some (.tup xs)):TyOf K H (.ref a) (.type "tuple")
 | dK {a:Addr}{kvs:List (Key×V)}(e:H a=some (.dK kvs)):TyOf K H (.ref a) (.type "dict")
 | dT {a:Addr}{kvs:List (List Key×V)}(e:H a=some (.dT kvs)):TyOf K H (.ref a) (.type "dict")
 | ins {a C dx:Addr}{fs:List (Str×V)}(e:H a=some (.ins C dx fs)) (cl:Cls K C) (ha:zcy7 K (.ref C) "__class__"=some (some (.builtin "object.__class__")))
   (hn:PySem.W.specialIn K (.builtin "object.__class__") "__get__"=some (some (.builtin "getset_descriptor.__get__"))) (htk:PySem.W.takesIn K (.builtin "object.__class__")=some true)
   (hm:PySem.W.mroIn K C (.type "object")=some true):TyOf K H (.ref a) (.ref C)
theorem zbq9 {x:V}{u t:Value}(I:Inv X pins σ H s) (rx:RelV x u) (ty:TyOf X.K H x t) (e:zcv5 X.K t c=some b) (h:∀ tk,Q (.bool b) { s with toks:=tk }) :
  wpAny (model X.prog X.w) A (call (.builtin "isinstance") [u,c]) Q E s:=by
 cases ty with
 | non=>cases (show u=Value.none from rx);exact zda1 PySem.W.kitx_none I.kIn True.intro e (fun z=>nomatch z) h
 | bl y=>cases (show u=Value.bool y from rx);exact zda1 PySem.W.kitx_bool I.kIn True.intro e (fun z=>nomatch z) h
 | int i=>obtain⟨t,q⟩:=(show ∃ t,u=Value.int i t from rx);cases q;exact zda1 PySem.W.kitx_int I.kIn True.intro e (fun z=>nomatch z) h
 | str y=>obtain⟨t,q⟩:=(show ∃ t,u=Value.str y t from rx);cases q;exact zda1 PySem.W.kitx_str I.kIn True.intro e (fun z=>nomatch z) h
 | flt y=>obtain⟨t,q⟩:=(show ∃ t,u=Value.float y t from rx);cases q;exact zda1 PySem.W.kitx_float I.kIn True.intro e (fun z=>nomatch z) h
 | @lst a xs ea=>
  cases (show u=Value.ref a from rx)
  obtain⟨_,_,n,_,h1⟩:=(show zk0 X.prog X.w H s.heap a (.lst xs) from I.hok a _ ea)
  exact zda1 PySem.W.kitx_list I.kIn ⟨_,h1,rfl⟩ e (fun z=>nomatch z) h
 | @frz a ob xs ea=>
  cases (show u=Value.ref a from rx)
  obtain⟨_,_,_,n,_,h1⟩:=(show zk0 X.prog X.w H s.heap a (.frz ob (.lst xs)) from I.hok a _ ea)
  exact zda1 PySem.W.kitx_list I.kIn ⟨_,h1,rfl⟩ e (fun z=>nomatch z) h
 | @tup a xs ea=>
  cases (show u=Value.ref a from rx)
  obtain⟨_,_,_,p⟩:=(show zk0 X.prog X.w H s.heap a (.tup xs) from I.hok a _ ea)
  obtain⟨o,h1,h2,_⟩:=p
  exact zda1 PySem.W.kitx_tuple I.kIn ⟨o,h1,h2⟩ e (fun z=>nomatch z) h
 | @dK a kvs ea=>
  cases (show u=Value.ref a from rx)
  obtain⟨_,_,vs,_,p⟩:=(show zk0 X.prog X.w H s.heap a (.dK kvs) from I.hok a _ ea)
  obtain⟨o,es,ep,h1,h2,_⟩:=p
  exact zda1 PySem.W.kitx_dict I.kIn ⟨o,h1,h2.1⟩ e (fun z=>nomatch z) h
 | @dT a kvs ea=>
  cases (show u=Value.ref a from rx)
  obtain⟨_,_,xs,_,o,es,ep,h1,h2,_⟩:=(show zk0 X.prog X.w H s.heap a (.dT kvs) from I.hok a _ ea)
  exact zda1 PySem.W.kitx_dict I.kIn ⟨o,h1,h2.1⟩ e (fun z=>nomatch z) h
 | @ins a C dx fs ea cl ha hn htk hm=>
  cases (show u=Value.ref a from rx)
  obtain⟨mA,O,_⟩:=zch8 I.hok ea
  obtain⟨od,J,_⟩:=O.look
  exact zda1 (PySem.W.kitx_own (cl.get _) cl.hd ha hn htk hm) I.kIn J e (fun z=>nomatch z) h
end
end L2
namespace L2
open PySem PySem.Spec PyProof.Rows
structure Room (k:Nat) (A:Around):Prop where
 hd:A.handled=none
 dp:A.depth+3*k+5<recursionLimit
 un:A.units+16*k+200<cLine
 gd:A.guards=some []
theorem Room.mono {j k:Nat}{A:Around}(r:Room k A) (h:j<=k):Room j A:=⟨r.hd,by have:=r.dp;omega,by have:=r.un;omega,r.gd⟩
theorem Room.deeper {k:Nat}{A:Around}(r:Room (k+1) A) (env:Env):Room k (A.deeper env):=
 ⟨r.hd,by have:=r.dp;show A.depth+1+3*k+5<_;omega,by have:=r.un;show A.units+3+16*k+200<_;omega,r.gd⟩
theorem zbk6 {A:Around}{C:Addr}{us:List Value}{kw:List (Str×Value)}:(A.under (.builtin "type.__call__" ⟨.ref C :: us,kw⟩)).depth=A.depth+1:=by
 first|rfl|simp[Around.under,Code.weight,Code.isCreation,Code.isGuard,Code.isCaller,Code.frames,Code.isFrame,guardIds]
theorem zbj5 {A:Around}{C:Addr}{us:List Value}{kw:List (Str×Value)}:(A.under (.builtin "type.__call__" ⟨.ref C :: us,kw⟩)).units=A.units+1:=by
 first|rfl|simp[Around.under,Code.cUnits,Code.frames,Code.isFrame]
theorem zbd3 {A:Around}{C:Addr}{us:List Value}{kw:List (Str×Value)}:(A.under (.builtin "type.__call__" ⟨.ref C :: us,kw⟩)).guards=A.guards:=by
 first|rfl|(cases A;simp[Around.under,pushGuards,Code.guards,Code.isGuard,guardIds])
theorem Room.make {k:Nat}{A:Around}(r:Room (k+1) A) (C:Addr) (us:List Value) (kw:List (Str×Value)):Room k (A.under (.builtin "type.__call__" ⟨.ref C :: us,kw⟩)):=
 ⟨r.hd,by have:=r.dp;rw[zbk6];omega,by have:=r.un;rw[zbj5];omega,zbd3.trans r.gd⟩
theorem Room.depth {k:Nat}{A:Around}(r:Room k A):A.depth<recursionLimit:=by have:=r.dp;omega
theorem Room.units {k:Nat}{A:Around}(r:Room k A):A.units+64<cLine:=by have:=r.un;omega
def tNil:TA:=fun _ H Q=>Q [] H
def tCons (ta:TE) (tr:TA):TA:=fun σ H Q=>ta σ H fun x H1=>tr σ H1 fun xs H2=>Q (x :: xs) H2
section
variable {X:Cx}{e:Expr}{es:List Expr}{te:TE}{t:TA}{pos:Pos}
theorem za1:PA X [] tNil:=fun _ _ _ _ H Q I h=>Calls.spliced_nil ⟨[],H,I,.nil,h⟩
theorem za0 (ha:PE X e te) (hr:PA X es t) (hs:starEach (e :: es) X.env=(false,eval e X.env) :: starEach es X.env:=by rfl):PA X (e :: es) (tCons te t):=by
 intro pos pins s σ H Q I h
 rw[hs]
 show wpAny _ _ (spliced ((false,eval e X.env) :: backTo pos (starEach es X.env))) _ _ s
 refine Calls.spliced_cons (thn (ha pins s σ H _ I h) fun u s1 ⟨x,H1,I1,r1,q1⟩=>?_)
 exact thn (hr pos pins s1 σ H1 _ I1 q1) fun us s2 ⟨xs,H2,I2,r2,q2⟩=>⟨x :: xs,H2,I2,.cons r1 r2,q2⟩
end
abbrev Sp:=List V->Hp->VK->XK->Prop
abbrev CXT:=List Env->Hp->Shared->XK->Value->Shared->Prop
structure Env0 (P:Program) (w:World) (K:zcu8) (mg:Str->Option Value) (base:Heap) (A:Around) (outer:List Env) (s:Shared) (H:Hp):Prop where
 frames:A.frames=some outer
 mod:Mod K mg base
 bs:∀ b o,base.get? b=some o->s.heap.get? b=some o/\H b=none
 bsz:base.objs.size<=s.heap.objs.size
 funs:s.heap.FunFrames base outer
 frf:∀ b∈frs outer,H b=none
 hok:HOk P w H s.heap
 bare:AllBare s.gens
def CE (outer:List Env) (P:Program) (w:World) (H:Hp) (s:Shared) (Q:VK) (u:Value) (s':Shared):Prop:=
 ∃ v H',s'.os=s.os/\AllBare s'.gens/\Un (frs outer) [] H H' s.heap s'.heap/\HOk P w H' s'.heap/\RelV v u/\Q v H'
def CR (CX:CXT) (outer:List Env) (P:Program) (w:World) (H:Hp) (s:Shared) (Q:VK) (E:XK) (r:Result) (s':Shared):Prop:=
 match r with
 | .ok (.ret u)=>CE outer P w H s Q u s'
 | .ok _=>False
 | .error e=>CX outer H s E e s'
structure FnOk (P:Program) (w:World) (K:zcu8) (mg:Str->Option Value) (base:Heap) (CX:CXT) (k:Nat) (f:Addr) (fd:FuncData) (ps:List Str) (sp:Sp):Prop where
 len:∀ vs H Q E,sp vs H Q E->vs.length=ps.length
 run:∀ (A:Around) (outer:List Env) (s:Shared) (H:Hp) (args:Args) (us:List Value) (vs:List V) (Q:VK) (E:XK),Room k A->Env0 P w K mg base A outer s H->BindsTo s fd args (ps.zip us)->Vals vs us->sp vs H Q E ->
  codeAny (model P w) A (.call (.ref f) args) (CR CX outer P w H s Q E) s
theorem Env0.make {P:Program}{w:World}{K:zcu8}{mg:Str->Option Value}{base:Heap}{A:Around}{outer:List Env}{s:Shared}{H:Hp}(e:Env0 P w K mg base A outer s H) (C:Addr) (us:List Value) (kw:List (Str×Value)) :
  Env0 P w K mg base (A.under (.builtin "type.__call__" ⟨.ref C :: us,kw⟩)) outer s H:=⟨by first|exact e.frames|(simpa [Around.under,Code.envs,Code.isFrame,pushEnvs] using e.frames),e.mod,e.bs,e.bsz,e.funs,e.frf,e.hok,e.bare⟩
section
variable {X:Cx}{pins:List (Addr×Obj)}{σ:St}{H:Hp}{s s':Shared}
theorem Inv.env0 (I:Inv X pins σ H s):Env0 X.prog X.w X.K X.mg X.base X.A X.stack s H:=
 ⟨I.ok.frames,I.ok.mod,I.bs,zdb2 I.ok.bsz I.sz,I.stack,I.stkFree,I.hok,I.bare⟩
theorem Inv.after {Q:VK}{u:Value}(I:Inv X pins σ H s) (h:CE X.stack X.prog X.w H s Q u s'):EP X pins σ Q u s':=by
 obtain⟨v,H',os,bare,un,hok,r,q⟩:=h
 obtain⟨hh,g,d,t,os'⟩:=s'
 obtain rfl:os'=s.os:=os
 exact⟨v,H',I.call (h':=hh) (g':=g) (d':=d) (t':=t) (ch:=[]) un hok bare (fun b z=>absurd z (by simp)),r,q⟩
end
def tCall (sp:Sp) (dvs:List V) (E:XK) (t:TA):TE:=fun σ H Q=>t σ H fun vs H1=>sp (vs++dvs) H1 Q E
def zau3 (K:zcu8) (fd:FuncData) (ps:List Str) (ds:List Value):Prop:=
 ∀ (s:Shared) (us:List Value),K.In s.heap->(us++ds).length=ps.length->BindsTo s fd ⟨us,[]⟩ (ps.zip (us++ds))
theorem zau3.all {K:zcu8}{fd:FuncData}{ps:List Str}(h:∀ us:List Value,us.length=ps.length->bindArgs fd ⟨us,[]⟩=pure (ps.zip us)):zau3 K fd ps []:=fun s us _ hl=>by
 rw[List.append_nil] at hl ⊢
 exact .of_eq (h us hl)
def zaq0 (CX:CXT) (X:Cx) (E:XK):Prop:=∀ (pins:List (Addr×Obj)) (σ:St) (H:Hp) (s:Shared) (e:Value) (s':Shared),Inv X pins σ H s->CX X.stack H s E e s'->X.xe e s'
section
variable {X:Cx}{CX:CXT}{k:Nat}{f C:Addr}{fd:FuncData}{ps:List Str}{sp:Sp}{dvs:List V}{ds:List Value}{E:XK}{x m:Str}{p pos apos:Pos}{e o:Expr}{es:List Expr}{ta:TE}{t:TA}
theorem run_fn {pins:List (Addr×Obj)}{σ:St}{H:Hp}{s:Shared}{Q:VK}{us:List Value}{vs:List V}(F:FnOk X.prog X.w X.K X.mg X.base CX k f fd ps sp) (hr:Room k X.A) (hb:zau3 X.K fd ps ds) (hd:Vals dvs ds) (hx:zaq0 CX X E)
  (I:Inv X pins σ H s) (r:Vals vs us) (h:sp (vs++dvs) H Q E):wpAny (model X.prog X.w) X.A (call (.ref f) us) (EP X pins σ Q) X.xe s:=by
 have r2:Vals (vs++dvs) (us++ds):=r.append hd
 have hl:(us++ds).length=ps.length:=by rw[← r2.length];exact F.len _ _ _ _ h
 refine wpAny_call (codeAny_mono (F.run X.A X.stack s H ⟨us,[]⟩ (us++ds) (vs++dvs) Q E hr I.env0 (hb s us I.kIn hl) r2 h) fun r s' hq=>?_)
 cases r with
 | error e=>exact hx pins σ H s e s' I hq
 | ok fl=>
  cases fl with
  | ret u=>exact I.after hq
  | next=>exact False.elim hq
  | brk=>exact False.elim hq
  | cont=>exact False.elim hq
theorem zch0 (F:FnOk X.prog X.w X.K X.mg X.base CX k f fd ps sp) (hr:Room k X.A) (hg:Gl X x) (hm:X.mg x=some (.ref f)) (hk:zcw0 X.K (.ref f)=true) (hb:zau3 X.K fd ps ds) (hd:Vals dvs ds) (hx:zaq0 CX X E)
  (ha:PA X (e :: es) t) (hdb:(x==("__debug__":Str))=false:=by decide) (he:starEach (e :: es) X.env=(false,eval e X.env) :: starEach es X.env:=by rfl) (hpl:(backTo pos (starEach es X.env)).any (·.1)=false:=by rfl) :
  PE X (.Call (.Name x p) (e :: es) [] pos) (tCall sp dvs E t):=by
 intro pins s σ H Q I h
 refine wpAny_Call_Name_kw (zae8 I hg hm ?_ hdb)
 refine PySem.W.callWith_K (h₀:=X.base) I.ok.mod.kin hk (thn (ha pos pins s σ H _ I h) fun us s1 ⟨vs,H1,I1,r,q⟩=>⟨I1.kIn,?_⟩) he hpl
 exact run_fn F hr hb hd hx I1 r q
end
section
variable {X:Cx}{CX:CXT}{k:Nat}{f C:Addr}{fd:FuncData}{ps ks:List Str}{sp:Sp}{E:XK}{x m:Str}{p pos apos kpos:Pos}{e o:Expr}{es:List Expr}{kws:List Keyword}{te ta:TE}{t tk:TA}{nm:Option Str}
variable {g:List Value->List Value->List Value}{gV:List V->List V->List V}
end
structure zb3 (N P:List Str) (sc:Scope):Prop where
 kind:sc.kind=.function
 co:sc.isCoroutine=false
 gen:sc.isGenerator=false
 nd:N.Nodup
 pre:N.take P.length=P
 par:∀ x∈P,sc.names.lookup x=some .local∨sc.names.lookup x=some .cell
 nofree:∀ y∈sc.names,y.2≠.free
theorem zay5 {kindOf:Str->Option NameKind}{x:Str}:∀ {binds:List (Str×Value)}{m:Str->Option Value},(∀ v,(x,v) ∉ binds)->bindL kindOf binds m x=m x
 | [],_,_=>rfl
 | (n,v) :: r,m,h=>by
  unfold bindL
  rw[zay5 fun w hw=>h w (zcz5 _ hw)]
  split
  ·have:x≠n:=by rintro rfl;exact h v zda8
   simp[this]
  ·rfl
theorem zaw7 {kindOf:Str->Option NameKind}{x:Str}:∀ {binds:List (Str×Value)}{m:Str->Option Value},(∀ v,(x,v) ∉ binds)->bindC kindOf binds m x=m x
 | [],_,_=>rfl
 | (n,v) :: r,m,h=>by
  unfold bindC
  rw[zaw7 fun w hw=>h w (zcz5 _ hw)]
  split
  ·rfl
  ·have:x≠n:=by rintro rfl;exact h v zda8
   simp[this]
theorem zaw8 {kindOf:Str->Option NameKind}{x:Str}{v:Value}:∀ {P:List Str}{vs:List Value}{i:Nat}{m:Str->Option Value},P.Nodup->P[i]?=some x->vs[i]?=some v->kindOf x=some .local ->
  bindL kindOf (P.zip vs) m x=some v
 | [],_,_,_,_,h,_,_=>by simp at h
 | _ :: _,[],_,_,_,_,h,_=>by simp at h
 | p :: P,w :: vs,0,m,nd,h1,h2,hk=>by
  simp at h1 h2;subst h1;subst h2
  show bindL kindOf ((p,w) :: P.zip vs) m p=_
  unfold bindL
  rw[zay5 fun v hv=>(zdd3.mp nd).1 (List.of_mem_zip hv).1,if_pos hk]
  simp
 | p :: P,w :: vs,i+1,m,nd,h1,h2,hk=>by
  show bindL kindOf ((p,w) :: P.zip vs) m x=_
  unfold bindL
  exact zaw8 (i:=i) (zdd3.mp nd).2 (by simpa using h1) (by simpa using h2) hk
theorem zaw6 {kindOf:Str->Option NameKind}{x:Str}{v:Value}:∀ {P:List Str}{vs:List Value}{i:Nat}{m:Str->Option Value},P.Nodup->P[i]?=some x->vs[i]?=some v->kindOf x≠some .local ->
  bindC kindOf (P.zip vs) m x=some v
 | [],_,_,_,_,h,_,_=>by simp at h
 | _ :: _,[],_,_,_,_,h,_=>by simp at h
 | p :: P,w :: vs,0,m,nd,h1,h2,hk=>by
  simp at h1 h2;subst h1;subst h2
  show bindC kindOf ((p,w) :: P.zip vs) m p=_
  unfold bindC
  rw[zaw7 fun v hv=>(zdd3.mp nd).1 (List.of_mem_zip hv).1,if_neg hk]
  simp
 | p :: P,w :: vs,i+1,m,nd,h1,h2,hk=>by
  show bindC kindOf ((p,w) :: P.zip vs) m x=_
  unfold bindC
  exact zaw6 (i:=i) (zdd3.mp nd).2 (by simpa using h1) (by simpa using h2) hk
def zau2 (N:List Str) (vs:List V):St:=vs.map some++List.replicate (N.length - vs.length) none
def cxOf (CX:CXT) (P:Program) (w:World) (K:zcu8) (mg:Str->Option Value) (base:Heap) (N:List Str) (qual:Str) (scope:Scope) (f:Addr) (cd:Value) (A:Around) (outer:List Env) (s:Shared) (H:Hp) (E:XK):Cx where
 prog:=P
 w:=w
 K:=K
 mg:=mg
 base:=base
 A:=A.deeper (envOfC qual scope s.heap.objs.size f cd)
 N:=N
 s₀:=s
 H₀:=H
 env:=envOfC qual scope s.heap.objs.size f cd
 outer:=outer
 stack:=envOfC qual scope s.heap.objs.size f cd :: outer
 ex:=[]
 calm:=true
 fn:=fun _=>true
 pn:=[]
 xe:=fun e s'=>wpAny (model P w) (A.deeper (envOfC qual scope s.heap.objs.size f cd)) (leaving (envOfC qual scope s.heap.objs.size f cd) e) (fun _ s''=>CX outer H s E e s'') (fun e' s''=>CX outer H s E e' s'') s'
theorem zbh1 {sc:Scope}{n:Nat}{x:Str}(h:sc.names.lookup x=some .cell):∃ c,(cellsFrom n sc.names []).lookup x=some c:=by
 have q:=PySem.W.cellsFrom_some sc.names n [] (.inl h)
 exact zdb4.mp q
theorem zbn0 {CX:CXT}{P:Program}{w:World}{K:zcu8}{mg:Str->Option Value}{base:Heap}{N ps:List Str}{qual:Str}{scope:Scope}{f:Addr}{cd:Value}{A:Around}{outer:List Env}{s s1:Shared}{H:Hp}{E:XK}{us:List Value}{vs:List V}
  (S:zb3 N ps scope) (hd:A.handled=none) (e0:Env0 P w K mg base A outer s H) (hl:vs.length=ps.length) (r:Vals vs us)
  (x:InCallC s s.heap.objs.size (bindL (envOfC qual scope s.heap.objs.size f cd).kindOf (ps.zip us) fun _=>none) (cellsFrom (s.heap.objs.size+1) scope.names []) (bindC (envOfC qual scope s.heap.objs.size f cd).kindOf (ps.zip us) fun _=>none) s1) :
  Inv (cxOf CX P w K mg base N qual scope f cd A outer s H E) [] (zau2 N vs) H s1:=by
 have hpl:ps.length<=N.length:=by have:=congrArg List.length S.pre;rw[zdb6] at this;omega
 obtain⟨h1,tk,rfl,hk⟩:=x.done
 have noA:∀ b:Addr,b ∉ (cxOf CX P w K mg base N qual scope f cd A outer s H E).ex:=fun b z=>absurd (show b∈([]:List Addr) from z) (by simp)
 refine⟨⟨e0.mod,S.kind,rfl,rfl,zcw9 _,fun y z c h1 h2=>?_,fun y hy=>?_,fun y c _ h=>?_,fun _=>hd,Around.frames_deeper e0.frames,.inr ⟨rfl,rfl⟩,fun b z=>absurd z (noA b),e0.bs,e0.bsz,fun b _ _=>noA b,fun b z=>absurd z (noA b),e0.funs,e0.frf⟩,
  rfl,e0.bare,Un.kept hk,⟨_,x.toInCall.ns,fun i y v h1 h2 h3=>?_⟩,fun y c h=>⟨_,x.cell y c h⟩,e0.hok.fresh (zcw9 _),fun y c h=>?_,fun p hp=>absurd (show p∈([]:List (Addr×Obj)) from hp) (by simp),e0.hok.kept hk,?_⟩
 ·exact name_of_addr x.apart (PySem.mem_of_lookup h1) (PySem.mem_of_lookup h2)
 ·have hy:scope.names.lookup y=some .cell∨scope.names.lookup y=some .free:=hy
  rcases hy with hy|hy
  ·exact zbh1 hy
  ·exact absurd rfl (S.nofree _ (PySem.mem_of_lookup hy))
 ·exact Nat.le_of_lt (x.above y c (PySem.mem_of_lookup h))
 ·have hi:i<vs.length:=by
   unfold zau2 at h2
   by_cases hi:i<vs.length
   ·exact hi
   ·rw[zcy8 (by simpa using hi)] at h2
    rw[List.getElem?_replicate] at h2
    split at h2<;>cases h2
  have ha:vs[i]?=some v:=by
   unfold zau2 at h2
   rw[zcy4 (by simpa using hi),zcu9] at h2
   cases e:vs[i]? with
   | none=>rw[e] at h2;cases h2
   | some a=>rw[e] at h2;cases h2;rfl
  obtain⟨u,hu,rv⟩:=r.get ha
  have hp:ps[i]?=some y:=by
   rw[← S.pre,List.getElem?_take_of_lt (by omega)];exact h1
  have ndP:ps.Nodup:=by rw[← S.pre];exact S.nd.sublist (List.take_sublist _ _)
  refine⟨u,rv,?_⟩
  rcases S.par y (zcv1 hp) with k|k
  ·exact .inl ⟨k,zaw8 ndP hp hu k⟩
  ·obtain⟨c,e⟩:=zbh1 (n:=s.heap.objs.size+1) k
   refine .inr ⟨.inl k,c,e,?_⟩
   have q:=x.cell y c e
   rw[zaw6 ndP hp hu (by show scope.names.lookup y≠_;rw[k];decide)] at q
   exact q
 ·exact e0.hok.fresh (Nat.le_of_lt (x.above y c (PySem.mem_of_lookup h)))
 ·unfold zau2
  show _=N.length
  rw[zcv9,zcu6,zdc1]
  omega
theorem fn_of {CX:CXT}{P:Program}{w:World}{K:zcu8}{mg:Str->Option Value}{base:Heap}{k:Nat}{f:Addr}{name qual:Str}{params:Arguments}{body:List Stmt}{scope:Scope}{dV kV doc pm cdv ct oc:Value}{an od:Option Addr}
  {osl:Array (Option Value)}{N ps:List Str}{sp:Sp}(lk:K.lookup f=some ⟨oc,od,.func (zcw4 name qual params body scope dV kV doc pm an cdv ct),osl⟩) (hcd:zcw1 K cdv qual=true) (S:zb3 N ps scope)
  (len:∀ vs H Q E,sp vs H Q E->vs.length=ps.length)
  (hbody:∀ (A:Around) (outer:List Env) (s:Shared) (H:Hp) (vs:List V) (Q:VK) (E:XK),Room k (A.deeper (envOfC qual scope s.heap.objs.size f cdv))->sp vs H Q E ->
   ∃ t,PSs (cxOf CX P w K mg base N qual scope f cdv A outer s H E) body t/\t { nx:=fun _ H'=>Q .non H',rt:=Q } (zau2 N vs) H) :
  FnOk P w K mg base CX (k+1) f (zcw4 name qual params body scope dV kV doc pm an cdv ct) ps sp:=by
 refine⟨len,fun A outer s H args us vs Q E hr e0 hb r hsp=>?_⟩
 have hl:=len _ _ _ _ hsp
 have KX:K.In s.heap:=e0.mod.kin.keeps fun b o e=>(e0.bs b o e).1
 have lim:s.heap.NoLimit:=e0.mod.nolimit.keeps fun b o e=>(e0.bs b o e).1
 have hkind:∀ y∈ps.zip us,scope.names.lookup y.1=some .local∨(scope.names.lookup y.1=some .cell/\((cellsFrom (s.heap.objs.size+1) scope.names []).lookup y.1).isSome=true):=fun ⟨n,v⟩ hy=>by
  rcases S.par n (List.of_mem_zip hy).1 with q|q
  ·exact .inl q
  ·exact .inr ⟨q,PySem.W.cellsFrom_some _ _ _ (.inl q)⟩
 refine codeAny_call_function hr.depth (KX _ _ lk) rfl S.co S.gen rfl (PySem.W.codeRec_of KX hcd) (hb _ _ _ _ ?_)
 refine wpAny_newFunctionEnv_cells S.kind hkind fun env he s1 x=>?_
 subst he
 refine⟨lim.keeps x.toInCall.keep,codeAny_func ?_⟩
 obtain⟨t,ht,hq⟩:=hbody A outer s H vs Q E (hr.deeper _) hsp
 have I:Inv (cxOf CX P w K mg base N qual scope f cdv A outer s H E) [] (zau2 N vs) H s1:=zbn0 S hr.hd e0 hl r x
 refine wpAny_mono (ht [] s1 (zau2 N vs) H _ I hq) (fun fl s' hs=>?_) fun e s' hs=>hs
 have fin:∀ {σ':St}{H':Hp}{v:V}{u:Value},Inv (cxOf CX P w K mg base N qual scope f cdv A outer s H E) [] σ' H' s'->RelV v u->Q v H'->CE outer P w H s Q u s':=
  fun {σ' H' v u} J rv q=>⟨v,H',J.os,J.bare,J.base,J.hok,rv,q⟩
 cases fl with
 | ret u=>
  obtain⟨v,σ',H',J,rv,q⟩:=hs
  exact fin J rv q
 | next=>
  obtain⟨σ',H',J,q⟩:=hs
  exact fin (v:=V.non) (u:=Value.none) J rfl q
 | brk=>
  obtain⟨_,_,_,q⟩:=hs
  exact False.elim q
 | cont=>
  obtain⟨_,_,_,q⟩:=hs
  exact False.elim q
end L2
namespace L2
open PySem PySem.Spec PyProof.Rows
section
variable {X:Cx}{x:Str}{p pos:Pos}{e:Expr}{es:List Expr}{t:TA}{id T:String}{r:List V->Hp->VK->Prop}
def tCB (r:List V->Hp->VK->Prop) (t:TA):TE:=fun σ H Q=>t σ H fun vs H1=>r vs H1 Q
theorem zbz0 (hc:zt2 X (.builtin id) r) (hg:Gl X x) (hm:X.mg x=none) (hv:bootBuiltins x=some (.builtin id)) (ha:PA X (e :: es) t) (hn:x≠"__name__":=by decide) (hdb:(x==("__debug__":Str))=false:=by decide)
  (he:starEach (e :: es) X.env=(false,eval e X.env) :: starEach es X.env:=by rfl) (hpl:(backTo pos (starEach es X.env)).any (·.1)=false:=by rfl):PE X (.Call (.Name x p) (e :: es) [] pos) (tCB r t):=by
 intro pins s σ H Q I h
 refine wpAny_Call_Name_kw (zam1 I hg hm hv ?_ hn hdb)
 exact PyProof.Rows.callWith_builtin1 (thn (ha pos pins s σ H _ I h) fun us s1 ⟨vs,H1,I1,r1,q1⟩=>hc pins s1 σ H1 vs us Q I1 r1 q1) he hpl
theorem zbm7 (hc:zt2 X (.type T) r) (hg:Gl X x) (hm:X.mg x=none) (hv:bootBuiltins x=some (.type T)) (ha:PA X (e :: es) t) (hn:x≠"__name__":=by decide) (hdb:(x==("__debug__":Str))=false:=by decide)
  (he:starEach (e :: es) X.env=(false,eval e X.env) :: starEach es X.env:=by rfl) (hpl:(backTo pos (starEach es X.env)).any (·.1)=false:=by rfl):PE X (.Call (.Name x p) (e :: es) [] pos) (tCB r t):=by
 intro pins s σ H Q I h
 refine wpAny_Call_Name_kw (zam1 I hg hm hv ?_ hn hdb)
 exact PyProof.Rows.callWith_type1 (thn (ha pos pins s σ H _ I h) fun us s1 ⟨vs,H1,I1,r1,q1⟩=>hc pins s1 σ H1 vs us Q I1 r1 q1) he hpl
end
end L2
namespace HT
open PySem PyProof.Rows
section
open PySem.SeqAt
open PySem.AutoSeq1 (wpAny_loadPart')
open PySem.MeetsSeq PySem.MeetsSeq2 PySem.MeetsSeq3
end
section
variable {prog:Program}{w:World}{A:Around}{E:Value->Shared->Prop}{s:Shared}
def sIx (n d:Nat):Option Int->Nat
 | none=>d
 | some v=>if v<0 then (v+(n:Int)).toNat else min v.toNat n
theorem sIx_le (n d:Nat) (hd:d<=n) (o:Option Int):sIx n d o<=n:=by
 cases o with
 | none=>exact hd
 | some v=>
  show (if v<0 then (v+(n:Int)).toNat else min v.toNat n)<=n
  by_cases hv:v<0
  ·rw[if_pos hv];omega
  ·rw[if_neg hv];exact Nat.min_le_right _ _
theorem zbp0 (v:Int) (n d:Nat):(if v<0 then max (v+(n:Int)) 0 else min v (n:Int))=((sIx n d (some v):Nat):Int):=by
 show (if v<0 then max (v+(n:Int)) 0 else min v (n:Int))=(((if v<0 then (v+(n:Int)).toNat else min v.toNat n):Nat):Int)
 by_cases hv:v<0
 ·simp only[if_pos hv];omega
 ·simp only[if_neg hv];omega
theorem zbj9 (lo hi:Option Int) (n:Nat):Builtin.Slice.sliceAdjust lo hi 1 (n:Int)=(((sIx n 0 lo:Nat):Int),((sIx n n hi:Nat):Int)):=by
 have h1:¬ ((1:Int)<0):=by omega
 unfold Builtin.Slice.sliceAdjust
 simp only[h1,if_false]
 refine Prod.ext ?_ ?_
 ·cases lo with
  | none=>rfl
  | some v=>exact zbp0 v n 0
 ·cases hi with
  | none=>rfl
  | some v=>exact zbp0 v n n
theorem zbl2 (i j:Nat):Builtin.Slice.slicePlaces (i:Int) (j:Int) 1=j - i:=by
 unfold Builtin.Slice.slicePlaces
 have h1:(1:Int)>0:=by omega
 simp only[h1,if_true,Int.ediv_one]
 split<;>omega
theorem zap3 {v:Value}{o:Option Int}{Q:Option Int->Shared->Prop}(p:IsPart v o) (h:Q o s):wpAny (model prog w) A (Builtin.Slice.slicePartIndex v) Q E s:=by
 cases p with
 | none=>exact slicePart_none h
 | int i t=>exact slicePart_int h
theorem zag9 {sl:Addr}{vl vu:Value}{lo hi:Option Int}{n:Nat}{Q:Int×Int×Nat->Shared->Prop}(hs:s.heap.IsSliceOf sl vl vu .none) (pl:IsPart vl lo) (pu:IsPart vu hi)
  (h:Q (((sIx n 0 lo:Nat):Int),1,sIx n n hi - sIx n 0 lo) s):wpAny (model prog w) A (Builtin.Slice.sliceApplied (.ref sl) (pure (n:Int))) Q E s:=by
 obtain⟨os,hos,hcs,hds⟩:=id hs
 unfold Builtin.Slice.sliceApplied Builtin.Slice.sliceFields
 refine wpAny_bind (wpAny_bind (wpAny_field hos hds (x:=vl) rfl (wpAny_bind (wpAny_field hos hds (x:=vu) rfl (wpAny_bind (wpAny_field hos hds (x:=.none) rfl (wpAny_pure ?_)))))))
 refine wpAny_bind (slicePart_none ?_)
 show wpAny _ _ (if ((1:Int)==0)=true then _ else _) _ _ s
 rw[if_neg (by decide)]
 refine wpAny_bind (zap3 pl (wpAny_bind (zap3 pu (wpAny_bind (wpAny_pure ?_)))))
 show wpAny _ _ (match Builtin.Slice.sliceAdjust lo hi 1 (n:Int) with|(lo,hi)=>pure (lo,(1:Int),Builtin.Slice.slicePlaces lo hi 1)) _ _ s
 rw[zbj9 lo hi n]
 show wpAny _ _ (pure (((sIx n 0 lo:Nat):Int),(1:Int),Builtin.Slice.slicePlaces ((sIx n 0 lo:Nat):Int) ((sIx n n hi:Nat):Int) 1)) _ _ s
 rw[zbl2]
 exact wpAny_pure h
theorem zca9 (xs:Array Value) (i k:Nat):((List.range k).filterMap fun (m:Nat)=>xs[((i:Int)+(m:Int)*1).toNat]?).toArray=((xs.toList.drop i).take k).toArray:=by
 have e:(fun (m:Nat)=>xs[((i:Int)+(m:Int)*1).toNat]?)=fun m=>xs[i+m]?:=by
  funext m
  have:((i:Int)+(m:Int)*1).toNat=i+m:=by omega
  rw[this]
 rw[e]
 have:=pick_run xs i k
 rw[List.filterMap_map] at this
 have e2:((fun x=>xs[x]?)∘fun x=>i+x)=fun m=>xs[i+m]?:=rfl
 rw[e2] at this
 rw[this]
theorem getItem_tuple_cut {t sl:Addr}{items:Array Value}{vl vu:Value}{lo hi:Option Int}{Q:Value->Shared->Prop}(ht:IsTup s.heap t items) (hs:s.heap.IsSliceOf sl vl vu .none) (pl:IsPart vl lo) (pu:IsPart vu hi)
  (hw:¬ (sIx items.size 0 lo=0/\sIx items.size items.size hi=items.size))
  (h:Q (.ref s.heap.objs.size) { s with heap:=s.heap.push { cls:=.type "tuple",data:=.seq ((items.toList.drop (sIx items.size 0 lo)).take (sIx items.size items.size hi - sIx items.size 0 lo)).toArray } })
  (hsz:items.size<=sizeLine):wpAny (model prog w) A (getItem (.ref t) (.ref sl)) Q E s:=by
 have htake:sizeOk (.seq ((items.toList.drop (sIx items.size 0 lo)).take (sIx items.size items.size hi - sIx items.size 0 lo)).toArray):=by
  show ((items.toList.drop (sIx items.size 0 lo)).take (sIx items.size items.size hi - sIx items.size 0 lo)).toArray.size<=sizeLine
  rw[zcv8,zdb6,zda6,Array.length_toList]
  omega
 have hj:sIx items.size items.size hi<=items.size:=sIx_le _ _ (zcw9 _) hi
 obtain⟨os,hos,hcs,hds⟩:=id hs
 have hTs:s.TypeIs (.ref sl) "slice":=⟨os,hos,hcs⟩
 unfold getItem
 try with_reducible refine wpAny_holding ?_
 first|refine wpAny_bind (wpAny_pure ?_)|skip
 refine wpAny_bind (wpAny_sequenceKey ht.typeIs (by decide) ?_)
 refine wpAny_bind (wpAny_callSpecial?_slot (name:=Str.ofString "__getitem__") ht.typeIs PyProof.Rows.slot_tuple_getitem
  (wpAny_call_entry PyProof.Rows.slot_tuple_getitem ht.typeIs entry_tuple_getitem ?_ (args_tuple_getitem _ _)))
 show wpAny _ _ (Builtin.Tuple.tupleItemsOf (.ref t) >>= _) _ _ s
 refine wpAny_bind (tupleItemsOf_ ht ?_)
 refine wpAny_bind (wpAny_typeOf hTs ?_)
 rw[if_pos (by decide)]
 refine wpAny_bind (zag9 hs pl pu ?_)
 have hno:¬ ((((sIx items.size 0 lo:Nat):Int)==0&&(1:Int)==1&&(sIx items.size items.size hi - sIx items.size 0 lo)==items.size)=true):=by
  intro q
  rw[zcw5,zcw5] at q
  have q1:((sIx items.size 0 lo:Nat):Int)=0:=eq_of_beq q.1.1
  have q2:sIx items.size items.size hi - sIx items.size 0 lo=items.size:=eq_of_beq q.2
  exact hw ⟨by omega,by omega⟩
 show wpAny _ _ (if (((sIx items.size 0 lo:Nat):Int)==0&&(1:Int)==1&&(sIx items.size items.size hi - sIx items.size 0 lo)==items.size)=true then _ else _) _ _ s
 rw[if_neg hno,zca9]
 first
  | exact wpAny_bind (m:=Builtin.Tuple.tupleExact _) (wpAny_newObj_type (wpAny_pure ⟨_,rfl,wpAny_pure h⟩) htake)
  | exact wpAny_bind (m:=Builtin.Tuple.tupleExact _) (wpAny_newObj_type (wpAny_bind (wpAny_pure (wpAny_pure ⟨_,rfl,wpAny_pure h⟩))) htake)
  | exact wpAny_bind (wpAny_bind (m:=Builtin.Tuple.tupleExact _) (wpAny_newObj_type (wpAny_pure (wpAny_pure ⟨_,rfl,wpAny_pure h⟩)) htake))
  | exact wpAny_bind (wpAny_bind (m:=Builtin.Tuple.tupleExact _) (wpAny_newObj_type (wpAny_pure ⟨_,rfl,wpAny_pure h⟩) htake))
end
end HT
namespace L2
open PySem PySem.Spec PyProof.Rows
abbrev TO:=St->Hp->(Option Int->Hp->Prop)->Prop
def PO (X:Cx) (e:Option Expr) (t:TO):Prop:=
 ∀ (pins:List (Addr×Obj)) (s:Shared) (σ:St) (H:Hp) (Q:Option Int->Hp->Prop),Inv X pins σ H s->t σ H Q ->
  wpAny (model X.prog X.w) X.A (evalPart e X.env) (fun u s'=>∃ o H',Inv X pins σ H' s'/\IsPart u o/\Q o H') X.xe s
def zcj1:TO:=fun _ H Q=>Q none H
theorem zbl5 {ns:List Int}:∀ {us:List Value},Vals (ns.map V.int) us->IntsAre us ns:=by
 induction ns with
 | nil=>intro us r;rw[List.map_nil] at r;cases r;exact .nil
 | cons n ns ih=>
  intro us r
  rw[zcy2] at r
  cases r with
  | cons r1 r2=>
   obtain⟨t,e⟩:=r1
   subst e
   exact .cons n t (ih r2)
section
variable {X:Cx}{e:Expr}{te:TE}{lo hi:Option Expr}{tl th:TO}{pos p2:Pos}
theorem zn8:PO X none zcj1:=by
 intro pins s σ H Q I h
 rw[evalPart_none]
 exact wpAny_pure ⟨none,H,I,.none,h⟩
def SlR (X:Cx) (r:V->Option Int->Option Int->Hp->VK->Prop):Prop:=
 ∀ (pins:List (Addr×Obj)) (s:Shared) (σ:St) (H:Hp) (x:V) (v vl vu:Value) (lo hi:Option Int) (sl:Addr) (Q:VK),Inv X pins σ H s->RelV x v->s.heap.IsSliceOf sl vl vu .none->IsPart vl lo->IsPart vu hi->r x lo hi H Q ->
  ∃ T id,typeLookup (.type T) "__getitem__"=pure (some (.builtin id))/\s.TypeIs v T/\wpAny (model X.prog X.w) X.A (getItem v (.ref sl)) (EP X pins σ Q) X.xe s
def tSl (r:V->Option Int->Option Int->Hp->VK->Prop) (te:TE) (tl th:TO):TE:=fun σ H Q=>te σ H fun x H1=>tl σ H1 fun l H2=>th σ H2 fun u H3=>r x l u H3 Q
theorem zj4 {r:V->Option Int->Option Int->Hp->VK->Prop}(hr:SlR X r) (he:PE X e te) (hl:PO X lo tl) (hu:PO X hi th):PE X (.Subscript e (.Slice lo hi none p2) pos) (tSl r te tl th):=by
 intro pins s σ H Q I h
 refine Subscript_ (thn (he pins s σ H _ I h) fun v s1 ⟨x,H1,I1,r1,q1⟩=>?_)
 refine wpAny_Slice (thn (hl pins s1 σ H1 _ I1 q1) fun vl s2 ⟨l,H2,I2,pl,q2⟩=>thn (hu pins s2 σ H2 _ I2 q2) fun vu s3 ⟨u,H3,I3,pu,q3⟩=>?_)
 rw[evalPart_none]
 refine wpAny_pure ?_
 have I4:Inv X pins σ H3 { s3 with heap:=s3.heap.push { cls:=.type "slice",data:=.fields #[vl,vu,.none] } }:=I3.kept (t':=s3.toks) fun b ob q=>zcv0 _ q
 obtain⟨T,id,hT,ht,hg⟩:=hr pins { s3 with heap:=s3.heap.push { cls:=.type "slice",data:=.fields #[vl,vu,.none] } } σ H3 x v vl vu l u s3.heap.objs.size Q I4 r1 (Heap.IsSliceOf.new ..) pl pu q3
 show wpAny (model X.prog X.w) X.A (subscriptTail e (.Slice lo hi none p2) v (.ref s3.heap.objs.size)) (EP X pins σ Q) X.xe { s3 with heap:=s3.heap.push { cls:=.type "slice",data:=.fields #[vl,vu,.none] } }
 exact tail_any (ops:=[.ref s3.heap.objs.size,v]) ht hT hg (by with_unfolding_all rfl)
def cutV (xs:List V) (lo hi:Option Int):List V:=(xs.drop (HT.sIx xs.length 0 lo)).take (HT.sIx xs.length xs.length hi - HT.sIx xs.length 0 lo)
theorem zaj8 (xs:List V) (lo hi:Option Int):(cutV xs lo hi).length<=xs.length:=by
 unfold cutV
 rw[zdb6,zda6]
 omega
def rSlT (K:zcu8):V->Option Int->Option Int->Hp->VK->Prop:=fun x lo hi H Q=>∃ a xs,x=.ref a/\SqT K H a xs /\
 ¬ (HT.sIx xs.length 0 lo=0/\HT.sIx xs.length xs.length hi=xs.length)/\∀ p,H p=none->Q (.ref p) (upd H p (.tup (cutV xs lo hi)))
theorem sl_tup:SlR X (rSlT X.K):=by
 intro pins s σ H x v vl vu lo hi sl Q I rx hs pl pu h
 obtain⟨a,xs,rfl,hx,hw,q⟩:=h
 cases rx
 obtain⟨its,r,ht,hz⟩:=I.tuple hx
 have hlen:its.toArray.size=xs.length:=by rw[zcv8];exact r.length.symm
 refine⟨"tuple",_,PyProof.Rows.slot_tuple_getitem.lookup,ht.typeIs,?_⟩
 refine HT.getItem_tuple_cut ht hs pl pu (by rw[hlen];exact hw) ?_ (by rw[hlen];exact hz)
 rw[hlen]
 refine⟨.ref s.heap.objs.size,_,I.laid (t':=s.toks) (o:=.tup (cutV xs lo hi)) (fun b ob q=>zcv0 _ q) (zcw9 _) ?_,rfl,q _ (I.hok.fresh (zcw9 _))⟩
 exact⟨zdb2 (zaj8 xs lo hi) hz,_,(r.drop (HT.sIx xs.length 0 lo)).take (HT.sIx xs.length xs.length hi - HT.sIx xs.length 0 lo),IsTup.new _ _⟩
end
end L2
namespace L2
open PySem PySem.Spec PyProof.Rows
def ixN (n:Nat) (i:Int):Option Nat:=if 0<=i then (if i<n then some i.toNat else none) else if -(n:Int)<=i then some (i+n).toNat else none
def atI {α:Type}(xs:List α) (i:Int):Option α:=(ixN xs.length i).bind fun j=>xs[j]?
theorem zbu8 {n:Nat}{i:Int}{j:Nat}(h:ixN n i=some j):seqIndex? i n=some j/\j<n/\-(n:Int)<=i/\i<n:=by
 unfold ixN at h
 by_cases h0:0<=i
 ·rw[if_pos h0] at h
  by_cases h1:i<n
  ·rw[if_pos h1] at h
   have e:i.toNat=j:=Option.some.inj h
   exact⟨by rw[seqIndex_of h0 h1,e],by omega,by omega,h1⟩
  ·rw[if_neg h1] at h;cases h
 ·rw[if_neg h0] at h
  by_cases h1:-(n:Int)<=i
  ·rw[if_pos h1] at h
   have e:(i+n).toNat=j:=Option.some.inj h
   exact⟨by rw[seqIndex_neg (by omega) h1,e],by omega,h1,by omega⟩
  ·rw[if_neg h1] at h;cases h
theorem zbd1 {α:Type}{xs:List α}{i:Int}{v:α}(h:atI xs i=some v):∃ j,seqIndex? i xs.length=some j/\xs[j]?=some v/\j<xs.length/\-(xs.length:Int)<=i/\i<xs.length:=by
 unfold atI at h
 cases e:ixN xs.length i with
 | none=>rw[e] at h;cases h
 | some j=>
  rw[e] at h
  obtain⟨h1,h2,h3,h4⟩:=zbu8 e
  exact⟨j,h1,h,h2,h3,h4⟩
theorem zl6 {α:Type}{xs:List α}{j:Nat}{v:α}(h:xs[j]?=some v):atI xs (j:Int)=some v:=by
 have hj:j<xs.length:=(zcv3.mp h).1
 have e:ixN xs.length (j:Int)=some j:=by
  unfold ixN
  rw[if_pos (by omega),if_pos (by omega)];simp
 unfold atI;rw[e];exact h
def zbc8 (b:Expr):Prop:=∀ o i,subscripted b false o i=operate [o,i] (getItem o i)
def IxR (X:Cx) (r:R2):Prop:=
 ∀ (value slice:Expr) (pins:List (Addr×Obj)) (s:Shared) (σ:St) (H:Hp) (x y:V) (v u:Value) (Q:VK),Inv X pins σ H s->RelV x v->RelV y u->r x y H Q ->
  subscripted slice false v u=operate [v,u] (getItem v u)->wpAny (model X.prog X.w) X.A (subscriptTail value slice v u) (EP X pins σ Q) X.xe s
def MtR (X:Cx) (id:String) (r:V->List V->Hp->VK->Prop):Prop:=
 ∀ (pins:List (Addr×Obj)) (s:Shared) (σ:St) (H:Hp) (x:V) (xs:List V) (v:Value) (us:List Value) (Q:VK),Inv X pins σ H s->RelV x v->Vals xs us->r x xs H Q ->
  wpAny (model X.prog X.w) X.A (call (.builtin id) (v :: us)) (EP X pins σ Q) X.xe s
section
variable {X:Cx}{a b:Expr}{ta tb:TE}{pos:Pos}
theorem pe_ix {r:R2}(hr:IxR X r) (ha:PE X a ta) (hb:PE X b tb) (hs:zbc8 b):PE X (.Subscript a b pos) (tOp r ta tb):=by
 intro pins s σ H Q I h
 exact Subscript_ (binT ha hb I h fun v u s2 x y H2 I2 rx ry q=>hr a b pins s2 σ H2 x y v u Q I2 rx ry q (hs _ _))
def rIxL (K:zcu8):R2:=fun x y H Q=>∃ p xs i v,x=.ref p/\y=.int i/\SqL K H p xs/\atI xs i=some v/\Q v H
def rIxT (K:zcu8):R2:=fun x y H Q=>∃ p xs i v,x=.ref p/\y=.int i/\SqT K H p xs/\atI xs i=some v/\Q v H
def rIxS:R2:=fun x y H Q=>∃ z i c,x=.str z/\y=.int i/\z.length<=sizeLine/\atI z.cps.toList i=some c/\Q (.str ⟨#[c]⟩) H
theorem zck0:IxR X (rIxL X.K):=by
 intro value slice pins s σ H x y v u Q I rx ry h hs
 obtain⟨p,xs,i,z,rfl,rfl,hq,he,q⟩:=h
 cases rx
 obtain⟨t,rfl⟩:=ry
 obtain⟨its,r,pl,hz⟩:=I.list hq
 obtain⟨j,h1,h2,h3,h4,h5⟩:=zbd1 he
 obtain⟨w,ew,rw'⟩:=r.get h2
 have hl:=r.length
 have hn:=zam4
 have fin:EP X pins σ Q w s:=⟨z,H,I,rw',q⟩
 by_cases h0:0<=i
 ·have hj:i.toNat=j:=by
   rw[seqIndex_of h0 h5] at h1
   exact Option.some.inj h1
  exact item_listR pl.isList h0 (by omega) (by rw[hj];simpa using ew) fin hs
 ·have hj:(i+(its.toArray.size:Int)).toNat=j:=by
   rw[seqIndex_neg (by omega) h4] at h1
   rw[zcv8,← hl]
   exact Option.some.inj h1
  exact subscriptTail_builtinR (x:=w) pl.isList.typeIs slot_list_getitem.lookup
   (wpAny_getItem_list_neg (Q:=fun r s'=>r=w/\EP X pins σ Q r s') pl.isList (by omega) (by rw[zcv8]<;>omega) (by omega) (by rw[hj];simpa using ew) ⟨rfl,fin⟩) hs
theorem ix_tup:IxR X (rIxT X.K):=by
 intro value slice pins s σ H x y v u Q I rx ry h hs
 obtain⟨p,xs,i,z,rfl,rfl,hq,he,q⟩:=h
 cases rx
 obtain⟨t,rfl⟩:=ry
 obtain⟨its,r,pl,hz⟩:=I.tuple hq
 obtain⟨j,h1,h2,h3,h4,h5⟩:=zbd1 he
 obtain⟨w,ew,rw'⟩:=r.get h2
 have hl:=r.length
 have hn:=zam4
 have fin:EP X pins σ Q w s:=⟨z,H,I,rw',q⟩
 exact subscriptTail_builtinR (x:=w) pl.typeIs slot_tuple_getitem.lookup
  (getItem_tuple (j:=j) (Q:=fun r s'=>r=w/\EP X pins σ Q r s') pl (by omega) (by omega) (by rw[zcv8,← hl];exact h1) (by simpa using ew) ⟨rfl,fin⟩) hs
theorem ix_str:IxR X rIxS:=by
 intro value slice pins s σ H x y v u Q I rx ry h hs
 obtain⟨z,i,c,rfl,rfl,hz,he,q⟩:=h
 obtain⟨t,rfl⟩:=rx
 obtain⟨t',rfl⟩:=ry
 obtain⟨j,h1,h2,h3,h4,h5⟩:=zbd1 he
 have hl:z.cps.toList.length=z.length:=by simp[Str.length]
 rw[hl] at h1 h4 h5
 have hn:=zam4
 exact tail_any (typeIs_str s z t) slot_str_getitem.lookup (getItem_str (c:=c) (by
  have e1:decide (i < -(2 ^ 63:Int))=false:=decide_eq_false (by omega)
  have e2:decide (i≥2 ^ 63)=false:=decide_eq_false (by omega)
  rw[e1,e2,Bool.or_false]) (by rw[h1];simpa using h2) ⟨.str ⟨#[c]⟩,H,I.tok _,⟨_,rfl⟩,q⟩) hs
theorem zbk7 (its:List Value) (n j:Nat) (u:Value):Obj.mapSeq (·.setIfInBounds j u) { cls:=.type "list",data:=.seq its.toArray n }={ cls:=.type "list",data:=.seq (its.set j u).toArray n }:=by
 simp[Obj.mapSeq]
theorem Inv.lst {pins:List (Addr×Obj)}{σ:St}{H:Hp}{s:Shared}{p:Addr}{xs:List V}(I:Inv X pins σ H s) (h:H p=some (.lst xs)) :
  ∃ (its:List Value) (n:Nat),Vals xs its/\s.heap.get? p=some { cls:=.type "list",data:=.seq its.toArray n }/\xs.length<=sizeLine:=by
 obtain⟨z,its,n,r,e⟩:=I.hok p _ h
 exact⟨its,n,r,e,z⟩
theorem Inv.lstUpd {pins:List (Addr×Obj)}{σ:St}{H:Hp}{s:Shared}{p:Addr}{xs ys:List V}{its its':List Value}{n n':Nat}{f:Obj->Obj}(I:Inv X pins σ H s) (h:H p=some (.lst xs))
  (ho:s.heap.get? p=some { cls:=.type "list",data:=.seq its.toArray n }) (hf:f { cls:=.type "list",data:=.seq its.toArray n }={ cls:=.type "list",data:=.seq its'.toArray n' }) (r:Vals ys its') (hz:ys.length<=sizeLine) (t:Nat) :
  Inv X pins σ (upd H p (.lst ys)) { s with heap:=s.heap.update p f,toks:=t }:=by
 have e:(s.heap.update p f).get? p=some { cls:=.type "list",data:=.seq its'.toArray n' }:=by
  rw[zcz8 f ho (by rw[hf]<;>rfl),hf]
 refine I.write (x:=p) (e:=p) (by rw[h];trivial) (.inl rfl) (fun b u hb q=>(zcx7 _ _ (Ne.symm hb)).trans q) ⟨_,e⟩ ?_
 exact⟨hz,its',n',r,e⟩
def rSetL:V->V->V->Hp->(Hp->Prop)->Prop:=fun o i v H Q=>∃ p xs k j,o=.ref p/\i=.int k/\H p=some (.lst xs)/\ixN xs.length k=some j/\Q (upd H p (.lst (xs.set j v)))
theorem zcb6:PSet X rSetL:=by
 intro pins s σ H o i v ov iv u Q I ro ri rv h
 obtain⟨p,xs,k,j,rfl,rfl,hp,hj,q⟩:=h
 cases ro
 obtain⟨t,rfl⟩:=ri
 obtain⟨its,n,r,ho,hz⟩:=I.lst hp
 obtain⟨h1,h2,h3,h4⟩:=zbu8 hj
 have hl:=r.length
 have hn:=zam4
 have I':Inv X pins σ (upd H p (.lst (xs.set j v))) { s with heap:=s.heap.update p (Obj.mapSeq (·.setIfInBounds j u)) }:=
  I.lstUpd hp ho (zbk7 its n j u) (r.set rv j) (by rw[zdd4];exact hz) s.toks
 by_cases h0:0<=k
 ·have hk:k.toNat=j:=by
   rw[seqIndex_of h0 h4] at h1
   exact Option.some.inj h1
  exact PySem.W.ki_setAt ho h0 (by omega) (by rw[zcv8,← hl];exact h4) (by rw[hk];exact⟨_,I',q⟩)
 ·have hk:(k+(its.toArray.size:Int)).toNat=j:=by
   rw[seqIndex_neg (by omega) h3] at h1
   rw[zcv8,← hl]
   exact Option.some.inj h1
  exact PySem.W.ki_setBack ho (by omega) (by rw[zcv8,← hl];exact h3) (by omega) (by rw[hk];exact⟨_,I',q⟩)
theorem zay0 (lo hi:Option Int) (n:Nat):(sliceBounds lo hi none n).1=((HT.sIx n 0 lo:Nat):Int)/\(sliceBounds lo hi none n).2.1=((HT.sIx n n hi:Nat):Int)/\(sliceBounds lo hi none n).2.2=1:=by
 refine⟨?_,?_,rfl⟩
 ·cases lo with
  | none=>simp[sliceBounds,HT.sIx]
  | some i=>
   simp only[sliceBounds,HT.sIx,Option.getD_none,show (1:Int)>0 by decide,if_true]
   by_cases h:i<0
   ·simp only[h,if_true]<;>omega
   ·simp only[h,if_false]<;>omega
 ·cases hi with
  | none=>simp[sliceBounds,HT.sIx]
  | some i=>
   simp only[sliceBounds,HT.sIx,Option.getD_none,show (1:Int)>0 by decide,if_true]
   by_cases h:i<0
   ·simp only[h,if_true]<;>omega
   ·simp only[h,if_false]<;>omega
theorem zar9 (its:List Value) (lo hi:Option Int):slicePick its.toArray lo hi none=((its.drop (HT.sIx its.length 0 lo)).take (HT.sIx its.length its.length hi - HT.sIx its.length 0 lo)).toArray:=by
 obtain⟨h1,h2,h3⟩:=zay0 lo hi its.toArray.size
 unfold slicePick
 rw[h1,h2,h3]
 simp only[sliceRange_one,pick_run,zcv8]<;>rfl
def rSlL (K:zcu8):V->Option Int->Option Int->Hp->VK->Prop:=fun x lo hi H Q=>∃ a xs,x=.ref a/\SqL K H a xs/\∀ p,H p=none->Q (.ref p) (upd H p (.lst (cutV xs lo hi)))
theorem zbq3:SlR X (rSlL X.K):=by
 intro pins s σ H x v vl vu lo hi sl Q I rx hs pl pu h
 obtain⟨a,xs,rfl,hx,q⟩:=h
 cases rx
 obtain⟨its,r,ht,hz⟩:=I.list hx
 have hlen:=r.length
 refine⟨"list",_,slot_list_getitem.lookup,ht.isList.typeIs,?_⟩
 refine wpAny_getItem_list_slice ht.isList hs pl pu .none (by simp) ?_ (by rw[zcv8]<;>omega)
 rw[zar9,← hlen]
 refine⟨.ref s.heap.objs.size,_,I.laid (t':=s.toks) (o:=.lst (cutV xs lo hi)) (fun b ob q=>zcv0 _ q) (zcw9 _) ?_,rfl,q _ (I.hok.fresh (zcw9 _))⟩
 exact⟨zdb2 (zaj8 xs lo hi) hz,_,0,(r.drop (HT.sIx xs.length 0 lo)).take (HT.sIx xs.length xs.length hi - HT.sIx xs.length 0 lo),zcx2 _ rfl⟩
def zu8:V->Bool
 | .non=>true
 | .bl _=>true
 | .int _=>true
 | .str _=>true
 | _=>false
def eqV:V->V->Bool
 | .non,.non=>true
 | .bl a,.bl b=>a==b
 | .bl a,.int b=>(if a then 1 else 0)==b
 | .int a,.bl b=>a==(if b then 1 else 0)
 | .int a,.int b=>a==b
 | .str a,.str b=>a==b
 | _,_=>false
theorem zbs1 {A:Around}{s:Shared}{y x:V}{u v:Value}(ry:RelV y u) (rx:RelV x v) (fy:zu8 y=true) (fx:zu8 x=true):SeqAt.EqAt A s u v (eqV y x):=by
 cases y with
 | non=>
  cases ry
  cases x with
  | non=>cases rx;exact SeqAt.EqAt.same _
  | bl b=>cases rx;exact SeqAt.EqAt.none_bool b
  | int b=>obtain⟨t,rfl⟩:=rx;exact SeqAt.EqAt.none_int b t
  | str b=>obtain⟨t,rfl⟩:=rx;exact SeqAt.EqAt.none_str b t
  | _=>exact absurd (show false=true from fx) zcw2
 | bl a=>
  cases ry
  cases x with
  | non=>cases rx;exact SeqAt.EqAt.bool_none a
  | bl b=>cases rx;exact SeqAt.EqAt.bool_bool a b
  | int b=>obtain⟨t,rfl⟩:=rx;exact SeqAt.EqAt.bool_int a b t
  | str b=>obtain⟨t,rfl⟩:=rx;exact SeqAt.EqAt.bool_str a b t
  | _=>exact absurd (show false=true from fx) zcw2
 | int a=>
  obtain⟨t',rfl⟩:=ry
  cases x with
  | non=>cases rx;exact SeqAt.EqAt.int_none a t'
  | bl b=>cases rx;exact SeqAt.EqAt.int_bool a t' b
  | int b=>obtain⟨t,rfl⟩:=rx;exact SeqAt.EqAt.int_int a t' b t
  | str b=>obtain⟨t,rfl⟩:=rx;exact SeqAt.EqAt.int_str a t' b t
  | _=>exact absurd (show false=true from fx) zcw2
 | str a=>
  obtain⟨t',rfl⟩:=ry
  cases x with
  | non=>cases rx;exact SeqAt.EqAt.str_none a t'
  | bl b=>cases rx;exact SeqAt.EqAt.str_bool a t' b
  | int b=>obtain⟨t,rfl⟩:=rx;exact SeqAt.EqAt.str_int a t' b t
  | str b=>obtain⟨t,rfl⟩:=rx;exact SeqAt.EqAt.str_str a t' b t
  | _=>exact absurd (show false=true from fx) zcw2
 | _=>exact absurd (show false=true from fy) zcw2
def eqU (x:V) (u:Value):Bool:=match u with
 | .none=>eqV .non x
 | .bool b=>eqV (.bl b) x
 | .int i _=>eqV (.int i) x
 | .str z _=>eqV (.str z) x
 | _=>false
theorem zbn4 {x y:V}{u:Value}(r:RelV y u) (f:zu8 y=true):eqU x u=eqV y x:=by
 cases y with
 | non=>cases r;rfl
 | bl b=>cases r;rfl
 | int i=>obtain⟨t,rfl⟩:=r;rfl
 | str z=>obtain⟨t,rfl⟩:=r;rfl
 | _=>exact absurd (show false=true from f) zcw2
theorem zaq6 {A:Around}{s:Shared}{x:V}{v:Value}(rx:RelV x v) (fx:zu8 x=true):∀ {xs:List V}{us:List Value},Vals xs us->xs.all zu8=true->∀ u∈us,SeqAt.EqAt A s u v (eqU x u)
 | _,_,.nil,_=>fun u hu=>by cases hu
 | y :: xs,u :: us,.cons r t,f=>fun u' hu=>by
  rw[List.all_cons,zcw5] at f
  rcases zcw3.mp hu with rfl|hu
  ·rw[zbn4 r f.1];exact zbs1 r rx f.1 fx
  ·exact zaq6 rx fx t f.2 u' hu
theorem zay3:zt2 X (.builtin "len") (fun xs H Q=>∃ p ys,xs=[.ref p]/\(SqL X.K H p ys∨SqT X.K H p ys)/\Q (.int ys.length) H):=by
 intro pins s σ H xs us Q I r h
 obtain⟨p,ys,rfl,hq,q⟩:=h
 obtain⟨u,rfl,rx⟩:=zao3 r
 cases rx
 have hn:=zam4
 rcases hq with hq|hq
 ·obtain⟨its,r',pl,hz⟩:=I.list hq
  have hlen:=r'.length
  exact Calls.call_len_list pl.isList (by simp only[zcv8]<;>omega) ⟨.int ys.length,H,I.tok _,⟨s.toks+1,by rw[zcv8,hlen]⟩,q⟩
 ·obtain⟨its,r',pl,hz⟩:=I.tuple hq
  have hlen:=r'.length
  exact len_tuple pl (by simp only[zcv8]<;>omega) ⟨.int ys.length,H,I.tok _,⟨s.toks+1,by rw[zcv8,hlen]⟩,q⟩
theorem zay1:zt2 X (.builtin "len") (fun xs H Q=>∃ z,xs=[.str z]/\z.length<=sizeLine/\Q (.int z.length) H):=by
 intro pins s σ H xs us Q I r h
 obtain⟨z,rfl,hz,q⟩:=h
 obtain⟨u,rfl,t,rfl⟩:=zao3 r
 have hn:=zam4
 exact len_str (by omega) ⟨.int z.length,H,I.tok _,⟨_,rfl⟩,q⟩
theorem zax6:zt2 X (.type "list") (fun xs H Q=>∃ p ys,xs=[.ref p]/\(SqL X.K H p ys∨SqT X.K H p ys)/\∀ l,H l=none->Q (.ref l) (upd H l (.lst ys))):=by
 intro pins s σ H xs us Q I r h
 obtain⟨p,ys,rfl,hq,q⟩:=h
 obtain⟨u,rfl,rx⟩:=zao3 r
 cases rx
 have fin:∀ (its:List Value),Vals ys its->ys.length<=sizeLine->∀ (h':Heap) (c':Nat),(∀ b o',s.heap.get? b=some o'->h'.get? b=some o') ->
   h'.get? s.heap.objs.size=some { cls:=.type "list",dict:=none,data:=.seq its.toArray c',slots:=#[] }->EP X pins σ Q (.ref s.heap.objs.size) { s with heap:=h' }:=fun its r' hz h' c' kp e=>
  ⟨.ref s.heap.objs.size,_,I.laid (t':=s.toks) kp (zcw9 _) (show zk0 X.prog X.w _ h' _ (.lst ys) from ⟨hz,its,c',r',e⟩),rfl,q _ (I.hok.fresh (zcw9 _))⟩
 rcases hq with hq|hq
 ·obtain⟨its,r',pl,hz⟩:=I.list hq
  have hlen:=r'.length
  obtain⟨o,ho,hc,n,hd⟩:=pl.isList
  exact call_list_seq p (.inl rfl) ho hc hd (fun h' c' kp e=>fin its r' hz h' c' kp e) (by simp only[zcv8]<;>omega)
 ·obtain⟨its,r',pl,hz⟩:=I.tuple hq
  have hlen:=r'.length
  obtain⟨o,ho,hc,n,hd⟩:=pl
  exact call_list_seq p (.inr rfl) ho hc hd (fun h' c' kp e=>fin its r' hz h' c' kp e) (by simp only[zcv8]<;>omega)
def tyV (K:zcu8) (T:String) (x:V) (H:Hp):Prop:=match x with
 | .str _=>T="str"
 | .int _=>T="int"
 | .ref p=>(T="list"/\∃ xs,SqL K H p xs)∨(T="tuple"/\∃ o,K.lookup p=some o/\o.cls=.type "tuple"/\o.dict=none) ∨
   (T="dict"/\((∃ kvs,H p=some (.dK kvs))∨∃ kvs,H p=some (.dT kvs)))∨(T="set"/\∃ S n,H p=some (.set S n))
 | _=>False
theorem tyV_is {pins:List (Addr×Obj)}{σ:St}{H:Hp}{s:Shared}{T:String}{x:V}{v:Value}(I:Inv X pins σ H s) (r:RelV x v) (ty:tyV X.K T x H) :
  s.TypeIs v T/\∀ a,v=.ref a->∃ ob,s.heap.get? a=some ob/\ob.dict=none:=by
 cases x with
 | str z=>
  obtain⟨t,rfl⟩:=r
  cases (show T="str" from ty)
  exact⟨typeIs_str s z t,fun _ e=>nomatch e⟩
 | int i=>
  obtain⟨t,rfl⟩:=r
  cases (show T="int" from ty)
  exact⟨typeIs_int s i t,fun _ e=>nomatch e⟩
 | ref p=>
  cases r
  rcases ty with ⟨rfl,xs,hq⟩|⟨rfl,o,hk,hc,hd⟩|⟨rfl,hk⟩|⟨rfl,S,n,hk⟩
  ·obtain⟨its,_,pl,_⟩:=I.list hq
   refine⟨pl.isList.typeIs,fun a e=>?_⟩
   cases e
   obtain⟨o,n,e,c,hd,_⟩:=pl
   exact⟨o,e,hd⟩
  ·refine⟨⟨o,I.kIn p o hk,hc⟩,fun a e=>?_⟩
   cases e
   exact⟨o,I.kIn _ o hk,hd⟩
  ·have z:∃ o,s.heap.get? p=some o/\o.ExactDict:=by
    rcases hk with ⟨kvs,hk⟩|⟨kvs,hk⟩
    ·obtain⟨_,_,_,_,o,_,_,e,ex,_⟩:=I.hok p _ hk
     exact⟨o,e,ex⟩
    ·obtain⟨_,_,_,_,o,_,_,e,ex,_⟩:=I.hok p _ hk
     exact⟨o,e,ex⟩
   obtain⟨o,e,ex⟩:=z
   refine⟨⟨o,e,ex.1⟩,fun a e2=>?_⟩
   cases e2
   exact⟨o,e,ex.2.1⟩
  ·obtain⟨o,_,_,_,e,ex,_⟩:=I.hok p _ hk
   refine⟨⟨o,e,ex.1⟩,fun a e2=>?_⟩
   cases e2
   exact⟨o,e,ex.2.1⟩
 | _=>exact False.elim ty
variable {o e:Expr}{es:List Expr}{to:TE}{t:TA}{name:Str}{apos cpos:Pos}{T id:String}{r:V->List V->Hp->VK->Prop}
end
end L2
namespace L2
open PySem PySem.Spec PyProof.Rows
def MtM (X:Cx) (id:String) (r:V->List V->Hp->VK->Prop):Prop:=
 ∀ (pins:List (Addr×Obj)) (s:Shared) (σ:St) (H:Hp) (x:V) (xs:List V) (v:Value) (us:List Value) (Q:VK),Inv X pins σ H s->RelV x v->Vals xs us->r x xs H Q ->
  wpAny (model X.prog X.w) X.A (call (.builtin id) (v :: us)) (EP X pins σ Q) X.xe s
theorem Vals.one:∀ {x:V}{us:List Value},Vals [x] us->∃ u,us=[u]/\RelV x u
 | _,_,.cons r .nil=>⟨_,rfl,r⟩
theorem Vals.two:∀ {x y:V}{us:List Value},Vals [x,y] us->∃ u v,us=[u,v]/\RelV x u/\RelV y v
 | _,_,_,.cons r (.cons q .nil)=>⟨_,_,rfl,r,q⟩
theorem Vals.reverse {xs:List V}{us:List Value}(h:Vals xs us):Vals xs.reverse us.reverse:=by
 induction h with
 | nil=>exact .nil
 | cons r t ih=>rw[List.reverse_cons,List.reverse_cons];exact Vals.append ih (.cons r .nil)
theorem Vals.rep {xs:List V}{us:List Value}(h:Vals xs us):∀ k:Nat,Vals (List.replicate k xs).flatten (List.replicate k us).flatten
 | 0=>.nil
 | k+1=>by
  rw[zda3,zda3,zdb8,zdb8]
  exact Vals.append h (Vals.rep h k)
theorem zav5 (its:List Value):∀ (k:Nat) (acc:List Value),
  List.foldl (fun x1 x2=>x1++x2) acc.toArray (List.replicate k its.toArray)=(acc++(List.replicate k its).flatten).toArray
 | 0,acc=>by simp
 | k+1,acc=>by
  have e:acc.toArray++its.toArray=(acc++its).toArray:=by simp
  have e2:(acc++its)++(List.replicate k its).flatten=acc++(List.replicate (k+1) its).flatten:=by
   rw[zda3,zdb8,List.append_assoc]
  rw[← e2,← zav5 its k (acc++its),← e,zda3,List.foldl_cons]
section
variable {X:Cx}{pins:List (Addr×Obj)}{σ:St}{H:Hp}{s:Shared}{l b:Addr}{xs ys zs:List V}
theorem Inv.lset {its its':List Value}{n:Nat}{f:Array Value->Array Value}{t':Nat}(I:Inv X pins σ H s) (hH:H l=some (.lst xs))
  (e:s.heap.get? l=some { cls:=.type "list",data:=.seq its.toArray n }) (hf:f its.toArray=its'.toArray) (hv:Vals ys its') (hz:ys.length<=sizeLine) :
  Inv X pins σ (upd H l (.lst ys)) { s with heap:=s.heap.update l (Obj.mapSeq f),toks:=t' }:=by
 have q:=PySem.IsL.update e f
 rw[hf] at q
 refine I.write (x:=l) (e:=l) (by rw[hH];exact trivial) (.inl rfl) (fun b' u hb hu=>(zcx7 s.heap (Obj.mapSeq f) (Ne.symm hb)).trans hu) ⟨_,q⟩ ?_
 exact⟨hz,its',_,hv,q⟩
theorem Inv.lnew {its:List Value}{t':Nat}(I:Inv X pins σ H s) (hv:Vals ys its) (hz:ys.length<=sizeLine) :
  Inv X pins σ (upd H s.heap.objs.size (.lst ys)) { s with heap:=s.heap.push { cls:=.type "list",data:=.seq its.toArray },toks:=t' }:=
 I.laid (fun _ _ q=>zcv0 _ q) (zcw9 _) ⟨hz,its,0,hv,zcx2 _ rfl⟩
theorem Inv.fresh (I:Inv X pins σ H s):H s.heap.objs.size=none:=I.hok.fresh (zcw9 _)
theorem Inv.lstM (I:Inv X pins σ H s) (hH:H l=some (.lst xs)):xs.length<=sizeLine/\∃ (its:List Value) (n:Nat),Vals xs its/\xs.length=its.length/\s.heap.get? l=some { cls:=.type "list",data:=.seq its.toArray n }:=by
 obtain⟨z,its,n,r,e⟩:=I.hok l _ hH
 exact⟨z,its,n,r,r.length,e⟩
theorem zbi0 {n:Nat}(h:n<=sizeLine):Builtin.List.listTooLong n=false:=by
 unfold Builtin.List.listTooLong
 exact decide_eq_false (by omega)
end
section
variable {X:Cx}
def zcg7:V->List V->Hp->VK->Prop:=fun x vs H Q=>∃ l xs y,x=.ref l/\vs=[y]/\H l=some (.lst xs)/\xs.length<sizeLine/\Q .non (upd H l (.lst (xs++[y])))
theorem zav8:MtM X "list.append" zcg7:=by
 intro pins s σ H x vs v us Q I rx rv h
 obtain⟨l,xs,y,rfl,rfl,hH,hz,q⟩:=h
 cases rx
 obtain⟨u,rfl,ru⟩:=rv.one
 obtain⟨z,its,n,r,hl,e⟩:=I.lstM hH
 refine call_meets F.slot_list_append ⟨_,e,rfl⟩ F.entry_list_append (F.args_list_append_2 _ _) (PySem.list_append l its.toArray n u (by rw[zcv8];omega)) ⟨e,?_⟩
 refine⟨.non,_,I.lset (its':=its++[u]) hH e (by simp) (r.append (.cons ru .nil)) ?_,rfl,q⟩
 rw[zcv9,zcw7]
 omega
def zcj8:V->List V->Hp->VK->Prop:=fun x vs H Q=>∃ l b xs zs,x=.ref l/\vs=[.ref b]/\H l=some (.lst xs)/\H b=some (.lst zs)/\xs.length+zs.length<=sizeLine/\Q .non (upd H l (.lst (xs++zs)))
theorem mt_extend:MtM X "list.extend" zcj8:=by
 intro pins s σ H x vs v us Q I rx rv h
 obtain⟨l,b,xs,zs,rfl,rfl,hH,hB,hz,q⟩:=h
 cases rx
 obtain⟨u,rfl,ru⟩:=rv.one
 cases ru
 obtain⟨z,its,n,r,hl,e⟩:=I.lstM hH
 obtain⟨z2,its2,n2,r2,hl2,e2⟩:=I.lstM hB
 have hsz:its.toArray.size+its2.toArray.size<=sizeLine:=by rw[zcv8,zcv8];omega
 have hlong:¬ (!its.toArray.isEmpty&&Builtin.List.listTooLong (its.toArray.size+its2.toArray.size))=true:=by
  rw[zbi0 hsz,Bool.and_false]
  exact zcw2
 refine call_meets F.slot_list_extend ⟨_,e,rfl⟩ F.entry_list_extend (F.args_list_extend_2 _ _)
  (AutoSeq1.list_extend_list_list_0 l its.toArray n b its2.toArray n2 hlong (by rw[zcv8];omega) (by omega)) ⟨e,e2,?_⟩
 refine⟨.non,_,I.lset (its':=its++its2) hH e (by simp) (r.append r2) ?_,rfl,q⟩
 rw[zcv9]
 omega
def rCat:R2:=fun x y H Q=>∃ l b xs zs,x=.ref l/\y=.ref b/\H l=some (.lst xs)/\H b=some (.lst zs)/\xs.length+zs.length<=sizeLine/\∀ p,H p=none->Q (.ref p) (upd H p (.lst (xs++zs)))
theorem op_cat:OpR X (binaryOp .Add) rCat:=by
 intro pins s σ H x y v u Q I rx ry h
 obtain⟨l,b,xs,zs,rfl,rfl,hH,hB,hz,q⟩:=h
 cases rx
 cases ry
 obtain⟨z,its,n,r,hl,e⟩:=I.lstM hH
 obtain⟨z2,its2,n2,r2,hl2,e2⟩:=I.lstM hB
 refine PySem.P.add_list e e2 ?_ (by rw[zcv8,zcv8];omega)
 have ea:its.toArray++its2.toArray=(its++its2).toArray:=by simp
 rw[ea]
 exact⟨.ref _,_,I.lnew (t':=s.toks) (r.append r2) (by rw[zcv9];omega),rfl,q _ I.fresh⟩
def rRep:R2:=fun x y H Q=>∃ l k xs,x=.ref l/\y=.int k/\H l=some (.lst xs)/\-(2 ^ 63)<=k/\k<2 ^ 63/\xs.length*k.toNat<=sizeLine /\
 ∀ p,H p=none->Q (.ref p) (upd H p (.lst (List.replicate k.toNat xs).flatten))
theorem zci5 {α:Type}(xs:List α) (k:Nat):(List.replicate k xs).flatten.length=k*xs.length:=by
 induction k with
 | zero=>simp
 | succ k ih=>rw[zda3,zdb8,zcv9,ih,Nat.succ_mul,Nat.add_comm]
theorem op_rep:OpR X (binaryOp .Mult) rRep:=by
 intro pins s σ H x y v u Q I rx ry h
 obtain⟨l,k,xs,rfl,rfl,hH,h1,h2,hz,q⟩:=h
 cases rx
 obtain⟨t,rfl⟩:=ry
 obtain⟨z,its,n,r,hl,e⟩:=I.lstM hH
 have hlen:its.toArray.size*k.toNat<=sizeLine:=by rw[zcv8,← hl];exact hz
 have hcap:¬ its.toArray.size*k.toNat>(2 ^ 63 - 1) / 8:=by
  have:(sizeLine:Nat)<=(2 ^ 63 - 1) / 8:=by decide
  omega
 have hfit:¬ (!Builtin.List.listFitsIndex k)=true:=by
  rw[fitsIndex_both h1 h2]
  exact zcw2
 have hlong:¬ Builtin.List.listTooLong (its.toArray.size*k.toNat)=true:=by
  rw[zbi0 hlen]
  exact zcw2
 have hnew:List.foldl (fun x1 x2=>x1++x2) #[] (List.replicate (if its.toArray.isEmpty=true then 0 else k.toNat) its.toArray)=(List.replicate k.toNat its).flatten.toArray:=by
  have f0:∀ m:Nat,List.foldl (fun x1 x2=>x1++x2) #[] (List.replicate m its.toArray)=(List.replicate m its).flatten.toArray:=fun m=>by
   have:=zav5 its m []
   rw[List.nil_append] at this
   exact this
  rw[f0]
  cases its with
  | nil=>simp
  | cons a r'=>rw[if_neg (by simp)]
 refine wpAny_binaryOp_repeat_ref (T:="list") (U:="int") (by decide) ⟨_,e,rfl⟩ (fun s'=>typeIs_int s' k t) noFill_list_mul F.fills_int_mul F.slot_int_rmul repeat_list F.slot_int_index.lookup
  (call_meets F.slot_int_rmul (typeIs_int s k t) F.entry_int_rmul (F.args_int_rmul_2 _ _) (int___rmul___int_list k t l its.toArray n)
   ⟨e,rfl,⟨_,e,rfl⟩,call_meets F.slot_list_mul ⟨_,e,rfl⟩ F.entry_list_mul (F.args_list_mul_2 _ _) (AutoListH.list___mul___list_int_3 l its.toArray n k t hfit hcap hlong) ⟨e,?_⟩⟩)
 rw[hnew]
 exact⟨.ref _,_,I.lnew (t':=s.toks) (r.rep k.toNat) (by rw[zci5,Nat.mul_comm];exact hz),rfl,q _ I.fresh⟩
end
section
variable {prog:Program}{w:World}{A:Around}{E:Value->Shared->Prop}{s:Shared}
end
section
variable {X:Cx}
end
end L2
namespace Att
open PySem PySem.W PySem.Calls PyProof.Rows
theorem zam5 {P:Params}{h:Heap}:∀ (ns:List Int) (vs:List Value),WellAll P h vs (ns.map WData.int)->IntsAre vs ns:=by
 intro ns
 induction ns with
 | nil=>
  intro vs w
  rw[List.map_nil] at w
  cases w
  exact .nil
 | cons n ns ih=>
  intro vs w
  rw[zcy2] at w
  cases w with
  | cons a b=>
   cases a
   exact .cons _ _ (ih _ b)
theorem zbs9 {l:OpenLaw}{n:Nat}(hn:l.most=some n) {P:Params}{h:Heap}{args:List WData}{vals:List Value}
  (hpre:l.row.toRowW.claim.pre args=true) (hwl:WellAll P h vals args) :
  ∃ a vs ns,vals=[Value.ref a]/\args=[WData.list (ns.map WData.int)]/\h.get? a=some { cls:=.type "list",data:=.seq vs.toArray }/\IntsAre vs ns/\ns.length<=n:=by
 have hsh:WShape.hasAll [] args [.list .int]=true:=(pre_splitW hpre).1
 have hc:l.pre.holds [] { args:=args }=true:=(pre_splitW hpre).2
 obtain⟨d,r,rfl,h1,h2⟩:=hasAllW_cons hsh
 obtain rfl:=hasAllW_nil h2
 obtain⟨xs,rfl,h3⟩:=hasW_list h1
 obtain⟨ns,rfl⟩:=items_int h3
 have hlen:ns.length<=n:=by
  unfold OpenLaw.pre at hc
  have h4:(WTm.not (.lt (.lit (.int (n:Int))) (.len (.arg 0)))).holds [] { args:=[.list (ns.map .int)] }=true:=by
   have h4:=(holds_andW hc).1
   rw[hn] at h4
   exact h4
  have h5:=condW_of h4 (w_not (w_lt w_lit (w_len_list (w_arg rfl))))
  rw[zcu6] at h5
  refine Nat.le_of_not_lt fun q=>?_
  have q':(n:Int)<((ns.length:Nat):Int):=by omega
  first
   | (rw[decide_eq_true q'] at h5;exact absurd h5 (by decide))
   | (simp at h5;omega)
 cases hwl with
 | cons w1 w2=>
  cases w2
  cases w1 with
  | list ho hall=>exact⟨_,_,ns,rfl,rfl,ho,zam5 ns _ hall,hlen⟩
theorem zbr0 (l:OpenLaw) (args:List WData):l.row.toRowW.claim.post args (.bool true) args=true:=
 postW_of (r:=l.row.toRowW) (X:=(true==true))
  (show WShape.has [] (.bool true) .bool=true by first|rfl|decide|simp[WShape.has,WShape.arms,WShape.armsAll])
  (show (WTm.eq .res (.lit (.bool true))).value [] { args:=args,res:=some (.bool true),after:=args }=some (.bool (true==true)) from w_eq_bool (w_res rfl) w_lit) rfl
theorem attach_call {l:OpenLaw}{n:Nat}{q:Program}{loose:List Str}{XP:(Str->Option Value)->Heap->Prop}{YP:World->Heap->Prop}{d:DefRec}
  (hn:l.most=some n) (hdf:d.params.defaults=[])
  (call:∀ (w:World) (s₀ s₁:Shared) (mg mb:Str->Option Value) (fa:Addr) (o:Obj) (pm cd doc:Value) (a:Addr) (vs:List Value) (ns:List Int),
   Ground q loose [] XP w s₀ mg mb s₁.heap->YP w s₁.heap ->
   s₁.heap.get? fa=some o->o.data=.func (docDef d.name d.params d.body d.scope pm cd doc)->s₁.heap.CodeRec cd d.name->mg d.name=some (.ref fa) ->
   s₁.heap.get? a=some { cls:=.type "list",data:=.seq vs.toArray }->IntsAre vs ns->ns.length<=n->s₁.gens=#[] ->
   codeAny (model l.prog w) callerA (.call (.ref fa) ⟨[.ref a],[]⟩) (fun r s'=>r=.ok (.ret (.bool true))/\OldK s₁.heap s'.heap/\s'.os=s₁.os/\AllBare s'.gens) s₁) :
  WalkO q loose XP YP l.row.toRowW d [] (fun f vs=>PySem.call f vs):=by
 intro w s₀ s₁ mg mb G Y fa o pm cd doc dV kV ho hd hcd hD hmg hg args vals as hpre hlay hrd hwl hlo
 obtain rfl:dV=.none:=Dflts.none hD hdf
 obtain rfl:kV=.none:=Dflts.noKw hD
 obtain⟨a,vs,ns,rfl,rfl,hobj,hints,hlen⟩:=zbs9 hn hpre hwl
 refine enter_call (codeAny_mono (call w s₀ s₁ mg mb fa o pm cd doc a vs ns G Y ho (fd_plain hd) hcd hmg hobj hints hlen hg) fun r s' hq=>?_)
 obtain⟨rfl,h2,h3,h4⟩:=hq
 exact⟨.inl ⟨.bool true,.bool true,[],rfl,fun _=>rfl,.bool true,zbr0 l _,fun _=>⟨List.Pairwise.nil,fun _ hm=>(nomatch hm)⟩⟩,h2,h3,h4⟩
section
variable {prog:Program}{w:World}{A:Around}{E:Value->Shared->Prop}{s:Shared}{K:Frag}
def ledger (h:Heap) (L d:Addr):List (Addr×Obj):=(List.range h.objs.size).filterMap fun a=>if a=L∨a=d then none else (h.get? a).map fun o=>(a,o)
end
end Att
namespace L2
open PySem PySem.Spec PyProof.Rows
theorem zav6:∀ {vs:List Value}{ns:List Int},IntsAre vs ns->Vals (ns.map V.int) vs
 | _,_,.nil=>.nil
 | _,_,.cons n t h=>.cons ⟨t,rfl⟩ (zav6 h)
def Only (H:Hp):Prop:=∀ b,H b=none∨∃ o xs,H b=some (.frz o (.lst xs))
theorem zcb2 {P:Program}{w:World}{K:zcu8}{mg mb:Str->Option Value}{CX:CXT}{k:Nat}{fa a:Addr}{fd:FuncData}{x:Str}{sp:Sp}{s₁:Shared}{vs:List Value}{ns:List Int}
  (KX:K.In s₁.heap) (hns:s₁.heap.Ns mainGlobals mg) (hb:s₁.heap.Ns builtinsNs mb) (hbb:∀ x:Str,x≠"__name__"->mb x=bootBuiltins x) (hlim:s₁.heap.NoLimit) (hg:s₁.gens=#[])
  (ha:s₁.heap.get? a=some { cls:=.type "list",data:=.seq vs.toArray }) (hi:IntsAre vs ns) (hl:ns.length<=sizeLine) (hr:Room k callerA)
  (F:∀ base:Heap,K.In base->base.Ns mainGlobals mg->FnOk P w K mg base CX k fa fd [x] sp) (hbind:∀ (s:Shared) (u:Value),BindsTo s fd ⟨[u],[]⟩ [(x,u)])
  (hsp:∀ H:Hp,Only H->SqL K H a (ns.map V.int)->sp [.ref a] H (fun v _=>v=.bl true) fun _ _ _=>False)
  (hCX:∀ H e s',CX [] H s₁ (fun _ _ _=>False) e s'->False) :
  codeAny (model P w) callerA (.call (.ref fa) ⟨[.ref a],[]⟩) (fun r s'=>r=.ok (.ret (.bool true))/\OldK s₁.heap s'.heap/\s'.os=s₁.os/\AllBare s'.gens) s₁:=by
 have rv:=zav6 hi
 have lenV:=hi.length
 have core:∀ H:Hp,Only H->SqL K H a (ns.map V.int)->HOk P w H s₁.heap->(∀ b,H b≠none->b=a)->(H a≠none->K.lookup a=none) ->
   codeAny (model P w) callerA (.call (.ref fa) ⟨[.ref a],[]⟩) (fun r s'=>r=.ok (.ret (.bool true))/\OldK s₁.heap s'.heap/\s'.os=s₁.os/\AllBare s'.gens) s₁:=by
  intro H hO hS hok hA hK
  have base_of:∀ {b:Addr}{o:Obj},s₁.heap.get? b=some o->H b=none->(hidT s₁.heap H).get? b=some o:=fun e n=>zcc4 e n
  have noA:∀ {b:Addr}{o:Obj}{es:Array DictEntry}{ep:Nat},s₁.heap.get? b=some o->o.data=.dict es ep->H b=none:=fun {b o es ep} e d=>by
   cases q:H b with
   | none=>rfl
   | some u=>
    have e':b=a:=hA b (by rw[q];simp)
    subst e'
    rw[ha] at e;cases e
    have d':Data.seq vs.toArray _=Data.dict es ep:=d
    cases d'
  have nsK:∀ {b:Addr}{m:Str->Option Value},s₁.heap.Ns b m->(hidT s₁.heap H).Ns b m:=fun {b m} ⟨o,es,ep,e,d,r⟩=>⟨o,es,ep,base_of e (noA e d),d,r⟩
  have hKb:K.In (hidT s₁.heap H):=fun b o e=>base_of (KX b o e) (by
   cases q:H b with
   | none=>rfl
   | some u=>
    have e':b=a:=hA b (by rw[q];simp)
    subst e'
    rw[hK (by rw[q];simp)] at e;cases e)
  have hM:Mod K mg (hidT s₁.heap H):=⟨hKb,nsK hns,⟨mb,nsK hb,hbb⟩,let ⟨mc,h1,h2⟩:=hlim;⟨mc,nsK h1,h2⟩⟩
  have e0:Env0 P w K mg (hidT s₁.heap H) callerA [] s₁ H:=⟨rfl,hM,fun b o e=>zcg1 e,Nat.le_of_eq (zbx4 _ _),trivial,fun b hb=>absurd (show b∈([]:List Addr) from hb) (by simp),hok,.of_eq hg⟩
  refine codeAny_mono ((F _ hKb (nsK hns)).run callerA [] s₁ H ⟨[.ref a],[]⟩ [.ref a] [.ref a] _ _ hr e0 (hbind s₁ (.ref a)) (.cons rfl .nil) (hsp H hO hS)) fun r s' h=>?_
  cases r with
  | error e=>exact (hCX H e s' h).elim
  | ok fl=>
   cases fl with
   | next=>exact False.elim h
   | brk=>exact False.elim h
   | cont=>exact False.elim h
   | ret u=>
    obtain⟨v,H',os,bare,un,hok',r',q⟩:=h
    have q':v=.bl true:=q
    subst q'
    obtain rfl:u=Value.bool true:=r'
    refine⟨rfl,OldK.of_keep fun b o e=>?_,os,bare⟩
    cases q:H b with
    | none=>exact un.keep b o e q (by intro z;exact absurd (show b∈([]:List Addr) from z) (by simp)) (by simp)
    | some u=>
     rcases hO b with z|⟨ob,xs,z⟩
     ·rw[q] at z;cases z
     ·have z2:=un.frzs b ob _ z
      obtain⟨e1,_⟩:=hok b _ z
      obtain⟨e2,_⟩:=hok' b _ z2
      rw[e] at e1;cases e1
      exact e2
 cases hk:K.lookup a with
 | some o=>
  have e:=KX a o hk
  rw[ha] at e
  cases e
  refine core (fun _=>none) (fun _=>.inl rfl) (.inr ⟨_,vs.toArray,_,hk,rfl,rfl,rfl,by rw[zcv8,lenV];exact hl,by simpa using rv⟩) (fun b u z=>by have z':(none:Option HO)=some u:=z;cases z') (fun b z=>absurd rfl z) fun z=>absurd rfl z
 | none=>
  refine core (fun b=>if b=a then some (.frz { cls:=.type "list",data:=.seq vs.toArray } (.lst (ns.map V.int))) else none) (fun b=>?_) (.inl (.inr ⟨{ cls:=.type "list",data:=.seq vs.toArray },if_pos rfl⟩)) (fun b u z=>?_) (fun b z=>?_) fun _=>hk
  ·by_cases hb:b=a
   ·exact .inr ⟨_,_,if_pos hb⟩
   ·exact .inl (if_neg hb)
  ·by_cases hb:b=a
   ·have z':=(if_pos hb).symm.trans z
    cases z'
    subst hb
    exact⟨ha,by rw[zcu6];exact hl,vs,_,rv,ha⟩
   ·have z':=(if_neg hb).symm.trans z
    cases z'
  ·by_cases hb:b=a
   ·exact hb
   ·exact absurd (if_neg hb) z
end L2
namespace L2
open PySem PySem.Spec PyProof.Rows
theorem walk_of {l:PySem.W.OpenLaw}{n k:Nat}{q:Program}{loose:List Str}{XP:(Str->Option Value)->Heap->Prop}{YP:World->Heap->Prop}{d:DefRec}{K:Params->zcu8}{CX:World->CXT}{sp:World->Sp}{x:Str}
  (hn:l.most=some n) (hn2:n<=sizeLine) (hdf:d.params.defaults=[]) (hr:Room k callerA)
  (hY:∀ (w:World) (h:Heap),YP w h->(K w.params).In h)
  (F:∀ (w:World) (mg:Str->Option Value) (fa:Addr) (h:Heap),(K w.params).In h->h.Ns mainGlobals mg->mg d.name=some (.ref fa) ->
   ∃ fd:FuncData,(∀ (s:Shared) (u:Value),BindsTo s fd ⟨[u],[]⟩ [(x,u)]) /\
    ∀ base:Heap,(K w.params).In base->base.Ns mainGlobals mg->FnOk l.prog w (K w.params) mg base (CX w) k fa fd [x] (sp w))
  (hsp:∀ (w:World) (H:Hp) (a:Addr) (ns:List Int),ns.length<=n->Only H->SqL (K w.params) H a (ns.map V.int)->sp w [.ref a] H (fun v _=>v=.bl true) fun _ _ _=>False)
  (hCX:∀ (w:World) (H:Hp) (s:Shared) (e:Value) (s':Shared),CX w [] H s (fun _ _ _=>False) e s'->False) :
  PySem.W.WalkO q loose XP YP l.row.toRowW d [] (fun f vs=>PySem.call f vs):=by
 refine Att.attach_call hn hdf fun w s₀ s₁ mg mb fa o pm cd doc a vs ns G Y ho hd hcd hmg hobj hints hlen hg=>?_
 have KX:=hY w _ Y
 obtain⟨fd,hb,hF⟩:=F w mg fa _ KX G.T.g hmg
 exact zcb2 KX G.T.g G.T.b G.T.builtins G.T.nolimit hg hobj hints (zdb2 hlen hn2) hr hF hb (fun H hO hS=>hsp w H a ns hlen hO hS) fun H e s'=>hCX w H s₁ e s'
end L2
namespace L2
open PySem PySem.Spec PyProof.Rows
def zcj3 (s:Stmt) (j:Nat):Stmt:=match s with
 | .ClassDef _ _ _ body _ _ _ _ _ _ _=>body.getD j (.Pass ⟨0,0,0,0⟩)
 | _=>.Pass ⟨0,0,0,0⟩
def zb2 (s:Stmt):Arguments:=match s with
 | .FunctionDef _ a _ _ _ _ _ _ _ _=>a
 | _=>{ posonlyargs:=[],args:=[],vararg:=none,kwonlyargs:=[],kw_defaults:=[],kwarg:=none,defaults:=[] }
def za9 (s:Stmt):List Stmt:=match s with
 | .FunctionDef _ _ b _ _ _ _ _ _ _=>b
 | _=>[]
def za3 (s:Stmt):Scope:=match s with
 | .FunctionDef _ _ _ _ _ _ sc _ _ _=>sc
 | _=>{ kind:=.function,names:=[],isGenerator:=false,isCoroutine:=false }
abbrev CX0:CXT:=fun _ _ _ _ _ _=>False
abbrev E0:XK:=fun _ _ _=>False
theorem zb5 {X:Cx}:zaq0 CX0 X E0:=fun _ _ _ _ _ _ _ h=>h.elim
structure Fun (K:zcu8) (x qual:Str) (st:Stmt) (f:Addr) (fd:FuncData):Prop where
 ex:∃ (oc:Value) (od:Option Addr) (kV doc pm:Value) (an:Option Addr) (cdv ct:Value) (osl:Array (Option Value)),
  fd=zcw4 x qual (zb2 st) (za9 st) (za3 st) .none kV doc pm an cdv ct/\K.lookup f=some ⟨oc,od,.func fd,osl⟩/\zcw1 K cdv qual=true
 kp:zcw0 K (.ref f)=true
section
variable {P:Program}{w:World}{K:zcu8}{mg:Str->Option Value}{base:Heap}
theorem Fun.ok {x qual:Str}{st:Stmt}{f:Addr}{fd:FuncData}{N ps:List Str}{k:Nat}{sp:Sp}(F:Fun K x qual st f fd) (S:zb3 N ps (za3 st)) (len:∀ vs H Q E,sp vs H Q E->vs.length=ps.length)
  (hbody:∀ (cdv:Value) (A:Around) (outer:List Env) (s:Shared) (H:Hp) (vs:List V) (Q:VK) (E:XK),Room k (A.deeper (envOfC qual (za3 st) s.heap.objs.size f cdv))->sp vs H Q E ->
   ∃ t,PSs (cxOf CX0 P w K mg base N qual (za3 st) f cdv A outer s H E).nox (za9 st) t/\t { nx:=fun _ H'=>Q .non H',rt:=Q } (zau2 N vs) H):FnOk P w K mg base CX0 (k+1) f fd ps sp:=by
 obtain⟨oc,od,kV,doc,pm,an,cdv,ct,osl,rfl,lk,hcd⟩:=F.ex
 refine fn_of lk hcd S len fun A outer s H vs Q E hr hsp=>?_
 obtain⟨t,h,q⟩:=hbody cdv A outer s H vs Q E hr hsp
 exact⟨t,h.nox,q⟩
theorem Fun.binds {x qual:Str}{st:Stmt}{f:Addr}{fd:FuncData}{ps:List Str}(F:Fun K x qual st f fd)
  (h:∀ (kV doc pm:Value) (an:Option Addr) (cdv ct:Value) (us:List Value),us.length=ps.length->bindArgs (zcw4 x qual (zb2 st) (za9 st) (za3 st) .none kV doc pm an cdv ct) ⟨us,[]⟩=pure (ps.zip us)):zau3 K fd ps []:=by
 obtain⟨oc,od,kV,doc,pm,an,cdv,ct,osl,rfl,lk,hcd⟩:=F.ex
 exact .all (h kV doc pm an cdv ct)
theorem zc4 {x qual:Str}{st:Stmt}{f:Addr}{oc:Value}{od an:Option Addr}{osl:Array (Option Value)}{kV doc pm cdv ct:Value}(l:K.lookup f=some ⟨oc,od,.func (zcw4 x qual (zb2 st) (za9 st) (za3 st) .none kV doc pm an cdv ct),osl⟩)
  (c:zcw1 K cdv qual=true) (k:zcw0 K (.ref f)=true):Fun K x qual st f (zcw4 x qual (zb2 st) (za9 st) (za3 st) .none kV doc pm an cdv ct):=⟨⟨oc,od,kV,doc,pm,an,cdv,ct,osl,rfl,l,c⟩,k⟩
end
section
variable {X:Cx}
end
theorem iteF {A B:Prop}(h:B):if false=true then A else B:=by
 rw[if_neg zcw2]
 exact h
theorem iteT {A B:Prop}(h:A):if true=true then A else B:=by
 rw[if_pos rfl]
 exact h
theorem ite2 {c A B:Prop}[Decidable c] (h1:c->A) (h2:¬ c->B):if c then A else B:=by
 by_cases h:c
 ·rw[if_pos h]
  exact h1 h
 ·rw[if_neg h]
  exact h2 h
def Same (H H':Hp):Prop:=∀ b o,H b=some o->H' b=some o
theorem Same.refl (H:Hp):Same H H:=fun _ _ h=>h
theorem Same.trans {H H1 H2:Hp}(a:Same H H1) (b:Same H1 H2):Same H H2:=fun c o h=>b c o (a c o h)
theorem Same.free {H H':Hp}(e:Same H H') {l:Addr}(h:H' l=Option.none):H l=Option.none:=by
 cases q:H l with
 | none=>rfl
 | some o=>
  rw[e l o q] at h
  cases h
theorem Same.seq {K:zcu8}{H H':Hp}{a:Addr}{xs:List V}(e:Same H H') (h:SqL K H a xs):SqL K H' a xs:=by
 rcases h with (h|⟨o,h⟩)|h
 ·exact .inl (.inl (e _ _ h))
 ·exact .inl (.inr ⟨o,e _ _ h⟩)
 ·exact .inr h
end L2
set_option maxHeartbeats 1000000
namespace L2
open PySem PySem.Spec PyProof.Rows
@[irreducible] def br (c:Bool) (A B:Prop):Prop:=if c=true then A else B
section
variable {A B p:Prop}{c:Bool}
theorem zal4:br c A B=(if c=true then A else B):=by unfold br;rfl
theorem br_T (h:A):br true A B:=by unfold br;exact iteT h
theorem br_F (h:B):br false A B:=by unfold br;exact iteF h
theorem br_any (h1:c=true->A) (h2:c=false->B):br c A B:=by
 cases c with
 | true=>exact br_T (h1 rfl)
 | false=>exact br_F (h2 rfl)
theorem ze9 [Decidable p] (h1:p->A) (h2:¬ p->B):br (decide p) A B:=br_any (fun h=>h1 (of_decide_eq_true h)) fun h=>h2 (of_decide_eq_false h)
theorem zad2 [Decidable p] (hp:p) (h:A):br (decide p) A B:=ze9 (fun _=>h) fun n=>absurd hp n
theorem zy6 [Decidable p] (hp:¬ p) (h:B):br (decide p) A B:=ze9 (fun n=>absurd n hp) fun _=>h
theorem zd6 (h:br c B A):br (!c) A B:=by
 cases c with
 | true=>unfold br at h ⊢;simpa using h
 | false=>unfold br at h ⊢;simpa using h
end
def Chg (a:Addr) (H H':Hp):Prop:=∀ b o,b≠a->H b=some o->H' b=some o
theorem Chg.upd {H:Hp}{a:Addr}{o:HO}:Chg a H (upd H a o):=fun b u hb e=>by rw[zc3 hb];exact e
theorem Same.upd {H:Hp}{a:Addr}{o:HO}(h:H a=none):Same H (L2.upd H a o):=fun b u e=>by rw[zc3 (za5 e h)];exact e
theorem Same.chg {H0 H H':Hp}{a:Addr}(s:Same H0 H) (n:H0 a=none) (c:Chg a H H'):Same H0 H':=fun b o e=>c b o (za5 e n) (s b o e)
theorem Chg.refl (a:Addr) (H:Hp):Chg a H H:=fun _ _ _ e=>e
theorem Chg.trans {H H1 H2:Hp}{a:Addr}(x:Chg a H H1) (y:Chg a H1 H2):Chg a H H2:=fun b o h e=>y b o h (x b o h e)
theorem Chg.same {H H1 H2:Hp}{a:Addr}(x:Chg a H H1) (y:Same H1 H2):Chg a H H2:=fun b o h e=>y b o (x b o h e)
theorem Same.toChg {H H1:Hp}{a:Addr}(x:Same H H1):Chg a H H1:=fun b o _ e=>x b o e
theorem Same.at {H H':Hp}{b:Addr}{o:HO}(s:Same H H') (e:H b=some o):H' b=some o:=s b o e
theorem Chg.at {H H':Hp}{a b:Addr}{o:HO}(s:Chg a H H') (e:H b=some o) (n:b≠a):H' b=some o:=s b o n e
def qV (i:Nat):TE:=fun σ H Q=>match σ[i]? with
 | some (some v)=>Q v H
 | _=>False
section
variable {X:Cx}
theorem pq (i:Nat) {x:Str}{pos:Pos}(hN:X.N[i]?=some x:=by rfl) (hv:Vis X.env.scope x:=by first|exact Or.inl rfl|exact Or.inr (Or.inl rfl)|exact Or.inr (Or.inr rfl)) (hd:(x==("__debug__":Str))=false:=by decide)
  (hcd:(x==("__classdict__":Str))=false:=by decide):PE X (.Name x pos) (qV i):=fun pins s σ H Q I h=>by
 refine pe_var hN hv hd hcd pins s σ H Q I ?_
 unfold qV at h
 split at h
 ·rename_i v e
  exact⟨v,e,h⟩
 ·exact h.elim
@[irreducible] def zbl7 (i j:Int) (H:Hp) (Q:VK):Prop:=IntMulOk i j/\Q (.int (i*j)) H
@[irreducible] def zbk8 (i j:Int) (H:Hp) (Q:VK):Prop:=(j≠0/\j.natAbs.log2<9000)/\Q (.int (i.fdiv j)) H
@[irreducible] def zbq4 (i j:Int) (H:Hp) (Q:VK):Prop:=j≠0/\Q (.int (i.fmod j)) H
@[irreducible] def rPowI (i j:Int) (H:Hp) (Q:VK):Prop:=CPow i j/\Q (.int (i ^ j.toNat)) H
@[irreducible] def rCatL (a b:Addr) (H:Hp) (Q:VK):Prop:=∃ xs zs,H a=some (.lst xs)/\H b=some (.lst zs)/\xs.length+zs.length<=sizeLine /\
 ∀ p H',H p=none->Same H H'->H' p=some (.lst (xs++zs))->Q (.ref p) H'
@[irreducible] def rRepL (a:Addr) (k:Int) (H:Hp) (Q:VK):Prop:=∃ xs,H a=some (.lst xs)/\-(2 ^ 63)<=k/\k<2 ^ 63/\xs.length*k.toNat<=sizeLine /\
 ∀ p H',H p=none->Same H H'->H' p=some (.lst (List.replicate k.toNat xs).flatten)->Q (.ref p) H'
def rAddM:R2:=fun x y H Q=>match x,y with
 | .int i,.int j=>Q (.int (i+j)) H
 | .ref a,.ref b=>rCatL a b H Q
 | .str a,.str b=>a.length+b.length<=sizeLine/\Q (.str (a++b)) H
 | _,_=>False
def rSubM:R2:=fun x y H Q=>match x,y with
 | .int i,.int j=>Q (.int (i - j)) H
 | _,_=>False
def rMulM:R2:=fun x y H Q=>match x,y with
 | .int i,.int j=>zbl7 i j H Q
 | .ref a,.int k=>rRepL a k H Q
 | _,_=>False
def rDivM:R2:=fun x y H Q=>match x,y with
 | .int i,.int j=>zbk8 i j H Q
 | _,_=>False
def rModM:R2:=fun x y H Q=>match x,y with
 | .int i,.int j=>zbq4 i j H Q
 | _,_=>False
def rPowM:R2:=fun x y H Q=>match x,y with
 | .int i,.int j=>rPowI i j H Q
 | _,_=>False
theorem oAdd:OpR X (binaryOp .Add) rAddM:=by
 intro pins s σ H x y v u Q I rx ry h
 unfold rAddM at h
 split at h
 ·exact op_add pins s σ H _ _ v u Q I rx ry ⟨_,_,rfl,rfl,h⟩
 ·unfold rCatL at h
  obtain⟨xs,zs,h1,h2,h3,h4⟩:=h
  exact op_cat pins s σ H _ _ v u Q I rx ry ⟨_,_,xs,zs,rfl,rfl,h1,h2,h3,fun p hp=>h4 p _ hp (Same.upd hp) zc7⟩
 ·exact zbl4 pins s σ H _ _ v u Q I rx ry ⟨_,_,rfl,rfl,h.1,h.2⟩
 ·exact h.elim
theorem oSub:OpR X (binaryOp .Sub) rSubM:=by
 intro pins s σ H x y v u Q I rx ry h
 unfold rSubM at h
 split at h
 ·exact op_sub pins s σ H _ _ v u Q I rx ry ⟨_,_,rfl,rfl,h⟩
 ·exact h.elim
theorem oMul:OpR X (binaryOp .Mult) rMulM:=by
 intro pins s σ H x y v u Q I rx ry h
 unfold rMulM at h
 split at h
 ·unfold zbl7 at h
  obtain⟨t,rfl⟩:=rx
  obtain⟨t',rfl⟩:=ry
  exact mul_int ⟨.int _,H,I.tok _,⟨_,rfl⟩,h.2⟩ h.1
 ·unfold rRepL at h
  obtain⟨xs,h1,h2,h3,h4,h5⟩:=h
  exact op_rep pins s σ H _ _ v u Q I rx ry ⟨_,_,xs,rfl,rfl,h1,h2,h3,h4,fun p hp=>h5 p _ hp (Same.upd hp) zc7⟩
 ·exact h.elim
theorem oDiv:OpR X (binaryOp .FloorDiv) rDivM:=by
 intro pins s σ H x y v u Q I rx ry h
 unfold rDivM at h
 split at h
 ·unfold zbk8 at h
  obtain⟨⟨h1,h2⟩,h3⟩:=h
  obtain⟨t,rfl⟩:=rx
  obtain⟨t',rfl⟩:=ry
  exact floordiv_int h1 ⟨.int _,H,I.tok _,⟨_,rfl⟩,h3⟩ (.inl (PyProof.noPylong_of_log2 h2))
 ·exact h.elim
theorem oMod:OpR X (binaryOp .Mod) rModM:=by
 intro pins s σ H x y v u Q I rx ry h
 unfold rModM at h
 split at h
 ·unfold zbq4 at h
  exact zch9 pins s σ H _ _ v u Q I rx ry ⟨_,_,rfl,rfl,h.1,h.2⟩
 ·exact h.elim
theorem oPow:OpR X (binaryOp .Pow) rPowM:=by
 intro pins s σ H x y v u Q I rx ry h
 unfold rPowM at h
 split at h
 ·unfold rPowI at h
  exact op_pow pins s σ H _ _ v u Q I rx ry ⟨_,_,rfl,rfl,h.1,h.2⟩
 ·exact h.elim
def rNegM:V->Hp->VK->Prop:=fun x H Q=>match x with
 | .int i=>Q (.int (-i)) H
 | _=>False
theorem uNeg:UnR X (unaryOp .USub) rNegM:=by
 intro pins s σ H x v Q I rx h
 unfold rNegM at h
 split at h
 ·exact un_neg pins s σ H _ v Q I rx ⟨_,rfl,h⟩
 ·exact h.elim
section
variable {i j:Int}{H:Hp}{Q:VK}
theorem zag3 (h:IntMulOk i j) (q:Q (.int (i*j)) H):zbl7 i j H Q:=by unfold zbl7;exact⟨h,q⟩
theorem log2_lt {n k:Nat}(h:n<2 ^ k) (hk:0<k):n.log2<k:=by
 by_cases h0:n=0
 ·subst h0;simpa using hk
 ·exact (Nat.log2_lt h0).mpr h
theorem zbb5 {j:Int}(h1:-(10 ^ 240)<j) (h2:j<10 ^ 240):j.natAbs<2 ^ 2000:=by
 have e:(10:Int) ^ 240=((10 ^ 240:Nat):Int):=by norm_cast
 have e2:(10:Nat) ^ 240<2 ^ 2000:=by decide +kernel
 rw[e] at h1 h2
 generalize hN:(10:Nat) ^ 240=N at h1 h2 e2
 generalize hM:(2:Nat) ^ 2000=M at e2
 omega
theorem zy9 (h1:-(10 ^ 240)<i) (h2:i<10 ^ 240) (h3:-(10 ^ 240)<j) (h4:j<10 ^ 240):IntMulOk i j:=by
 have f:∀ {k:Int},-(10 ^ 240)<k->k<10 ^ 240->Builtin.Int.intBits k<=2 ^ 20:=fun {k} a b=>by
  have h:=log2_lt (zbb5 a b) (by decide)
  unfold Builtin.Int.intBits
  have e:(2:Nat) ^ 20=1048576:=by decide
  rw[e]
  split<;>omega
 exact .of_bits (f h1 h2) (f h3 h4)
theorem div_rd (h1:0<j) (h2:j<10 ^ 240) (q:Q (.int (i / j)) H):zbk8 i j H Q:=by
 unfold zbk8
 refine⟨⟨by omega,?_⟩,?_⟩
 ·have h:=log2_lt (zbb5 (j:=j) (by have:(0:Int)<10 ^ 240:=(by decide +kernel);generalize (10:Int) ^ 240=N at this;omega) h2) (by decide)
  omega
 ·rw[Int.fdiv_eq_ediv_of_nonneg _ (by omega)];exact q
theorem zy5 (h0:j≠0) (h1:-(10 ^ 240)<j) (h2:j<10 ^ 240) (q:Q (.int (i.fdiv j)) H):zbk8 i j H Q:=by
 unfold zbk8
 refine⟨⟨h0,?_⟩,q⟩
 have h:=log2_lt (zbb5 h1 h2) (by decide)
 omega
theorem zbv4 (h1:0<j) (q:Q (.int (i % j)) H):zbq4 i j H Q:=by
 unfold zbq4
 refine⟨by omega,?_⟩
 rw[Int.fmod_eq_emod_of_nonneg _ (by omega)];exact q
theorem pow_rd (h:CPow i j) (q:Q (.int (i ^ j.toNat)) H):rPowI i j H Q:=by unfold rPowI;exact⟨h,q⟩
theorem zp9 {a b:Addr}{xs zs:List V}(h1:H a=some (.lst xs)) (h2:H b=some (.lst zs)) (h3:xs.length+zs.length<=sizeLine)
  (q:∀ p H',H p=none->Same H H'->H' p=some (.lst (xs++zs))->Q (.ref p) H'):rCatL a b H Q:=by unfold rCatL;exact⟨xs,zs,h1,h2,h3,q⟩
theorem zbu2 {a:Addr}{k:Int}{xs:List V}(h1:H a=some (.lst xs)) (h2:-(2 ^ 63)<=k) (h3:k<2 ^ 63) (h4:xs.length*k.toNat<=sizeLine)
  (q:∀ p H',H p=none->Same H H'->H' p=some (.lst (List.replicate k.toNat xs).flatten)->Q (.ref p) H'):rRepL a k H Q:=by unfold rRepL;exact⟨xs,h1,h2,h3,h4,q⟩
end
def rLtM:R2:=fun x y H Q=>match x,y with
 | .int i,.int j=>Q (.bl (decide (i<j))) H
 | _,_=>False
def rLeM:R2:=fun x y H Q=>match x,y with
 | .int i,.int j=>Q (.bl (decide (i<=j))) H
 | _,_=>False
def rGtM:R2:=fun x y H Q=>match x,y with
 | .int i,.int j=>Q (.bl (decide (j<i))) H
 | _,_=>False
def rGeM:R2:=fun x y H Q=>match x,y with
 | .int i,.int j=>Q (.bl (decide (j<=i))) H
 | _,_=>False
theorem oLt:OpR X (compareOp .Lt) rLtM:=by
 intro pins s σ H x y v u Q I rx ry h
 unfold rLtM at h
 split at h
 ·exact op_lt pins s σ H _ _ v u Q I rx ry ⟨_,_,rfl,rfl,h⟩
 ·exact h.elim
theorem oLe:OpR X (compareOp .LtE) rLeM:=by
 intro pins s σ H x y v u Q I rx ry h
 unfold rLeM at h
 split at h
 ·exact op_le pins s σ H _ _ v u Q I rx ry ⟨_,_,rfl,rfl,h⟩
 ·exact h.elim
theorem oGt:OpR X (compareOp .Gt) rGtM:=by
 intro pins s σ H x y v u Q I rx ry h
 unfold rGtM at h
 split at h
 ·exact op_gt pins s σ H _ _ v u Q I rx ry ⟨_,_,rfl,rfl,h⟩
 ·exact h.elim
theorem oGe:OpR X (compareOp .GtE) rGeM:=by
 intro pins s σ H x y v u Q I rx ry h
 unfold rGeM at h
 split at h
 ·exact op_ge pins s σ H _ _ v u Q I rx ry ⟨_,_,rfl,rfl,h⟩
 ·exact h.elim
inductive EqR (K:zcu8) (H:Hp):Nat->V->V->Bool->Prop where
 | flat {n:Nat}{x y:V}(fx:zu8 x=true) (fy:zu8 y=true):EqR K H n x y (eqV x y)
 | tup {n:Nat}{a b:Addr}{xs ys:List V}(e:Nat->Bool) (ha:SqT K H a xs) (hb:SqT K H b ys) (h:∀ (j:Nat) (x y:V),xs[j]?=some x->ys[j]?=some y->EqR K H n x y (e j)) :
   EqR K H (n+1) (.ref a) (.ref b) ((List.range (min xs.length ys.length)).all e&&xs.length==ys.length)
 | lst {n:Nat}{a b:Addr}{xs ys:List V}(e:Nat->Bool) (ha:SqL K H a xs) (hb:SqL K H b ys) (hl:xs.length=ys.length) (h:∀ (j:Nat) (x y:V),xs[j]?=some x->ys[j]?=some y->EqR K H n x y (e j)) :
   EqR K H (n+1) (.ref a) (.ref b) ((List.range xs.length).all e)
 | lstN {n:Nat}{a b:Addr}{xs ys:List V}(ha:SqL K H a xs) (hb:SqL K H b ys) (hl:xs.length≠ys.length):EqR K H (n+1) (.ref a) (.ref b) false
theorem zac9 {x:V}(f:zu8 x=true):eqV x x=true:=by
 cases x<;>first|rfl|(simp[eqV];done)|exact absurd (show false=true from f) zcw2
section
variable {pins:List (Addr×Obj)}{σ:St}{H:Hp}{s:Shared}
theorem EqR.self (I:Inv X pins σ H s) {n:Nat}{x y:V}{b:Bool}(h:EqR X.K H n x y b):x=y->b=true:=by
 induction h with
 | flat fx fy=>rintro rfl;exact zac9 fx
 | tup e ha hb h ih=>
  intro q
  cases q
  have q:=I.tuple_inj ha hb
  subst q
  rw[Nat.min_self,zcw5]
  refine⟨zcx1.mpr fun j hj=>?_,by simp⟩
  have hj:=zda2.mp hj
  exact ih j _ _ (zcu7 hj) (zcu7 hj) rfl
 | lst e ha hb hl h ih=>
  intro q
  cases q
  have q:=I.list_inj ha hb
  subst q
  refine zcx1.mpr fun j hj=>?_
  have hj:=zda2.mp hj
  exact ih j _ _ (zcu7 hj) (zcu7 hj) rfl
 | lstN ha hb hl=>
  intro q
  cases q
  exact absurd (congrArg List.length (I.list_inj ha hb)) hl
theorem zad8 (A:Around):A.in1.units=A.units+1:=rfl
mutual
theorem EqR.at (I:Inv X pins σ H s):∀ {n:Nat}{x y:V}{b:Bool},EqR X.K H n x y b->∀ {u v:Value}{A:Around},RelV x u->RelV y v->A.units+n<cLine->SeqAt.EqAt A s u v b
 | _,_,_,_,.flat fx fy,u,v,A,rx,ry,_=>zbs1 rx ry fx fy
 | _,.ref a,.ref b,_,h,u,v,A,rx,ry,hu=>by
  cases rx
  cases ry
  by_cases e:a=b
  ·subst e
   rw[h.self I rfl]
   exact SeqAt.EqAt.same _
  ·exact SeqAt.EqAt.of_refs e (EqR.rc I h hu)
theorem EqR.rc (I:Inv X pins σ H s):∀ {n:Nat}{a b:Addr}{c:Bool},EqR X.K H n (.ref a) (.ref b) c->∀ {A:Around},A.units+n<cLine->SeqAt.RcAt A s (.ref a) (.ref b) c
 | _,_,_,_,.flat fx _,_,_=>absurd (show false=true from fx) zcw2
 | _,a,b,_,.tup (xs:=xs) (ys:=ys) e ha hb h,A,hu=>by
  obtain⟨its,r1,t1,z1⟩:=I.tuple ha
  obtain⟨its2,r2,t2,z2⟩:=I.tuple hb
  have l1:its.toArray.size=xs.length:=by rw[zcv8];exact r1.length.symm
  have l2:its2.toArray.size=ys.length:=by rw[zcv8];exact r2.length.symm
  have q:=SeqAt.RcAt.tuples (A:=A) (e:=e) t1 t2 (by omega) fun j h1 h2=>by
   rw[l1] at h1
   rw[l2] at h2
   obtain⟨u1,e1,q1⟩:=r1.get (zcu7 h1)
   obtain⟨u2,e2,q2⟩:=r2.get (zcu7 h2)
   have i1:its.toArray[j]=u1:=by
    have:=(zcv3.mp e1).2
    simpa using this
   have i2:its2.toArray[j]=u2:=by
    have:=(zcv3.mp e2).2
    simpa using this
   rw[i1,i2]
   exact EqR.at I (h j _ _ (zcu7 h1) (zcu7 h2)) q1 q2 (by rw[zad8];omega)
  rw[l1,l2] at q
  exact q
 | _,a,b,_,.lst (xs:=xs) (ys:=ys) e ha hb hl h,A,hu=>by
  obtain⟨its,r1,t1,z1⟩:=I.list ha
  obtain⟨its2,r2,t2,z2⟩:=I.list hb
  have l1:its.toArray.size=xs.length:=by rw[zcv8];exact r1.length.symm
  have l2:its2.toArray.size=ys.length:=by rw[zcv8];exact r2.length.symm
  have q:=SeqAt.RcAt.lists (A:=A) (e:=e) t1.isList t2.isList (by rw[l1,l2];exact hl) (by omega) fun j h1 h2=>by
   rw[l1] at h1
   rw[l2] at h2
   obtain⟨u1,e1,q1⟩:=r1.get (zcu7 h1)
   obtain⟨u2,e2,q2⟩:=r2.get (zcu7 h2)
   have i1:its.toArray[j]=u1:=by
    have:=(zcv3.mp e1).2
    simpa using this
   have i2:its2.toArray[j]=u2:=by
    have:=(zcv3.mp e2).2
    simpa using this
   rw[i1,i2]
   exact EqR.at I (h j _ _ (zcu7 h1) (zcu7 h2)) q1 q2 (by rw[zad8];omega)
  rw[l1] at q
  exact q
 | _,a,b,_,.lstN (xs:=xs) (ys:=ys) ha hb hl,A,hu=>by
  obtain⟨its,r1,t1,z1⟩:=I.list ha
  obtain⟨its2,r2,t2,z2⟩:=I.list hb
  have l1:its.toArray.size=xs.length:=by rw[zcv8];exact r1.length.symm
  have l2:its2.toArray.size=ys.length:=by rw[zcv8];exact r2.length.symm
  exact SeqAt.RcAt.lists_lengths t1.isList t2.isList (by rw[l1,l2];simpa using hl) (by omega)
end
theorem EqR.rcNe (I:Inv X pins σ H s):∀ {n:Nat}{a b:Addr}{c:Bool},EqR X.K H n (.ref a) (.ref b) c->∀ {A:Around},A.units+n<cLine->SeqAt.RcNeAt A s (.ref a) (.ref b) (!c)
 | _,_,_,_,.flat fx _,_,_=>absurd (show false=true from fx) zcw2
 | _,a,b,_,.tup (xs:=xs) (ys:=ys) e ha hb h,A,hu=>by
  obtain⟨its,r1,t1,z1⟩:=I.tuple ha
  obtain⟨its2,r2,t2,z2⟩:=I.tuple hb
  have l1:its.toArray.size=xs.length:=by rw[zcv8];exact r1.length.symm
  have l2:its2.toArray.size=ys.length:=by rw[zcv8];exact r2.length.symm
  have q:=SeqAt.RcNeAt.tuples (A:=A) (e:=e) t1 t2 (by omega) fun j h1 h2=>by
   rw[l1] at h1
   rw[l2] at h2
   obtain⟨u1,e1,q1⟩:=r1.get (zcu7 h1)
   obtain⟨u2,e2,q2⟩:=r2.get (zcu7 h2)
   have i1:its.toArray[j]=u1:=by
    have:=(zcv3.mp e1).2
    simpa using this
   have i2:its2.toArray[j]=u2:=by
    have:=(zcv3.mp e2).2
    simpa using this
   rw[i1,i2]
   exact EqR.at I (h j _ _ (zcu7 h1) (zcu7 h2)) q1 q2 (by rw[zad8];omega)
  rw[l1,l2] at q
  exact q
 | _,a,b,_,.lst (xs:=xs) (ys:=ys) e ha hb hl h,A,hu=>by
  obtain⟨its,r1,t1,z1⟩:=I.list ha
  obtain⟨its2,r2,t2,z2⟩:=I.list hb
  have l1:its.toArray.size=xs.length:=by rw[zcv8];exact r1.length.symm
  have l2:its2.toArray.size=ys.length:=by rw[zcv8];exact r2.length.symm
  have q:=SeqAt.RcNeAt.lists (A:=A) (e:=e) t1.isList t2.isList (by rw[l1,l2];exact hl) (by omega) fun j h1 h2=>by
   rw[l1] at h1
   rw[l2] at h2
   obtain⟨u1,e1,q1⟩:=r1.get (zcu7 h1)
   obtain⟨u2,e2,q2⟩:=r2.get (zcu7 h2)
   have i1:its.toArray[j]=u1:=by
    have:=(zcv3.mp e1).2
    simpa using this
   have i2:its2.toArray[j]=u2:=by
    have:=(zcv3.mp e2).2
    simpa using this
   rw[i1,i2]
   exact EqR.at I (h j _ _ (zcu7 h1) (zcu7 h2)) q1 q2 (by rw[zad8];omega)
  rw[l1] at q
  exact q
 | _,a,b,_,.lstN (xs:=xs) (ys:=ys) ha hb hl,A,hu=>by
  obtain⟨its,r1,t1,z1⟩:=I.list ha
  obtain⟨its2,r2,t2,z2⟩:=I.list hb
  have l1:its.toArray.size=xs.length:=by rw[zcv8];exact r1.length.symm
  have l2:its2.toArray.size=ys.length:=by rw[zcv8];exact r2.length.symm
  exact SeqAt.RcNeAt.lists_lengths t1.isList t2.isList (by rw[l1,l2];simpa using hl) (by omega)
end
@[irreducible] def rEqO (K:zcu8) (a b:Addr) (H:Hp) (Q:VK):Prop:=∃ n c,n<=40/\EqR K H n (.ref a) (.ref b) c/\Q (.bl c) H
def rEqM (K:zcu8):R2:=fun x y H Q=>match x,y with
 | .int i,.int j=>Q (.bl (decide (i=j))) H
 | .bl i,.bl j=>Q (.bl (decide (i=j))) H
 | .str i,.str j=>Q (.bl (decide (i=j))) H
 | .ref a,.ref b=>rEqO K a b H Q
 | x,y=>scal x y=true/\Q (.bl (decide (x=y))) H
def rNeM (K:zcu8):R2:=fun x y H Q=>rEqM K x y H fun v H'=>match v with
 | .bl b=>Q (.bl (!b)) H'
 | _=>False
theorem zs7 {α β:Type}[DecidableEq α] [DecidableEq β] {f:α->β}(hf:∀ a b,f a=f b->a=b) (a b:α):decide (f a=f b)=decide (a=b):=by
 by_cases h:a=b
 ·subst h;simp
 ·rw[decide_eq_false h,decide_eq_false fun e=>h (hf _ _ e)]
theorem oEq (hu:X.A.units+40<cLine):OpR X (compareOp .Eq) (rEqM X.K):=by
 intro pins s σ H x y v u Q I rx ry h
 unfold rEqM at h
 split at h
 ·rename_i i j
  exact zbe2 pins s σ H _ _ v u Q I rx ry ⟨rfl,by rw[zs7 (f:=V.int) fun a b e=>V.int.inj e];exact h⟩
 ·exact zbe2 pins s σ H _ _ v u Q I rx ry ⟨rfl,by rw[zs7 (f:=V.bl) fun a b e=>V.bl.inj e];exact h⟩
 ·exact zbe2 pins s σ H _ _ v u Q I rx ry ⟨rfl,by rw[zs7 (f:=V.str) fun a b e=>V.str.inj e];exact h⟩
 ·unfold rEqO at h
  obtain⟨n,c,hn,h1,h2⟩:=h
  cases rx
  cases ry
  exact EqR.rc I h1 (A:=X.A) (by omega) _ _ _ _ ⟨.bl c,H,I,rfl,h2⟩
 ·exact zbe2 pins s σ H _ _ v u Q I rx ry h
theorem oNe (hu:X.A.units+40<cLine):OpR X (compareOp .NotEq) (rNeM X.K):=by
 intro pins s σ H x y v u Q I rx ry h
 unfold rNeM rEqM at h
 split at h
 ·rename_i i j
  exact zba3 pins s σ H _ _ v u Q I rx ry ⟨rfl,by rw[zs7 (f:=V.int) fun a b e=>V.int.inj e];exact h⟩
 ·exact zba3 pins s σ H _ _ v u Q I rx ry ⟨rfl,by rw[zs7 (f:=V.bl) fun a b e=>V.bl.inj e];exact h⟩
 ·exact zba3 pins s σ H _ _ v u Q I rx ry ⟨rfl,by rw[zs7 (f:=V.str) fun a b e=>V.str.inj e];exact h⟩
 ·unfold rEqO at h
  obtain⟨n,c,hn,h1,h2⟩:=h
  cases rx
  cases ry
  exact EqR.rcNe I h1 (A:=X.A) (by omega) _ _ _ _ ⟨.bl (!c),H,I,rfl,h2⟩
 ·exact zba3 pins s σ H _ _ v u Q I rx ry ⟨h.1,h.2⟩
section
variable {K:zcu8}{H:Hp}{Q:VK}{a b:Addr}{c:Bool}{n:Nat}
theorem zav9 (h:EqR K H n (.ref a) (.ref b) c) (q:Q (.bl c) H) (hn:n<=40:=by decide):rEqO K a b H Q:=by unfold rEqO;exact⟨n,c,hn,h,q⟩
end
def qB (t:TE):TT:=fun σ H Q=>t σ H fun x H1=>match x with
 | .bl c=>Q c H1
 | .int i=>Q (!decide (i=0)) H1
 | _=>False
theorem ptV {e:Expr}{t:TE}(h:PE X e t) (he:∀ whole,isTrue e X.env whole=(do let v ← whole;standAt e.pos;holding [v] (truthy v)):=by intro _;rfl):PT X e (qB t):=fun pins s σ H Q I hw=>by
 refine isTrue_plain (thn (h pins s σ H _ I hw) fun v s1 ⟨x,H1,I1,r1,q1⟩=>?_) (he _)
 dsimp only at q1
 split at q1
 ·exact zbp9 pins s1 σ H1 _ v Q I1 r1 ⟨_,rfl,q1⟩
 ·rename_i i
  refine zbp9 pins s1 σ H1 _ v Q I1 r1 ⟨_,rfl,?_⟩
  have e:(i != 0)=!decide (i=0):=by by_cases h:i=0<;>simp[h]
  rw[e];exact q1
 ·exact q1.elim
theorem ptC {a b:Expr}{ta tb:TE}{pos:Pos}{op:CmpOp}{r:R2}(ho:OpR X (compareOp op) r) (ha:PE X a ta) (hb:PE X b tb) (hm:behindInMarks op b=false:=by first|exact zce1 _|with_unfolding_all rfl):PT X (.Compare a [op] [b] pos) (qB (tOp r ta tb)):=by
 intro pins s σ H Q I h
 refine wpAny_isTrue_Compare1 (thn (ha pins s σ H _ I h) fun v s1 ⟨x,H1,I1,r1,q1⟩=>thn (hb pins s1 σ H1 _ I1 q1) fun u s2 ⟨y,H2,I2,r2,q2⟩=>
  thn (ho pins s2 σ H2 x y v u _ I2 r1 r2 q2) fun c s3 ⟨z,H3,I3,r3,q3⟩=>?_) hm
 dsimp only at q3
 split at q3
 ·cases r3
  exact wpAny_truthy_bool ⟨H3,I3,q3⟩
 ·rename_i i
  refine zbp9 pins s3 σ H3 _ c Q I3 r3 ⟨_,rfl,?_⟩
  have e:(i != 0)=!decide (i=0):=by by_cases h:i=0<;>simp[h]
  rw[e];exact q3
 ·exact q3.elim
theorem peC {a b:Expr}{ta tb:TE}{pos:Pos}{op:CmpOp}{r:R2}(ho:OpR X (compareOp op) r) (ha:PE X a ta) (hb:PE X b tb) (hm:behindInMarks op b=false:=by first|exact zce1 _|with_unfolding_all rfl):PE X (.Compare a [op] [b] pos) (tOp r ta tb):=
 zci8 ho ha hb hm
variable {a b:Expr}{rest:List Expr}{tA tB':TT}{ta tb:TE}{pos:Pos}
def qAnd (t u:TT):TT:=fun σ H Q=>t σ H fun c H1=>br c (u σ H1 Q) (Q false H1)
def qOr (t u:TT):TT:=fun σ H Q=>t σ H fun c H1=>br c (Q true H1) (u σ H1 Q)
theorem pwAnd (ha:PT X a tA) (hb:PW X (.BoolOp .And (b :: rest) pos) tB'):PW X (.BoolOp .And (a :: b :: rest) pos) (qAnd tA tB'):=fun wh pins s σ H Q I h=>
 pw_and ha hb wh pins s σ H Q I (by unfold qAnd at h;simp only[zal4] at h;exact h)
theorem pwOr (ha:PT X a tA) (hb:PW X (.BoolOp .Or (b :: rest) pos) tB'):PW X (.BoolOp .Or (a :: b :: rest) pos) (qOr tA tB'):=fun wh pins s σ H Q I h=>
 pw_or ha hb wh pins s σ H Q I (by unfold qOr at h;simp only[zal4] at h;exact h)
def qAndV (ta tb:TE):TE:=fun σ H Q=>ta σ H fun x H1=>match x with
 | .bl c=>br c (tb σ H1 Q) (Q (.bl false) H1)
 | _=>False
def qNotV (ta:TE):TE:=fun σ H Q=>ta σ H fun x H1=>match x with
 | .bl c=>Q (.bl (!c)) H1
 | _=>False
theorem zs8 (ha:PE X a ta) (hb:PE X (.BoolOp .And (b :: rest) pos) tb):PE X (.BoolOp .And (a :: b :: rest) pos) (qAndV ta tb):=by
 intro pins s σ H Q I h
 refine BoolOp_and (thn (ha pins s σ H _ I h) fun v s1 ⟨x,H1,I1,r1,q1⟩=>?_)
 dsimp only at q1
 split at q1
 ·rename_i c
  cases r1
  refine wpAny_truthy_bool ?_
  rw[zal4] at q1
  cases c with
  | true=>exact hb pins s1 σ H1 Q I1 (by simpa using q1)
  | false=>exact⟨.bl false,H1,I1,rfl,by simpa using q1⟩
 ·exact q1.elim
theorem peNot (ha:PE X a ta):PE X (.UnaryOp .Not a pos) (qNotV ta):=by
 intro pins s σ H Q I h
 refine UnaryOp_ (thn (ha pins s σ H _ I h) fun v s1 ⟨x,H1,I1,r1,q1⟩=>?_)
 dsimp only at q1
 split at q1
 ·rename_i c
  cases r1
  exact not_of (wpAny_truthy_bool ⟨.bl (!c),H1,I1,rfl,q1⟩)
 ·exact q1.elim
def qIf (t:TT) (ta tb:TE):TE:=fun σ H Q=>t σ H fun c H1=>br c (ta σ H1 Q) (tb σ H1 Q)
theorem peIf {c:Expr}(hc:PT X c tA) (ha:PE X a ta) (hb:PE X b tb):PE X (.IfExp c a b pos) (qIf tA ta tb):=fun pins s σ H Q I h=>
 zcc1 hc ha hb pins s σ H Q I (by unfold qIf at h;simp only[zal4] at h;exact h)
def qChain (r r':R2) (ta tb tc:TE):TE:=fun σ H Q=>ta σ H fun x H1=>tb σ H1 fun y H2=>r x y H2 fun z H3=>match z with
 | .bl k=>br k (tc σ H3 fun w' H4=>r' y w' H4 Q) (Q (.bl false) H3)
 | _=>False
theorem zck8 {c:Expr}{tc:TE}{op op':CmpOp}{r r':R2}(ho:OpR X (compareOp op) r) (ho':OpR X (compareOp op') r') (ha:PE X a ta) (hb:PE X b tb) (hc:PE X c tc)
  (hm:lastMarks [op,op'] [b,c]=false:=by with_unfolding_all rfl):PE X (.Compare a [op,op'] [b,c] pos) (qChain r r' ta tb tc):=by
 intro pins s σ H Q I h
 refine Compare_chain (thn (ha pins s σ H _ I h) fun v s1 ⟨x,H1,I1,r1,q1⟩=>chain_link (thn (hb pins s1 σ H1 _ I1 q1) fun u s2 ⟨y,H2,I2,r2,q2⟩=>
  thn (ho pins s2 σ H2 x y v u _ I2 r1 r2 q2) fun d s3 ⟨z,H3,I3,r3,q3⟩=>?_)) hm
 dsimp only at q3
 split at q3
 ·rename_i k
  cases r3
  refine wpAny_truthy_bool ?_
  rw[zal4] at q3
  cases k with
  | false=>exact ite_ff ⟨.bl false,H3,I3,rfl,by simpa using q3⟩
  | true=>exact ite_tt (chain_last (thn (hc pins s3 σ H3 _ I3 (by simpa using q3)) fun w' s4 ⟨z',H4,I4,r4,q4⟩=>ho' pins s4 σ H4 y z' u w' Q I4 r2 r4 q4))
 ·exact q3.elim
variable {st:Stmt}{t u:TS}{e:Expr}{te:TE}
def qIfS (c:TT) (t u:TS):TS:=fun D σ H=>c σ H fun b H1=>br b (t D σ H1) (u D σ H1)
theorem psIf {c:Expr}{a b:List Stmt}{tc:TT}(hc:PT X c tc) (ha:PSs X a t) (hb:PSs X b u):PS X (.If c a b pos) (qIfS tc t u):=fun pins s σ H D I h=>
 ps_if hc ha hb pins s σ H D I (by unfold qIfS at h;simp only[zal4] at h;exact h)
@[irreducible] def zaw9 (J:It) (g:TG) (tb:TS) (D:Ends) (σ:St) (H1:Hp):Prop:=∃ W:Nat->Nat->St->Hp->Prop,(∃ m,W 0 m σ H1)/\∀ i m σ H,W i m σ H ->
 (J.stop i H/\D.nx σ H)∨(J.go i H/\∃ N:St->Hp->Prop,(∀ σ' H',N σ' H'->∃ m',m'<m/\W (i+1) m' σ' H')/\∀ x H',J.yld i H x H'->g x σ H' fun σ2 H2=>tb { D with nx:=N,ct:=N,bk:=D.nx } σ2 H2)
def qFor (wi:TI) (g:TG) (tb:TS):TS:=fun D σ H=>wi σ H fun J H1=>zaw9 J g tb D σ H1
theorem zac3 {iter tg:Expr}{body:List Stmt}{wi:TI}{g:TG}{tb:TS}{pos:Pos}(hp:PassesOwn (model X.prog X.w) X.A X.env X.xe) (hc:X.calm=true) (hi:PI X tg iter wi) (hg:PG X tg g) (hb:PSs X body tb)
  (hs:∀ x,foldedSetIterable iter X.env x=pure x:=by intro _;rfl):PS X (.For tg iter body [] pos) (qFor wi g tb):=fun pins s σ H D I h=>
 ps_for hp hc hi hg hb hs pins s σ H D I (by unfold qFor at h;unfold zaw9 at h;exact h)
@[irreducible] def rIter (K:zcu8) (a:Addr) (H:Hp) (R:It->Hp->Prop):Prop:=((∃ xs,SqL K H a xs)/\R (Itl K a) H)∨((∃ xs,SqT K H a xs)/\R (Itt K a) H)
def qiSeq (K:zcu8) (tl:TE):TI:=fun σ H R=>tl σ H fun x H1=>match x with
 | .ref a=>rIter K a H1 R
 | _=>False
theorem piSeq {tg l:Expr}{tl:TE}(hl:PE X l tl):PI X tg l (qiSeq X.K tl):=by
 intro pins s σ H R I h
 refine thn (hl pins s σ H _ I h) fun v s1 ⟨x,H1,I1,r1,q1⟩=>?_
 dsimp only at q1
 split at q1
 ·rename_i a
  unfold rIter at q1
  cases r1
  have fp:∀ b∈[s1.heap.objs.size],FpOk X pins H1 b:=fun b hb=>by
   have e:b=s1.heap.objs.size:=by simpa using hb
   subst e
   exact I1.fpOk (zcw9 _) (I1.hok.fresh (zcw9 _))
  rcases q1 with ⟨⟨xs,hq⟩,q⟩|⟨⟨xs,hq⟩,q⟩
  ·obtain⟨its,rv,p,hz⟩:=I1.list hq
   refine wpAny_pyIter_list p.isList ?_
   exact⟨s1.heap.objs.size,[s1.heap.objs.size],_,_,H1,rfl,I1.kept (t':=s1.toks) fun b o e=>zcv0 _ e,zbw1 a _,⟨_,zcx2 _ rfl,rfl,rfl⟩,fp,q⟩
  ·obtain⟨its,rv,p,hz⟩:=I1.tuple hq
   refine wpAny_pyIter_tuple (show s1.heap.IsTuple a its.toArray from p) ?_
   exact⟨s1.heap.objs.size,[s1.heap.objs.size],_,_,H1,rfl,I1.kept (t':=s1.toks) fun b o e=>zcv0 _ e,zbl0 a _,⟨_,zcx2 _ rfl,rfl,rfl⟩,fp,q⟩
 ·exact q1.elim
@[irreducible] def zaq1 (i j:Int) (H:Hp) (R:It->Hp->Prop):Prop:=(-(2 ^ 62)<=i/\i<2 ^ 62/\-(2 ^ 62)<=j/\j<2 ^ 62)/\R (Itr i (j - i).toNat) H
def qiRng (ta:TA):TI:=fun σ H R=>ta σ H fun vs H1=>match vs with
 | [.int j]=>zaq1 0 j H1 R
 | [.int i,.int j]=>zaq1 i j H1 R
 | _=>False
theorem zac1 {tg a:Expr}{ta:TA}{p pos:Pos}(hm:X.mg "range"=none) (ha:PA X [a] ta) (hg:Gl X "range":=by rfl) (hs:starEach [a] X.env=[(false,eval a X.env)]:=by rfl):PI X tg (.Call (.Name "range" p) [a] [] pos) (qiRng ta):=by
 intro pins s σ H R I h
 refine Call_ (zam1 I hg hm boot_range (PyProof.Rows.callWith_type1 (thn (ha pos pins s σ H _ I h) fun us s1 ⟨vs,H1,I1,r1,q1⟩=>?_) hs rfl))
 dsimp only at q1
 split at q1
 ·unfold zaq1 at q1
  obtain⟨⟨a1,a2,a3,a4⟩,q⟩:=q1
  cases r1 with
  | cons r rr=>
   cases rr
   obtain⟨t,rfl⟩:=r
   exact call_range_1 (zbf8 I1 a1 a2 a3 a4 q)
 ·unfold zaq1 at q1
  cases r1 with
  | cons r rr=>
   cases rr with
   | cons r' rr=>
    cases rr
    obtain⟨t,rfl⟩:=r
    obtain⟨t',rfl⟩:=r'
    obtain⟨⟨a1,a2,a3,a4⟩,q⟩:=q1
    exact call_range_2 (zbf8 I1 a1 a2 a3 a4 q)
 ·exact q1.elim
section
variable {K:zcu8}{g:TG}{tb:TS}{D:Ends}{σ:St}{H:Hp}{R:It->Hp->Prop}
theorem zd0 {a:Addr}{xs:List V}(h:H a=some (.lst xs)) (q:R (Itl K a) H):rIter K a H R:=by unfold rIter;exact .inl ⟨⟨xs,SqL.of h⟩,q⟩
theorem zt5 {i j:Int}(h1:-(2 ^ 62)<=i) (h2:i<2 ^ 62) (h3:-(2 ^ 62)<=j) (h4:j<2 ^ 62) (q:R (Itr i (j - i).toNat) H):zaq1 i j H R:=by unfold zaq1;exact⟨⟨h1,h2,h3,h4⟩,q⟩
theorem zp7 {a:Addr}{xs:List V}(Pv:Nat->St->Hp->Prop) (h0:Pv 0 σ H) (hl:∀ i σ H,i<=xs.length->Pv i σ H->SqL K H a xs)
  (hs:∀ i x σ H,xs[i]?=some x->Pv i σ H->g x σ H fun σ2 H2=>tb { D with nx:=Pv (i+1),ct:=Pv (i+1),bk:=D.nx } σ2 H2) (hd:∀ σ H,Pv xs.length σ H->D.nx σ H):zaw9 (Itl K a) g tb D σ H:=by
 unfold zaw9;exact zby2 Pv h0 hl hs hd
theorem zw1 {lo:Int}{n:Nat}(Pv:Nat->St->Hp->Prop) (h0:Pv 0 σ H)
  (hs:∀ i σ H,i<n->Pv i σ H->g (.int (lo+i)) σ H fun σ2 H2=>tb { D with nx:=Pv (i+1),ct:=Pv (i+1),bk:=D.nx } σ2 H2) (hd:∀ σ H,Pv n σ H->D.nx σ H):zaw9 (Itr lo n) g tb D σ H:=by
 unfold zaw9;exact zbs4 Pv h0 hs hd
end
@[irreducible] def wIf (W:Nat->St->Hp->Prop) (m:Nat) (tb:TS) (D:Ends) (σ:St) (b:Bool) (H1:Hp):Prop:=
 if b=true then ∃ N:St->Hp->Prop,(∀ σ' H',N σ' H'->∃ m',m'<m/\W m' σ' H')/\tb { D with nx:=N,ct:=N,bk:=D.nx } σ H1 else D.nx σ H1
@[irreducible] def zbf2 (c:TT) (tb:TS):TS:=fun D σ H=>∃ W:Nat->St->Hp->Prop,(∃ m,W m σ H)/\∀ m σ H,W m σ H->c σ H fun b H1=>wIf W m tb D σ b H1
theorem zbn1 {c:Expr}{body:List Stmt}{tc:TT}{tb:TS}(hp:PassesOwn (model X.prog X.w) X.A X.env X.xe) (hc:PT X c tc) (hb:PSs X body tb):PS X (.While c body [] pos) (zbf2 tc tb):=fun pins s σ H D I h=>
 zby8 hp hc hb pins s σ H D I (by unfold zbf2 at h;unfold wIf at h;exact h)
section
variable {c:TT}{tb:TS}{D:Ends}{σ:St}{H H1:Hp}{W:Nat->St->Hp->Prop}{m:Nat}{p:Prop}
theorem zbg6 (Pv:St->Hp->Prop) (μ:St->Hp->Nat) (h0:Pv σ H) (hs:∀ σ H,Pv σ H->c σ H fun b H1=>wIf (fun m σ H=>m=μ σ H/\Pv σ H) (μ σ H) tb D σ b H1):zbf2 c tb D σ H:=by
 unfold zbf2
 refine⟨fun m σ H=>m=μ σ H/\Pv σ H,⟨_,rfl,h0⟩,?_⟩
 rintro m σ H ⟨rfl,p⟩
 exact hs σ H p
theorem zck2 {Pv:St->Hp->Prop}{μ:St->Hp->Nat}[Decidable p] (h1:p->tb { D with nx:=fun σ' H'=>Pv σ' H'/\μ σ' H'<m,ct:=fun σ' H'=>Pv σ' H'/\μ σ' H'<m,bk:=D.nx } σ H1) (h2:¬ p->D.nx σ H1) :
  wIf (fun m σ H=>m=μ σ H/\Pv σ H) m tb D σ (decide p) H1:=by
 unfold wIf
 refine ite2 (fun h=>⟨_,fun σ' H' ⟨a,b⟩=>⟨_,b,rfl,a⟩,h1 (of_decide_eq_true h)⟩) fun h=>h2 fun hp=>h (decide_eq_true hp)
theorem zbz2 {Pv:St->Hp->Prop}{μ:St->Hp->Nat}[Decidable p] (h1:¬ p->tb { D with nx:=fun σ' H'=>Pv σ' H'/\μ σ' H'<m,ct:=fun σ' H'=>Pv σ' H'/\μ σ' H'<m,bk:=D.nx } σ H1) (h2:p->D.nx σ H1) :
  wIf (fun m σ H=>m=μ σ H/\Pv σ H) m tb D σ (!decide p) H1:=by
 unfold wIf
 refine ite2 (fun h=>⟨_,fun σ' H' ⟨a,b⟩=>⟨_,b,rfl,a⟩,h1 fun hp=>?_⟩) fun h=>h2 ?_
 ·rw[decide_eq_true hp] at h;cases h
 ·by_cases hp:p
  ·exact hp
  ·rw[decide_eq_false hp] at h;exact absurd rfl h
end
@[irreducible] def rNewT (xs:List V) (H:Hp) (Q:VK):Prop:=xs.length<=sizeLine/\∀ p H',H p=none->Same H H'->H' p=some (.tup xs)->Q (.ref p) H'
@[irreducible] def rNewL (xs:List V) (H:Hp) (Q:VK):Prop:=xs.length<=sizeLine/\∀ p H',H p=none->Same H H'->H' p=some (.lst xs)->Q (.ref p) H'
def qTup (t:TA):TE:=fun σ H Q=>t σ H fun xs H1=>rNewT xs H1 Q
def qLst (t:TA):TE:=fun σ H Q=>t σ H fun xs H1=>rNewL xs H1 Q
theorem zh2 {es:List Expr}{x1} {t:TA}(h:PA X es t):PE X (.Tuple es x1 pos) (qTup t):=by
 intro pins s σ H Q I hq
 refine wpAny_Tuple_spliced (thn (h pos pins s σ H _ I hq) fun us s1 ⟨xs,H1,I1,r,z⟩=>?_)
 unfold rNewT at z
 obtain⟨z,q⟩:=z
 refine⟨by rw[← r.length];exact z,?_⟩
 have hf:H1 s1.heap.objs.size=none:=I1.hok.fresh (zcw9 _)
 refine⟨.ref s1.heap.objs.size,upd H1 s1.heap.objs.size (.tup xs),I1.laid (t':=s1.toks) (fun b u e=>zcv0 _ e) (zcw9 _) ?_,rfl,q _ _ hf (Same.upd hf) zc7⟩
 exact⟨z,us,r,⟨_,zcx2 _ rfl,rfl,_,rfl⟩⟩
theorem zi6 {es:List Expr}{t:TA}(h:PA X es t):PE X (.List es pos) (qLst t):=by
 intro pins s σ H Q I hq
 refine wpAny_List_spliced (thn (h pos pins s σ H _ I hq) fun us s1 ⟨xs,H1,I1,r,z⟩=>?_)
 unfold rNewL at z
 obtain⟨z,q⟩:=z
 refine⟨by rw[← r.length];exact z,?_⟩
 have hf:H1 s1.heap.objs.size=none:=I1.hok.fresh (zcw9 _)
 refine⟨.ref s1.heap.objs.size,upd H1 s1.heap.objs.size (.lst xs),I1.laid (t':=s1.toks) (fun b u e=>zcv0 _ e) (zcw9 _) ?_,rfl,q _ _ hf (Same.upd hf) zc7⟩
 exact⟨z,us,0,r,zcx2 _ rfl⟩
@[irreducible] def rIxA (K:zcu8) (p:Addr) (i:Int) (H:Hp) (Q:VK):Prop:=∃ xs v,(SqL K H p xs∨SqT K H p xs)/\atI xs i=some v/\Q v H
def rIxM (K:zcu8):R2:=fun x y H Q=>match x,y with
 | .ref p,.int i=>rIxA K p i H Q
 | .str z,.int i=>∃ c,z.length<=sizeLine/\atI z.cps.toList i=some c/\Q (.str ⟨#[c]⟩) H
 | _,_=>False
theorem ixM:IxR X (rIxM X.K):=by
 intro value slice pins s σ H x y v u Q I rx ry h hs
 unfold rIxM at h
 split at h
 ·unfold rIxA at h
  obtain⟨xs,z,h1,h2,q⟩:=h
  rcases h1 with h1|h1
  ·exact zck0 value slice pins s σ H _ _ v u Q I rx ry ⟨_,xs,_,z,rfl,rfl,h1,h2,q⟩ hs
  ·exact ix_tup value slice pins s σ H _ _ v u Q I rx ry ⟨_,xs,_,z,rfl,rfl,h1,h2,q⟩ hs
 ·obtain⟨c,h1,h2,q⟩:=h
  exact ix_str value slice pins s σ H _ _ v u Q I rx ry ⟨_,_,c,rfl,rfl,h1,h2,q⟩ hs
 ·exact h.elim
theorem peIx (ha:PE X a ta) (hb:PE X b tb) (hs:zbc8 b:=by exact fun _ _=>rfl):PE X (.Subscript a b pos) (tOp (rIxM X.K) ta tb):=pe_ix ixM ha hb hs
@[irreducible] def rSetA (p:Addr) (k:Int) (v:V) (H:Hp) (Q:Hp->Prop):Prop:=∃ xs j,H p=some (.lst xs)/\ixN xs.length k=some j/\∀ H',Chg p H H'->H' p=some (.lst (xs.set j v))->Q H'
def rSetM:TSet:=fun o i v H Q=>match o,i with
 | .ref p,.int k=>rSetA p k v H Q
 | _,_=>False
theorem setM:PSet X rSetM:=by
 intro pins s σ H o i v ov iv u Q I ro ri rv h
 unfold rSetM at h
 split at h
 ·unfold rSetA at h
  obtain⟨xs,j,h1,h2,q⟩:=h
  exact zcb6 pins s σ H _ _ v ov iv u Q I ro ri rv ⟨_,xs,_,j,rfl,rfl,h1,h2,q _ Chg.upd zc7⟩
 ·exact h.elim
@[irreducible] def rSlA (K:zcu8) (a:Addr) (lo hi:Option Int) (H:Hp) (Q:VK):Prop:=∃ xs,SqL K H a xs/\∀ p H',H p=none->Same H H'->H' p=some (.lst (cutV xs lo hi))->Q (.ref p) H'
def rSlM (K:zcu8):V->Option Int->Option Int->Hp->VK->Prop:=fun x lo hi H Q=>match x with
 | .ref a=>rSlA K a lo hi H Q
 | _=>False
theorem slM:SlR X (rSlM X.K):=by
 intro pins s σ H x v vl vu lo hi sl Q I rx hs pl pu h
 unfold rSlM at h
 split at h
 ·unfold rSlA at h
  obtain⟨xs,h1,q⟩:=h
  exact zbq3 pins s σ H _ v vl vu lo hi sl Q I rx hs pl pu ⟨_,xs,rfl,h1,fun p hp=>q p _ hp (Same.upd hp) zc7⟩
 ·exact h.elim
def qPart (t:TE):TO:=fun σ H Q=>t σ H fun x H1=>match x with
 | .int i=>Q (some i) H1
 | _=>False
theorem zt0 (h:PE X e te):PO X (some e) (qPart te):=by
 intro pins s σ H Q I hw
 rw[evalPart_some]
 refine thn (h pins s σ H _ I hw) fun u s1 ⟨x,H1,I1,r1,q1⟩=>?_
 dsimp only at q1
 split at q1
 ·rename_i i
  obtain⟨t,rfl⟩:=r1
  exact⟨some i,H1,I1,.int i t,q1⟩
 ·exact q1.elim
section
variable {K:zcu8}{H:Hp}{Q:VK}{p:Addr}{xs:List V}{v:V}{i:Int}
theorem zb7 (q:∀ p H',H p=none->Same H H'->H' p=some (.tup xs)->Q (.ref p) H') (h:xs.length<=sizeLine:=by first|assumption|(simp only[zcx0,zcz4,Nat.zero_add,Nat.reduceAdd];decide)):rNewT xs H Q:=by unfold rNewT;exact⟨h,q⟩
theorem zc5 (q:∀ p H',H p=none->Same H H'->H' p=some (.lst xs)->Q (.ref p) H') (h:xs.length<=sizeLine:=by first|assumption|(simp only[zcx0,zcz4,Nat.zero_add,Nat.reduceAdd];decide)):rNewL xs H Q:=by unfold rNewL;exact⟨h,q⟩
theorem zb6 (h:H p=some (.tup xs)) (e:atI xs i=some v) (q:Q v H):rIxA K p i H Q:=by unfold rIxA;exact⟨xs,v,.inr (SqT.of h),e,q⟩
theorem zg6 (h:H p=some (.lst xs)) (e:atI xs i=some v) (q:Q v H):rIxA K p i H Q:=by unfold rIxA;exact⟨xs,v,.inl (SqL.of h),e,q⟩
theorem zbo0 {R:Hp->Prop}{j:Nat}(h:H p=some (.lst xs)) (e:ixN xs.length i=some j) (q:∀ H',Chg p H H'->H' p=some (.lst (xs.set j v))->R H'):rSetA p i v H R:=by unfold rSetA;exact⟨xs,j,h,e,q⟩
theorem zam7 {lo hi:Option Int}(h:SqL K H p xs) (q:∀ p H',H p=none->Same H H'->H' p=some (.lst (cutV xs lo hi))->Q (.ref p) H'):rSlA K p lo hi H Q:=by unfold rSlA;exact⟨xs,h,q⟩
end
def qgNil:TGs:=fun vs σ H Q=>match vs with
 | []=>Q σ H
 | _=>False
def zce0 (t:TG) (u:TGs):TGs:=fun vs σ H Q=>match vs with
 | v :: r=>t v σ H fun σ' H'=>u r σ' H' Q
 | _=>False
theorem zk1:PGs X [] qgNil:=fun pins s σ H vs us Q I r h=>by
 unfold qgNil at h
 split at h
 ·exact zcg3 pins s σ H _ us Q I r ⟨rfl,h⟩
 ·exact h.elim
theorem zb1 {e:Expr}{es:List Expr}{t:TG}{u:TGs}(h1:PG X e t) (h2:PGs X es u)
  (hs:(assignEach (e :: es) X.env).map (·.2)=assign e X.env :: (assignEach es X.env).map (·.2):=by rfl):PGs X (e :: es) (zce0 t u):=fun pins s σ H vs us Q I r h=>by
 unfold zce0 at h
 split at h
 ·exact zcb5 h1 h2 hs pins s σ H _ us Q I r ⟨_,_,rfl,h⟩
 ·exact h.elim
def qPar (i j:Nat) (ta:TA):TS:=fun D σ H=>ta σ H fun vs H1=>match vs with
 | [v,w]=>D.nx ((σ.set i (some v)).set j (some w)) H1
 | _=>False
theorem psPar {i j:Nat}{x y:Str}{a b:Expr}{ta:TA}{px py pt:Pos}{kt k2 pt2} (hc:X.calm=true) (hN:X.N.Nodup) (hi:X.N[i]?=some x) (hj:X.N[j]?=some y) (hij:i≠j)
  (hx:X.env.scope.names.lookup x=some .local) (hy:X.env.scope.names.lookup y=some .local) (ha:PA X [a,b] ta)
  (hw:swappedStores [.Tuple [.Name x px,.Name y py] kt pt] (.Tuple [a,b] k2 pt2) X.env=pure (some [x,y]))
  (hs:swapsWithSole [.Tuple [.Name x px,.Name y py] kt pt] (.Tuple [a,b] k2 pt2) pos.line X.env=pure false:=by rfl) :
  PS X (.Assign [.Tuple [.Name x px,.Name y py] kt pt] (.Tuple [a,b] k2 pt2) pos) (qPar i j ta) :=by
 intro pins s σ H D I h
 rw[exec_Assign_arm]
 refine wpAny_bind (wpAny_standAt ?_)
 rw[hs]
 refine wpAny_bind (wpAny_pure ?_)
 rw[if_neg (by decide)]
 refine wpAny_bind (Tuple_ (thn (ha _ pins s σ H _ I h) fun us s1 ⟨vs,H1,I1,r1,q1⟩=>?_))
 dsimp only at q1
 split at q1
 case h_2=>exact q1.elim
 rename_i v w
 obtain⟨u1,u2,rfl,rv,rw'⟩:∃ u1 u2,us=[u1,u2]/\RelV v u1/\RelV w u2:=by
  cases r1 with
  | cons p q=>
   cases q with
   | cons p' q'=>
    cases q'
    exact⟨_,_,rfl,p,p'⟩
 refine wpAny_newObj_type ?_ (by show 2<=sizeLine;decide)
 have I2:Inv X pins σ H1 { s1 with heap:=s1.heap.push { cls:=.type "tuple",data:=.seq [u1,u2].toArray } }:=I1.kept (t':=s1.toks) fun b o e=>zcv0 _ e
 rw[hw]
 refine wpAny_bind (wpAny_pure ?_)
 show wpAny (model X.prog X.w) X.A (do rule "assign.swapped-stores";let items ← unpackItems (.ref s1.heap.objs.size) 2 none;assignInOrder [fun v=>bindName X.env y v,fun v=>bindName X.env x v] items.reverse;pure Flow.next) _ _ _
 refine wpAny_bind (wpAny_rule (wpAny_bind (unpackItems_tuple (items:=#[u1,u2]) (I.ok.hd hc) (IsTup.new s1.heap _) fun h' hx'=>?_)))
 have I3:=I2.kept (h':=h') (t':=s1.toks) fun b o e=>hx' b o (zcy6 (zcw6 e)) e
 show wpAny _ _ (assignInOrder [fun v=>bindName X.env y v,fun v=>bindName X.env x v] [u2,u1] >>= fun _=>pure Flow.next) _ _ _
 refine wpAny_bind (assignInOrder_cons (wpAny_bindName (zz2 I3 hN hj (.inl hy) rw' (fun s2 I4=>?_) (.inr hy))))
 refine assignInOrder_cons (wpAny_bindName (zz2 I4 hN hi (.inl hx) rv (fun s3 I5=>assignInOrder_nil (wpAny_pure ?_)) (.inr hx)))
 rw[List.set_comm _ _ (Ne.symm hij)] at I5
 exact⟨_,H1,I5,q1⟩
end
end L2
set_option maxHeartbeats 1000000
namespace L2
open PySem PySem.Spec PyProof.Rows
section
variable {X:Cx}
def rAbsM:List V->Hp->VK->Prop:=fun xs H Q=>match xs with
 | [.int i]=>Q (.int (i.natAbs:Int)) H
 | _=>False
theorem cAbs:zt2 X (.builtin "abs") rAbsM:=fun pins s σ H xs us Q I r h=>by
 unfold rAbsM at h
 split at h
 ·rename_i i
  refine zby9 pins s σ H _ us Q I r ⟨i,rfl,?_⟩
  have e:(if i<0 then -i else i)=(i.natAbs:Int):=by split<;>omega
  rw[e];exact h
 ·exact h.elim
def rIntM:List V->Hp->VK->Prop:=fun xs H Q=>match xs with
 | [.int i]=>Q (.int i) H
 | [.bl k]=>Q (.int (if k=true then 1 else 0)) H
 | _=>False
theorem cInt:zt2 X (.type "int") rIntM:=fun pins s σ H xs us Q I r h=>by
 unfold rIntM at h
 split at h
 ·exact zav7 pins s σ H _ us Q I r (.inl ⟨_,rfl,h⟩)
 ·exact zav7 pins s σ H _ us Q I r (.inr ⟨_,rfl,h⟩)
 ·exact h.elim
@[irreducible] def zbj7 (K:zcu8) (p:Addr) (H:Hp) (Q:VK):Prop:=∃ ys,(SqL K H p ys∨SqT K H p ys)/\Q (.int ys.length) H
def rLenM (K:zcu8):List V->Hp->VK->Prop:=fun xs H Q=>match xs with
 | [.ref p]=>zbj7 K p H Q
 | [.str z]=>z.length<=sizeLine/\Q (.int z.length) H
 | _=>False
theorem cLen:zt2 X (.builtin "len") (rLenM X.K):=fun pins s σ H xs us Q I r h=>by
 unfold rLenM at h
 split at h
 ·unfold zbj7 at h
  obtain⟨ys,h1,h2⟩:=h
  exact zay3 pins s σ H _ us Q I r ⟨_,ys,rfl,h1,h2⟩
 ·exact zay1 pins s σ H _ us Q I r ⟨_,rfl,h.1,h.2⟩
 ·exact h.elim
@[irreducible] def zaa0 (K:zcu8) (x c:V) (H:Hp) (Q:VK):Prop:=∃ t b,TyOf K H x t/\(∀ cv,RelV c cv->zcv5 K t cv=some b)/\Q (.bl b) H
def rIsiM (K:zcu8):List V->Hp->VK->Prop:=fun xs H Q=>match xs with
 | [x,c]=>zaa0 K x c H Q
 | _=>False
theorem cIsi:zt2 X (.builtin "isinstance") (rIsiM X.K):=fun pins s σ H xs us Q I r h=>by
 unfold rIsiM at h
 split at h
 ·unfold zaa0 at h
  obtain⟨t,b,h1,h2,h3⟩:=h
  obtain⟨u,w,rfl,r1,r2⟩:=zbu6 r
  exact zbq9 I r1 h1 (h2 _ r2) fun tk=>⟨.bl b,H,I.tok _,rfl,h3⟩
 ·exact h.elim
section
variable {K:zcu8}{H:Hp}{Q:VK}{p:Addr}{xs:List V}
theorem zh4 (h:H p=some (.lst xs)) (q:Q (.int xs.length) H):zbj7 K p H Q:=by unfold zbj7;exact⟨xs,.inl (SqL.of h),q⟩
theorem zu4 (h:H p=some (.tup xs)) (q:Q (.int xs.length) H):zbj7 K p H Q:=by unfold zbj7;exact⟨xs,.inr (SqT.of h),q⟩
theorem zbc2 {i:Int}{n:String}{b:Bool}(q:Q (.bl b) H) (e:zcv5 K (.type "int") (.type n)=some b:=by rfl):zaa0 K (.int i) (.ty n) H Q:=by
 unfold zaa0;exact⟨_,b,.int i,fun cv r=>by cases r;exact e,q⟩
theorem zba6 {i:Bool}{n:String}{b:Bool}(q:Q (.bl b) H) (e:zcv5 K (.type "bool") (.type n)=some b:=by rfl):zaa0 K (.bl i) (.ty n) H Q:=by
 unfold zaa0;exact⟨_,b,.bl i,fun cv r=>by cases r;exact e,q⟩
theorem zcl1 {n:String}{b:Bool}(q:Q (.bl b) H) (e:zcv5 K (.type "NoneType") (.type n)=some b:=by rfl):zaa0 K .non (.ty n) H Q:=by
 unfold zaa0;exact⟨_,b,.non,fun cv r=>by cases r;exact e,q⟩
theorem zcg2 {x:Str}{n:String}{b:Bool}(q:Q (.bl b) H) (e:zcv5 K (.type "str") (.type n)=some b:=by rfl):zaa0 K (.str x) (.ty n) H Q:=by
 unfold zaa0;exact⟨_,b,.str x,fun cv r=>by cases r;exact e,q⟩
theorem zas8 {n:String}{b:Bool}(h:H p=some (.tup xs)) (q:Q (.bl b) H) (e:zcv5 K (.type "tuple") (.type n)=some b:=by rfl):zaa0 K (.ref p) (.ty n) H Q:=by
 unfold zaa0;exact⟨_,b,.tup h,fun cv r=>by cases r;exact e,q⟩
theorem zas0 {n:String}{b:Bool}(h:H p=some (.lst xs)) (q:Q (.bl b) H) (e:zcv5 K (.type "list") (.type n)=some b:=by rfl):zaa0 K (.ref p) (.ty n) H Q:=by
 unfold zaa0;exact⟨_,b,.lst h,fun cv r=>by cases r;exact e,q⟩
end
theorem zbh7:bootBuiltins "abs"=some (.builtin "abs"):=by decide +kernel
theorem zj3:bootBuiltins "len"=some (.builtin "len"):=by decide +kernel
theorem zab0:bootBuiltins "sum"=some (.builtin "sum"):=by decide +kernel
theorem zy8:bootBuiltins "all"=some (.builtin "all"):=by decide +kernel
theorem za8:bootBuiltins "isinstance"=some (.builtin "isinstance"):=by decide +kernel
theorem zbn7:bootBuiltins "sorted"=some (.builtin "sorted"):=by decide +kernel
theorem zam9:bootBuiltins "int"=some (.type "int"):=by decide +kernel
theorem zbr8:bootBuiltins "bool"=some (.type "bool"):=by decide +kernel
theorem zn7:bootBuiltins "list"=some (.type "list"):=by decide +kernel
theorem zai0:bootBuiltins "tuple"=some (.type "tuple"):=by decide +kernel
theorem pTy {x:Str}{n:String}{pos:Pos}(hm:X.mg x=none) (hv:bootBuiltins x=some (.type n)) (hg:Gl X x:=by rfl) (hn:x≠"__name__":=by decide) (hd:(x==("__debug__":Str))=false:=by decide):PE X (.Name x pos) (tC (.ty n)):=
 zcj6 hg hm hv rfl hn hd
theorem pB {x:Str}{p pos:Pos}{e:Expr}{es:List Expr}{t:TA}{id:String}{r:List V->Hp->VK->Prop}(hc:zt2 X (.builtin id) r) (hm:X.mg x=none) (hv:bootBuiltins x=some (.builtin id)) (ha:PA X (e :: es) t) (hg:Gl X x:=by rfl) (hn:x≠"__name__":=by decide) (hdb:(x==("__debug__":Str))=false:=by decide)
  (he:starEach (e :: es) X.env=(false,eval e X.env) :: starEach es X.env:=by rfl) (hpl:(backTo pos (starEach es X.env)).any (·.1)=false:=by rfl):PE X (.Call (.Name x p) (e :: es) [] pos) (tCB r t):=zbz0 hc hg hm hv ha hn hdb he hpl
theorem pT {x:Str}{p pos:Pos}{e:Expr}{es:List Expr}{t:TA}{id:String}{r:List V->Hp->VK->Prop}(hc:zt2 X (.type id) r) (hm:X.mg x=none) (hv:bootBuiltins x=some (.type id)) (ha:PA X (e :: es) t) (hg:Gl X x:=by rfl) (hn:x≠"__name__":=by decide) (hdb:(x==("__debug__":Str))=false:=by decide)
  (he:starEach (e :: es) X.env=(false,eval e X.env) :: starEach es X.env:=by rfl) (hpl:(backTo pos (starEach es X.env)).any (·.1)=false:=by rfl):PE X (.Call (.Name x p) (e :: es) [] pos) (tCB r t):=zbm7 hc hg hm hv ha hn hdb he hpl
structure Def (P:Program) (w:World) (K:zcu8) (mg:Str->Option Value) (base:Heap) (CX:CXT) (k:Nat) (x:Str) (ps:List Str) (sp:Sp):Prop where
 ex:∃ (f:Addr) (fd:FuncData),FnOk P w K mg base CX k f fd ps sp/\mg x=some (.ref f)/\zcw0 K (.ref f)=true/\zau3 K fd ps []
def qCall (sp:Sp) (E:XK) (t:TA):TE:=fun σ H Q=>t σ H fun vs H1=>sp vs H1 Q E
theorem pD {CX:CXT}{k j:Nat}{x:Str}{ps:List Str}{sp:Sp}{E:XK}{p pos:Pos}{e:Expr}{es:List Expr}{t:TA}(F:Def X.prog X.w X.K X.mg X.base CX k x ps sp) (hr:Room j X.A) (hx:zaq0 CX X E) (ha:PA X (e :: es) t) (hk:k<=j:=by decide) (hg:Gl X x:=by rfl)
  (hdb:(x==("__debug__":Str))=false:=by decide) (he:starEach (e :: es) X.env=(false,eval e X.env) :: starEach es X.env:=by rfl) (hpl:(backTo pos (starEach es X.env)).any (·.1)=false:=by rfl) :
  PE X (.Call (.Name x p) (e :: es) [] pos) (qCall sp E t):=by
 obtain⟨f,fd,F1,F2,F3,F4⟩:=F.ex
 intro pins s σ H Q I h
 refine zch0 F1 (hr.mono hk) hg F2 F3 F4 .nil hx ha hdb he hpl pins s σ H Q I ?_
 unfold tCall
 simp only[List.append_nil]
 exact h
theorem psS {i:Nat}{x:Str}{e:Expr}{te:TE}{pos' pos:Pos}(hN:X.N.Nodup) (he:PE X e te) (hi:X.N[i]?=some x:=by rfl) (hx:Loc X.env.scope x:=by first|exact Or.inl rfl|exact Or.inr rfl) (hs:swapsWith e (some (.Name x pos')) pos.line X.env=pure false:=by rfl) (hf:X.fn x=true∨X.env.scope.names.lookup x=some .local:=by first|exact .inl rfl|exact .inr rfl|assumption) :
  PS X (.Assign [.Name x pos'] e pos) (tAsg te (zbi8 i)):=zbu5 hN hi hx he hs hf
section
variable {K:zcu8}{H:Hp}{Q:VK}{p:Addr}{xs:List V}{i j:Int}
theorem zbs2 (h1:-18446744073709551616<i) (h2:i<18446744073709551616) (q:Q (.int (i*j)) H):zbl7 i j H Q:=zag3 (.of_left (intBits_le_64 (by simpa using h1) (by simpa using h2))) q
theorem zck5 (h1:-18446744073709551616<j) (h2:j<18446744073709551616) (q:Q (.int (i*j)) H):zbl7 i j H Q:=zag3 (.of_right (intBits_le_64 (by simpa using h1) (by simpa using h2))) q
theorem zcj5 (h:0<j) (q:∀ r:Int,0<=r->r<j->Q (.int r) H):zbq4 i j H Q:=zbv4 h (q _ (Int.emod_nonneg _ (by omega)) (Int.emod_lt_of_pos _ h))
theorem zo1 (h:H p=some (.lst xs)) (h0:0<=i) (h1:i<xs.length) (q:∀ v,v∈xs->Q v H):rIxA K p i H Q:=by
 have hl:i.toNat<xs.length:=by omega
 refine zg6 h (v:=xs[i.toNat]) ?_ (q _ (zdc2 hl))
 have e:((i.toNat:Nat):Int)=i:=by omega
 have z:=zl6 (zcu7 hl)
 rw[e] at z
 exact z
theorem hu40 {A:Around}{k:Nat}(hr:Room k A):A.units+40<cLine:=by have:=hr.units;omega
end
@[irreducible] def qCut (t:TS):TS:=fun D σ H=>∃ R:St->Hp->Prop,t { D with nx:=R } σ H/\∀ σ' H',R σ' H'->D.nx σ' H'
theorem zbk0 {st:Stmt}{t:TS}(h:PS X st t):PS X st (qCut t):=fun pins s σ H D I hq=>by
 unfold qCut at hq
 obtain⟨R,h1,h2⟩:=hq
 refine thn (h pins s σ H _ I h1) fun f s' q=>?_
 cases f with
 | next=>obtain⟨σ',H',I',z⟩:=q;exact⟨σ',H',I',h2 _ _ z⟩
 | brk=>exact q
 | cont=>exact q
 | ret u=>exact q
theorem zbg5 {t:TS}{D:Ends}{σ:St}{H:Hp}(R:St->Hp->Prop) (h1:t { D with nx:=R } σ H) (h2:∀ σ' H',R σ' H'->D.nx σ' H'):qCut t D σ H:=by unfold qCut;exact⟨R,h1,h2⟩
theorem zce8 {t:TS}{D:Ends}{σ:St}{H:Hp}(h1:t D σ H):qCut t D σ H:=by unfold qCut;exact⟨D.nx,h1,fun _ _ h=>h⟩
theorem EqR.ints2 {K:zcu8}{H:Hp}{a b:Addr}{t u x y:Int}(ha:H a=some (.tup [.int t,.int u])) (hb:H b=some (.tup [.int x,.int y])):EqR K H 1 (.ref a) (.ref b) (decide (t=x/\u=y)):=by
 have h:=EqR.tup (K:=K) (H:=H) (n:=0) (fun j=>match j with|0=>decide (t=x)|1=>decide (u=y)|_=>true) (SqT.of ha) (SqT.of hb) (fun j p q hp hq=>by
  have fl:∀ (i k:Int),EqR K H 0 (.int i) (.int k) (decide (i=k)):=fun i k=>by
   have:=EqR.flat (K:=K) (H:=H) (n:=0) (x:=.int i) (y:=.int k) rfl rfl
   have e:eqV (.int i) (.int k)=decide (i=k):=by
    by_cases z:i=k
    ·subst z;simp[eqV]
    ·simp[eqV,z]
   rw[e] at this;exact this
  match j with
  | 0=>simp at hp hq;subst hp hq;exact fl t x
  | 1=>simp at hp hq;subst hp hq;exact fl u y
  | j+2=>simp at hp)
 have e:((List.range (min [V.int t,V.int u].length [V.int x,V.int y].length)).all (fun j=>match j with|0=>decide (t=x)|1=>decide (u=y)|_=>true)&&([V.int t,V.int u].length==[V.int x,V.int y].length))=decide (t=x/\u=y):=by
  show ((decide (t=x)&&(decide (u=y)&&true))&&true)=_
  rw[Bool.and_true,Bool.and_true,Bool.decide_and]
 rw[e] at h
 exact h
end
end L2
set_option maxHeartbeats 2000000
namespace L2
open PySem PySem.Spec PyProof.Rows
theorem zae2 {env:Env}:∀ (names:List (Str×NameKind)) (acc:List (Str×Addr)),(∀ x∈names,x.2=.free->∃ c,env.cells.lookup x.1=some c) ->
  ∃ acc',(forIn (m:=Sem) names acc (fun (x:Str×NameKind) (r:List (Str×Addr))=>if (x.2==.free)=true then (do let c ← cellOf env x.1;pure (ForInStep.yield ((x.1,c) :: r))) else pure (ForInStep.yield r)))=pure acc' /\
   (∀ x c,acc'.lookup x=some c->acc.lookup x=some c∨env.cells.lookup x=some c)/\(∀ x c,acc.lookup x=some c->∃ c',acc'.lookup x=some c')/\∀ x∈names,x.2=.free->∃ c,acc'.lookup x.1=some c
 | [],acc,_=>⟨acc,rfl,fun _ _ h=>.inl h,fun _ c h=>⟨c,h⟩,fun _ h=>by cases h⟩
 | (n,k) :: r,acc,h=>by
  by_cases hk:k=.free
  ·subst hk
   obtain⟨c,hc⟩:=h (n,.free) zda8 rfl
   obtain⟨acc',e,h1,h2,h3⟩:=zae2 r ((n,c) :: acc) fun x hx=>h x (zcz5 _ hx)
   have hco:cellOf env n=pure c:=by unfold cellOf;rw[hc]
   refine⟨acc',?_,fun x d hd=>?_,fun x d hd=>?_,fun x hx hf=>?_⟩
   ·rw[List.forIn_cons]
    simp only[hco]
    exact e
   ·rcases h1 x d hd with q|q
    ·rw[zcz6] at q
     split at q
     ·rename_i hx
      have hx:x=n:=by simpa using hx
      subst hx
      cases q
      exact .inr hc
     ·exact .inl q
    ·exact .inr q
   ·by_cases hx:x=n
    ·subst hx
     exact h2 x c (by simp[zcz6])
    ·refine h2 x d ?_
     rw[zcz6]
     have:(x==n)=false:=by simpa using hx
     rw[this];exact hd
   ·rcases zcw3.mp hx with rfl|hx
    ·exact h2 n c (by simp[zcz6])
    ·exact h3 x hx hf
  ·obtain⟨acc',e,h1,h2,h3⟩:=zae2 r acc fun x hx=>h x (zcz5 _ hx)
   refine⟨acc',?_,h1,h2,fun x hx hf=>?_⟩
   ·rw[List.forIn_cons]
    have:(k==NameKind.free)=false:=by simpa using hk
    simp only[this]
    exact e
   ·rcases zcw3.mp hx with rfl|hx
    ·exact absurd hf hk
    ·exact h3 x hx hf
theorem zap9 {scope:Scope}{env:Env}(h:∀ x∈scope.names,x.2=.free->∃ c,env.cells.lookup x.1=some c) :
  ∃ cl,closureFor scope env=pure cl/\(∀ x c,cl.lookup x=some c->env.cells.lookup x=some c)/\∀ x∈scope.names,x.2=.free->∃ c,cl.lookup x.1=some c:=by
 obtain⟨cl,e,h1,_,h3⟩:=zae2 (env:=env) scope.names [] h
 refine⟨cl,?_,fun x c hc=>(h1 x c hc).elim (fun q=>by cases q) id,h3⟩
 unfold closureFor
 show (forIn (m:=Sem) scope.names ([]:List (Str×Addr)) _ >>= fun r=>pure r)=_
 rw[e]
 rfl
theorem zag6 {env:Env}:∀ {names:List (Str×NameKind)}{x:Str},names.lookup x=some .free ->
  (names.map fun (n,k)=>if (k==NameKind.free&&env.scope.kind==.function&&env.kindOf n==some .cell) then (n,NameKind.cell) else (n,k)).lookup x=some .cell ∨
  (names.map fun (n,k)=>if (k==NameKind.free&&env.scope.kind==.function&&env.kindOf n==some .cell) then (n,NameKind.cell) else (n,k)).lookup x=some .free
 | [],_,h=>by simp at h
 | (n,k) :: r,x,h=>by
  have ih:=@zag6 env r x
  show List.lookup x ((if (k==NameKind.free&&env.scope.kind==.function&&env.kindOf n==some .cell)=true then (n,NameKind.cell) else (n,k)) :: _)=_∨List.lookup x ((if (k==NameKind.free&&env.scope.kind==.function&&env.kindOf n==some .cell)=true then (n,NameKind.cell) else (n,k)) :: _)=_
  cases hx:x==n with
  | true=>
   simp only[zcz6,hx] at h
   cases h
   by_cases hc:(NameKind.free==NameKind.free&&env.scope.kind==.function&&env.kindOf n==some .cell)=true
   ·left;rw[if_pos hc];simp only[zcz6,hx]
   ·right;rw[if_neg hc];simp only[zcz6,hx]
  | false=>
   simp only[zcz6,hx] at h
   by_cases hc:(k==NameKind.free&&env.scope.kind==.function&&env.kindOf n==some .cell)=true
   ·rw[if_pos hc];simp only[zcz6,hx];exact ih h
   ·rw[if_neg hc];simp only[zcz6,hx];exact ih h
theorem zx3 {env:Env}:∀ {names:List (Str×NameKind)}{x:Str}{k':NameKind},(∀ y∈names,y.2≠.cell)->(k'=.cell∨k'=.free) ->
  (names.map fun (n,k)=>if (k==NameKind.free&&env.scope.kind==.function&&env.kindOf n==some .cell) then (n,NameKind.cell) else (n,k)).lookup x=some k'->∃ y∈names,y.1=x/\y.2=.free
 | [],_,_,_,_,h=>by simp at h
 | (n,k) :: r,x,k',hn,hk,h=>by
  have ih:=@zx3 env r x k' (fun y hy=>hn y (zcz5 _ hy)) hk
  replace h:List.lookup x ((if (k==NameKind.free&&env.scope.kind==.function&&env.kindOf n==some .cell)=true then (n,NameKind.cell) else (n,k)) :: List.map (fun (n,k)=>if (k==NameKind.free&&env.scope.kind==.function&&env.kindOf n==some .cell) then (n,NameKind.cell) else (n,k)) r)=some k':=h
  cases hx:x==n with
  | true=>
   have hx':x=n:=by simpa using hx
   by_cases hf:k=.free
   ·exact⟨(n,k),zda8,hx'.symm,hf⟩
   ·have hc:¬ (k==NameKind.free&&env.scope.kind==.function&&env.kindOf n==some .cell)=true:=by
     have:(k==NameKind.free)=false:=by simpa using hf
     rw[this];simp
    rw[if_neg hc] at h
    simp only[zcz6,hx] at h
    have:k=k':=Option.some.inj h
    subst this
    rcases hk with hk|hk
    ·exact absurd hk (hn (n,k) zda8)
    ·exact absurd hk hf
  | false=>
   have h':List.lookup x (List.map (fun (n,k)=>if (k==NameKind.free&&env.scope.kind==.function&&env.kindOf n==some .cell) then (n,NameKind.cell) else (n,k)) r)=some k':=by
    by_cases hc:(k==NameKind.free&&env.scope.kind==.function&&env.kindOf n==some .cell)=true
    ·rw[if_pos hc] at h;simp only[zcz6,hx] at h;exact h
    ·rw[if_neg hc] at h;simp only[zcz6,hx] at h;exact h
   obtain⟨y,hy,h1,h2⟩:=ih h'
   exact⟨y,zcz5 _ hy,h1,h2⟩
def blk (X:Cx) (N:List Str) (scope:Scope) (cl:List (Str×Addr)) (C:Addr) (s3:Shared) (H3:Hp) (fp:List Addr):Cx:=
 { X with N:=N,s₀:=s3,H₀:=H3,env:=compEnvC scope cl C X.env,outer:=X.stack,ex:=fp,fn:=fun _=>false,pn:=[],xe:=fun _ _=>False }
def PTs (X:Cx) (ifs:List Expr) (t:TT):Prop:=
 ∀ (pins:List (Addr×Obj)) (s:Shared) (σ:St) (H:Hp) (Q:Bool->Hp->Prop),Inv X pins σ H s->t σ H Q ->
  wpAny (model X.prog X.w) X.A (forIn ifs true fun c r=>if r=true then do let ok ← isTrue c X.env (eval c X.env);pure (ForInStep.yield ok) else pure (ForInStep.yield r)) (TP X pins σ Q) X.xe s
theorem ze2 {X:Cx}:PTs X [] (fun _ H Q=>Q true H):=fun _ _ _ H _ I h=>wpAny_tests_nil ⟨H,I,h⟩
@[irreducible] def cPut (W:Nat->Nat->List V->St->Hp->Prop) (acc:Addr) (ys:List V) (i m:Nat) (σ2:St) (v:V) (H5:Hp):Prop:=
 H5 acc=some (.lst ys)/\∀ H6,Chg acc H5 H6->H6 acc=some (.lst (ys++[v]))->∃ m',m'<m/\W (i+1) m' (ys++[v]) σ2 H6
@[irreducible] def zau4 (W:Nat->Nat->List V->St->Hp->Prop) (ys:List V) (i m:Nat) (σ2:St) (H4:Hp):Prop:=∃ m',m'<m/\W (i+1) m' ys σ2 H4
@[irreducible] def zak8 (J:It) (g:TG) (tt:TT) (te:TE) (σ0:St) (H1:Hp) (Q:VK):Prop:=
 ∀ acc H2,H1 acc=none->Same H1 H2->H2 acc=some (.lst [])->∃ W:Nat->Nat->List V->St->Hp->Prop,(∃ m,W 0 m [] σ0 H2)/\∀ i m ys σ H,W i m ys σ H->H acc=some (.lst ys)/\ys.length<sizeLine /\
  ((J.stop i H/\Q (.ref acc) H)∨(J.go i H/\∀ x H',J.yld i H x H'->g x σ H' fun σ2 H3=>tt σ2 H3 fun b H4=>
   br b (te σ2 H4 fun v H5=>cPut W acc ys i m σ2 v H5) (zau4 W ys i m σ2 H4)))
section
variable {X:Cx}{pins:List (Addr×Obj)}{σ:St}{H:Hp}{s2:Shared}
theorem zcj4 {N:List Str}{scope:Scope}{cl:List (Str×Addr)}{C:Addr}{s3 s4:Shared}{H3:Hp}{fp:List Addr}{σc:St}(I:Inv X pins σ H3 s3)
  (hcl1:∀ x c,cl.lookup x=some c->X.env.cells.lookup x=some c) (hcl2:∀ x∈scope.names,x.2=.free->∃ c,cl.lookup x.1=some c) (hkind:scope.kind=.function) (hcell:∀ y∈scope.names,y.2≠.cell)
  (hcap:∀ (i:Nat) (x:Str) (v:V),N[i]?=some x->σc[i]?=some (some v)->∃ j:Nat,X.N[j]?=some x/\σ[j]?=some (some v)/\scope.names.lookup x=some .free/\(X.env.kindOf x=some .cell∨X.env.kindOf x=some .free))
  (hlen:σc.length=N.length) (hC:s3.heap.objs.size=C) (hfp:∀ b∈fp,FpOk X pins H3 b) (hfpl:∀ b∈fp,b<C) (hex:∀ b o,X.base.get? b=some o->b ∉ fp) (hns:∃ m,s4.heap.Ns C m) (hk:∀ b o,s3.heap.get? b=some o->s4.heap.get? b=some o) (h4:s4.os=s3.os) (h5:s4.gens=s3.gens) :
  Inv (blk X N scope cl C s3 H3 fp) [] σc H3 s4:=by
 subst hC
 have look:∀ x,(blk X N scope cl s3.heap.objs.size s3 H3 fp).env.kindOf x=(relabel scope X.env).names.lookup x:=fun x=>rfl
 have cne:∀ x c,cl.lookup x=some c->c<s3.heap.objs.size:=fun x c h=>by
  obtain⟨v,o,ho,_⟩:=I.cell x c (hcl1 x c h)
  exact zcw6 ho
 refine⟨⟨I.ok.mod,?_,I.ok.glob,I.ok.blt,zcw9 _,fun x y c h1 h2=>I.ok.inj x y c (hcl1 _ _ h1) (hcl1 _ _ h2),fun x hx=>?_,fun x c h=>?_,I.ok.hd,I.ok.frames,.inl rfl,fun b hb=>⟨zcy6 (hfpl b hb),fun x c h=>?_⟩,fun b o e=>I.bs b o e,zdb2 I.ok.bsz I.sz,fun b o e=>hex b o e,fun b hb=>?_,I.stack,I.stkFree⟩,
  h4,by rw[h5];exact I.bare,Un.kept hk,?_,fun x c h=>?_,I.hok.fresh (zcw9 _),fun x c h=>I.freeC x c (hcl1 _ _ h),fun p hp=>(by cases hp),I.hok.kept hk,hlen⟩
 ·exact hkind
 ·have hx':(relabel scope X.env).names.lookup x=some .cell∨(relabel scope X.env).names.lookup x=some .free:=hx
  have hz:∃ y∈scope.names,y.1=x/\y.2=.free:=by
   rcases hx' with q|q
   ·exact zx3 hcell (.inl rfl) q
   ·exact zx3 hcell (.inr rfl) q
  obtain⟨y,hy,rfl,hf⟩:=hz
  exact hcl2 y hy hf
 ·exact absurd (show false=true from h) zcw2
 ·exact (hfp b hb).2.2.2.2.1 x c (hcl1 x c h)
 ·have:=(hfp b hb).1
  intro hz
  obtain⟨f0,f1,f2,_⟩:=hfp b hb
  have hz:b∈frs X.stack:=hz
  rcases zcw3.mp (I.stkSub b hz) with q|q
  ·exact f1 q
  ·exact f2 q
 ·obtain⟨m,hm⟩:=hns
  refine⟨m,hm,fun i x v h1 h2 h3=>?_⟩
  obtain⟨j,e1,e2,e3,e4⟩:=hcap i x v h1 h2
  obtain⟨mX,_,hl⟩:=I.loc
  obtain⟨u,r,q⟩:=hl j x v e1 e2 (by rcases e4 with e4|e4;exact .inr (.inl e4);exact .inr (.inr e4))
  refine⟨u,r,.inr ⟨zag6 e3,?_⟩⟩
  obtain⟨c,hc⟩:=hcl2 (x,.free) (PySem.mem_of_lookup e3) rfl
  refine⟨c,hc,?_⟩
  have hc':=hcl1 x c hc
  rcases q with ⟨k,_⟩|⟨_,c2,e5,o,ho,hd⟩
  ·rcases e4 with e4|e4<;>rw[e4] at k<;>cases k
  ·rw[hc'] at e5
   cases e5
   exact⟨o,hk _ _ ho,hd⟩
 ·obtain⟨v,o,ho,hd⟩:=I.cell x c (hcl1 x c h)
  exact⟨v,o,hk _ _ ho,hd⟩
theorem zbv3 {prog:Program}{w:World}{A:Around}{R:Result->Shared->Prop}{s:Shared}{elt target iter:Expr}{ifs:List Expr}{scope:Scope}{pos:Pos}{it acc:Value}{env:Env}(I:Nat->Shared->Prop)
  (turn:∀ n s,I n s->wpAny (model prog w) A (pyNext it) (fun r s₁=>match r with
   | none=>R (.ok .next) s₁
   | some v=>wpAny (model prog w) A (letOwnedTupleGo target it v) (fun _ s₁'=>wpAny (model prog w) A (assign target env v) (fun _ s₂=>
     wpAny (model prog w) A (forIn ifs true fun c r=>if r=true then do let ok ← isTrue c env (eval c env);pure (ForInStep.yield ok) else pure (ForInStep.yield r)) (fun ok s₃=>
      if ok=true then wpAny (model prog w) A (eval elt env) (fun x s₄=>
       wpAny (model prog w) A (call (.builtin "list.append") [acc,x]) (fun _ s₅=>∃ m,m<n/\I m s₅) (fun _ _=>False) s₄) (fun _ _=>False) s₃
      else ∃ m,m<n/\I m s₃) (fun _ _=>False) s₂) (fun _ _=>False) s₁') (fun _ _=>False) s₁) (fun _ _=>False) s)
  (n:Nat) (h:I n s):codeAny (model prog w) A (.compLoop (.ListComp elt [⟨target,iter,ifs,0⟩] scope pos) 0 it acc env) R s:=by
 refine codeAny_loop rfl I (fun n s hI=>?_) n h
 show wpAny _ A ((compTurn (.ListComp elt [⟨target,iter,ifs,0⟩] scope pos) 0 it acc env).onRaise (fun x=>do noteFrame x env;theTreesLotGoes x)) _ _ s
 refine wpAny_noted ?_
 rw[compTurn_list]
 refine wpAny_bind (wpAny_standAt (wpAny_bind (wpAny_mono (turn n s hI) (fun r s₁ h₁=>?_) fun _ _ h'=>h'.elim)))
 cases r with
 | none=>exact wpAny_pure h₁
 | some v=>
  refine wpAny_bind (wpAny_mono h₁ (fun _ s₁' h₁'=>?_) fun _ _ h'=>h'.elim)
  refine wpAny_bind (wpAny_mono h₁' (fun _ s₂ h₂=>wpAny_bind (wpAny_mono h₂ (fun ok s₃ h₃=>?_) fun _ _ h'=>h'.elim)) fun _ _ h'=>h'.elim)
  cases ok with
  | false=>exact wpAny_pure ⟨rfl,h₃⟩
  | true=>
   exact wpAny_bind (wpAny_bind (wpAny_mono h₃ (fun x s₄ h₄=>wpAny_bind (wpAny_mono h₄ (fun _ s₅ h₅=>wpAny_pure (wpAny_pure ⟨rfl,h₅⟩)) fun _ _ h'=>h'.elim)) fun _ _ h'=>h'.elim))
theorem zax1 {E:Value->Shared->Prop}{elt tg iter:Expr}{ifs:List Expr}{scope:Scope}{pos:Pos}{cl:List (Str×Addr)}{N:List Str}{σc:St}{J:It}{fp:List Addr}{it:Addr}{tn:Nat->Heap->Prop}{g:TG}{tt:TT}{te:TE}{Q:VK}
  {RR:Value->Addr->Result->Shared->Prop}
  (hcl1:∀ x c,cl.lookup x=some c->X.env.cells.lookup x=some c) (hcl2:∀ x∈scope.names,x.2=.free->∃ c,cl.lookup x.1=some c) (hkind:scope.kind=.function) (hcell:∀ y∈scope.names,y.2≠.cell)
  (hcap:∀ (i:Nat) (x:Str) (v:V),N[i]?=some x->σc[i]?=some (some v)->∃ j:Nat,X.N[j]?=some x/\σ[j]?=some (some v)/\scope.names.lookup x=some .free/\(X.env.kindOf x=some .cell∨X.env.kindOf x=some .free))
  (hlen:σc.length=N.length) (hc:X.calm=true) (I:Inv X pins σ H s2) (T:Turn X.prog X.w X.K tg J fp it tn) (st:tn 0 s2.heap) (fpok:∀ b∈fp,FpOk X pins H b)
  (hg:∀ C s3 H3 fp,PG (blk X N scope cl C s3 H3 fp) tg g) (ht:∀ C s3 H3 fp,PTs (blk X N scope cl C s3 H3 fp) ifs tt) (he:∀ C s3 H3 fp,PE (blk X N scope cl C s3 H3 fp) elt te)
  (h:zak8 J g tt te σc H Q)
  (hRR:∀ (acc C:Addr) (H':Hp) (s':Shared),Inv X pins σ H' s'->FpOk X pins H' C->(∃ m,s'.heap.Ns C m)->Q (.ref acc) H'->RR (.ref acc) C (.ok .next) s') :
  wpAny (model X.prog X.w) X.A (newList []) (fun acc s₃=>wpAny (model X.prog X.w) X.A (newFunctionEnv scope X.env.globals cl [] X.env.qual none .none (some X.env)) (fun cenv s₄=>
   codeAny (model X.prog X.w) X.A (.compStart (.ListComp elt [⟨tg,iter,ifs,0⟩] scope pos) 0 (.ref it) acc { cenv with scope:=relabel scope X.env }) (RR acc cenv.locals) s₄) E s₃) E s2:=by
 refine wpAny_newObj_type (wpAny_newFunctionEnv hcell (by intro y hy;simp at hy) (fun h₁ hns₁ hsb₁=>?_) hkind)
 dsimp only at hns₁ hsb₁ ⊢
 have hf:H s2.heap.objs.size=none:=I.fresh
 have I3:Inv X pins σ (upd H s2.heap.objs.size (.lst [])) { s2 with heap:=s2.heap.push { cls:=.type "list",data:=.seq ([]:List Value).toArray } }:=I.lnew (t':=s2.toks) (its:=[]) .nil (zcz3 _)
 generalize hs3:({ s2 with heap:=s2.heap.push { cls:=.type "list",data:=.seq ([]:List Value).toArray } }:Shared)=s3 at I3
 have hH:s2.heap.push { cls:=.type "list",dict:=none,data:=.seq ([]:List Value).toArray }=s3.heap:=by rw[← hs3]
 rw[hH] at hns₁ hsb₁ ⊢
 have hsz:s3.heap.objs.size=s2.heap.objs.size+1:=by rw[← hH,zdd1]
 have old23:∀ b o,s2.heap.get? b=some o->s3.heap.get? b=some o:=fun b o e=>by rw[← hH];exact zcv0 _ e
 have fplt:∀ b∈fp,b<s2.heap.objs.size:=fun b hb=>by
  obtain⟨o,e,_⟩:=T.obj 0 _ st b hb
  exact zcw6 e
 have fp3:∀ b∈fp,FpOk X pins (upd H s2.heap.objs.size (.lst [])) b:=fun b hb=>by
  obtain⟨f0,f1⟩:=fpok b hb
  refine⟨?_,f1⟩
  rw[zc3 (zcy6 (fplt b hb))]
  exact f0
 have old34:∀ b o,s3.heap.get? b=some o->h₁.get? b=some o:=fun b o e=>hsb₁.extBut b o (zcy6 (zcw6 e)) (zcv0 _ e)
 have nob:∀ b o,X.base.get? b=some o->b ∉ fp:=fun b o e hb=>by
  obtain⟨_,_,_,f3,_,_⟩:=fpok b hb
  rcases f3 with f3|f3
  ·exact I.ok.noex b o e f3
  ·exact absurd (zcx9 (zcw6 e) I.ok.bsz) (Nat.not_lt.mpr f3)
 have hs4e:({ s2 with heap:=h₁,toks:=s2.toks+([]:List (Str×Value)).length }:Shared).os=s3.os:=by rw[← hs3]
 have hs4g:({ s2 with heap:=h₁,toks:=s2.toks+([]:List (Str×Value)).length }:Shared).gens=s3.gens:=by rw[← hs3]
 have I4:Inv (blk X N scope cl s3.heap.objs.size s3 (upd H s2.heap.objs.size (.lst [])) fp) [] σc (upd H s2.heap.objs.size (.lst [])) { s2 with heap:=h₁,toks:=s2.toks+([]:List (Str×Value)).length }:=
  zcj4 (s4:={ s2 with heap:=h₁,toks:=s2.toks+([]:List (Str×Value)).length }) I3 hcl1 hcl2 hkind hcell hcap hlen rfl fp3 (fun b hb=>zcx9 (fplt b hb) (by rw[hsz];exact Nat.le_succ _)) nob ⟨_,hns₁⟩ old34 hs4e hs4g
 have st4:tn 0 h₁:=T.keep _ _ _ st fun b hb o e=>old34 b o (old23 b o e)
 unfold zak8 at h
 obtain⟨W,⟨m0,w0⟩,turn⟩:=h s2.heap.objs.size _ hf (Same.upd hf) zc7
 have loop:codeAny (model X.prog X.w) X.A (.compLoop (.ListComp elt [⟨tg,iter,ifs,0⟩] scope pos) 0 (.ref it) (.ref s2.heap.objs.size) (blk X N scope cl s3.heap.objs.size s3 (upd H s2.heap.objs.size (.lst [])) fp).env)
   (RR (.ref s2.heap.objs.size) s3.heap.objs.size) { s2 with heap:=h₁,toks:=s2.toks+([]:List (Str×Value)).length }:=by
  refine zbv3 (fun n s'=>∃ i ys σ' H',Inv (blk X N scope cl s3.heap.objs.size s3 (upd H s2.heap.objs.size (.lst [])) fp) [] σ' H' s'/\tn i s'.heap/\(∀ b∈fp,H' b=none)/\W i n ys σ' H') ?_ m0 ⟨0,[],σc,_,I4,st4,fun b hb=>(fp3 b hb).1,w0⟩
  rintro n s5 ⟨i,ys,σ5,H5,I5,st5,fr5,w5⟩
  obtain⟨hacc,hl5,hcase⟩:=turn i n ys σ5 H5 w5
  have stat:∀ {H':Hp},(∀ b∈fp,H' b=none)->∀ b∈fp,FpOk (blk X N scope cl s3.heap.objs.size s3 (upd H s2.heap.objs.size (.lst [])) fp) [] H' b:=fun hn b hb=>by
   obtain⟨_,f1,f2,f3,f4,_⟩:=fpok b hb
   refine⟨hn b hb,zcy6 (zcx9 (fplt b hb) (by rw[hsz];exact Nat.le_succ _)),fun hz=>?_,.inl hb,fun x c hx=>f4 x c (hcl1 x c hx),fun p hp=>by cases hp⟩
   rcases zcw3.mp (I.stkSub b hz) with q|q
   ·exact f1 q
   ·exact f2 q
  rcases hcase with ⟨stop,hq⟩|⟨go,step⟩
  ·refine thn (T.done (blk X N scope cl s3.heap.objs.size s3 (upd H s2.heap.objs.size (.lst [])) fp) rfl rfl rfl hc i [] s5 σ5 H5 (fun _ _=>False) I5 (stat fr5) st5 stop) fun r s6 ⟨hr,I6⟩=>?_
   subst hr
   have u1:Un (frs X.stack) fp H (upd H s2.heap.objs.size (.lst [])) s2.heap s3.heap:=Un.laid old23 (zcw9 _) hf
   have u2:Un (frs X.stack) fp (upd H s2.heap.objs.size (.lst [])) H5 s3.heap s6.heap:=I6.base
   have hC:H5 s3.heap.objs.size=none:=I6.free
   obtain⟨m6,hm6,_⟩:=I6.loc
   have hos:s6.os=s2.os:=by rw[I6.os];show s3.os=s2.os;rw[← hs3]
   have hok6:=I6.hok
   have bare6:=I6.bare
   obtain⟨hh,gg,dd,tt',os'⟩:=s6
   obtain rfl:os'=s2.os:=hos
   exact hRR _ _ H5 _ (I.call (h':=hh) (g':=gg) (d':=dd) (t':=tt') (ch:=fp) (u1.trans u2) hok6 bare6 fun b hb=>⟨(fpok b hb).2.2.2.1,(fpok b hb).2.1,(fpok b hb).2.2.2.2.1,(fpok b hb).2.2.2.2.2⟩)
    (I.fpOk (by rw[hsz];exact Nat.le_succ _) hC) ⟨m6,hm6⟩ hq
  ·refine thn (T.item (blk X N scope cl s3.heap.objs.size s3 (upd H s2.heap.objs.size (.lst [])) fp) rfl rfl rfl hc i [] s5 σ5 H5 (fun _ _=>False) I5 (stat fr5) st5 go) fun r s6 ⟨u,hr,h6⟩=>?_
   subst hr
   refine thn h6 fun _ s7 ⟨x,H7,I7,r7,y7,st7,fr7⟩=>?_
   have I7':=I7.pinned (stat fr7) (T.obj _ _ st7)
   refine thn (hg _ _ _ _ _ s7 σ5 H7 x u _ I7' r7 (step x H7 y7)) fun _ s8 ⟨σ8,H8,I8,q8⟩=>?_
   refine thn (ht _ _ _ _ _ s8 σ8 H8 _ I8 q8) fun ok s9 ⟨H9,I9,q9⟩=>?_
   have again:∀ {s10:Shared}{σ10:St}{H10:Hp}{zs:List V},Inv (blk X N scope cl s3.heap.objs.size s3 (upd H s2.heap.objs.size (.lst [])) fp) ([]++zaw5 fp s7.heap) σ10 H10 s10->(∃ m',m'<n/\W (i+1) m' zs σ10 H10) ->
     ∃ m,m<n/\∃ i ys σ' H',Inv (blk X N scope cl s3.heap.objs.size s3 (upd H s2.heap.objs.size (.lst [])) fp) [] σ' H' s10/\tn i s10.heap/\(∀ b∈fp,H' b=none)/\W i m ys σ' H':=fun {s10 σ10 H10 zs} I10 ⟨m',hm,w10⟩=>by
    refine⟨m',hm,i+1,zs,σ10,H10,I10.unpinned,T.keep _ _ _ st7 fun b hb o e=>(I10.pin (b,o) (zcz0 _ (zcz0 _ (zz3 hb e)))).1,fun b hb=>?_,w10⟩
    obtain⟨o,e,d⟩:=T.obj _ _ st7 b hb
    exact (I10.pin (b,o) (zcz0 _ (zcz0 _ (zz3 hb e)))).2.1
   dsimp only at q9
   rw[zal4] at q9
   cases ok with
   | false=>
    have q9:∃ m',m'<n/\W (i+1) m' ys σ8 H9:=by rw[if_neg zcw2] at q9;unfold zau4 at q9;exact q9
    exact again I9 q9
   | true=>
    have q9:=(if_pos rfl▸q9:te σ8 H9 _)
    refine thn (he _ _ _ _ _ s9 σ8 H9 _ I9 q9) fun v s10 ⟨y,H10,I10,r10,q10⟩=>?_
    unfold cPut at q10
    obtain⟨e10,q10⟩:=q10
    refine thn (zav8 _ s10 σ8 H10 (.ref s2.heap.objs.size) [y] (.ref s2.heap.objs.size) [v] (fun _ H11=>∃ m',m'<n/\W (i+1) m' (ys++[y]) σ8 H11) I10 rfl (.cons r10 .nil) ⟨_,ys,y,rfl,rfl,e10,hl5,q10 _ Chg.upd zc7⟩) fun _ s11 ⟨z,H11,I11,_,q11⟩=>?_
    exact again I11 q11
 exact codeAny_compStart_list loop (T.self _ 0 _ _ _ st4 loop)
def capS (ks:List (Option Nat)) (σ:St):St:=ks.map fun k=>match k with
 | none=>none
 | some j=>(σ[j]?).join
inductive zal6 (X:Cx) (scope:Scope):List Str->List (Option Nat)->Prop where
 | nil:zal6 X scope [] []
 | skip {x:Str}{N:List Str}{ks:List (Option Nat)}(t:zal6 X scope N ks):zal6 X scope (x :: N) (none :: ks)
 | take {x:Str}{N:List Str}{ks:List (Option Nat)}{j:Nat}(h1:X.N[j]?=some x) (h2:scope.names.lookup x=some .free) (h3:X.env.kindOf x=some .cell∨X.env.kindOf x=some .free) (t:zal6 X scope N ks):zal6 X scope (x :: N) (some j :: ks)
theorem zal6.cap {scope:Scope}{N:List Str}{ks:List (Option Nat)}(h:zal6 X scope N ks) (σ:St):∀ (i:Nat) (x:Str) (v:V),N[i]?=some x->(capS ks σ)[i]?=some (some v)->∃ j:Nat,X.N[j]?=some x/\σ[j]?=some (some v)/\scope.names.lookup x=some .free/\(X.env.kindOf x=some .cell∨X.env.kindOf x=some .free):=by
 induction h with
 | nil=>intro i x v h;simp at h
 | skip t ih=>
  intro i x v h1 h2
  cases i with
  | zero=>simp[capS] at h2
  | succ i=>exact ih i x v (by simpa using h1) (by simpa [capS] using h2)
 | take a b c t ih=>
  intro i x v h1 h2
  cases i with
  | zero=>
   simp only[List.getElem?_cons_zero,Option.some.injEq] at h1
   subst h1
   refine⟨_,a,?_,b,c⟩
   simpa [capS,Option.join_eq_some_iff] using h2
  | succ i=>exact ih i x v (by simpa using h1) (by simpa [capS] using h2)
theorem zal6.len {scope:Scope}{N:List Str}{ks:List (Option Nat)}(h:zal6 X scope N ks) (σ:St):(capS ks σ).length=N.length:=by
 have:ks.length=N.length:=by
  induction h with
  | nil=>rfl
  | skip t ih=>simp[ih]
  | take a b c t ih=>simp[ih]
 simp[capS,this]
def qComp (ks:List (Option Nat)) (wi:TI) (g:TG) (tt:TT) (te:TE):TE:=fun σ H Q=>wi σ H fun J H1=>zak8 J g tt te (capS ks σ) H1 Q
def freeB (scope:Scope) (f:Str->Option NameKind):Bool:=scope.names.all fun x=>x.2 != .free || (f x.1==some .cell || f x.1==some .free)
def zbf9 (scope:Scope):Bool:=scope.names.all (fun x=>x.2 != .cell)&&scope.names.all fun x=>x.2 != .local || scope.names.lookup x.1==some .local
theorem zbh4 {scope:Scope}{f:Str->Option NameKind}(h:freeB scope f=true):∀ x∈scope.names,x.2=.free->f x.1=some .cell∨f x.1=some .free:=fun x hx hf=>by
 have:=zcx1.mp h x hx
 simpa [hf] using this
theorem zaz1 {scope:Scope}(h:zbf9 scope=true):(∀ y∈scope.names,y.2≠.cell)/\∀ x∈scope.names,x.2=.local->scope.names.lookup x.1=some .local:=by
 unfold zbf9 at h
 rw[zcw5] at h
 refine⟨fun y hy=>?_,fun x hx hl=>?_⟩
 ·have:=zcx1.mp h.1 y hy
  simpa using this
 ·have:=zcx1.mp h.2 x hx
  simpa [hl] using this
theorem zj5 {elt tg iter:Expr}{ifs:List Expr}{scope:Scope}{pos:Pos}{N:List Str}{ks:List (Option Nat)}{wi:TI}{g:TG}{tt:TT}{te:TE}(hi:PI X tg iter wi)
  (hg:∀ cl C s3 H3 fp,PG (blk X N scope cl C s3 H3 fp) tg g) (ht:∀ cl C s3 H3 fp,PTs (blk X N scope cl C s3 H3 fp) ifs tt) (he:∀ cl C s3 H3 fp,PE (blk X N scope cl C s3 H3 fp) elt te) (hcap:zal6 X scope N ks)
  (hc:X.calm=true:=by rfl) (hkind:scope.kind=.function:=by rfl) (hb:freeB scope X.env.kindOf=true:=by rfl) (hn:zbf9 scope=true:=by rfl) (hs:∀ x,foldedSetIterable iter X.env x=pure x:=by intro _;rfl) :
  PE X (.ListComp elt [⟨tg,iter,ifs,0⟩] scope pos) (qComp ks wi g tt te):=by
 intro pins s σ H Q I h
 obtain⟨hcell,hnames⟩:=zaz1 hn
 obtain⟨cl,hcl,hcl1,hcl2⟩:=zap9 (scope:=scope) (env:=X.env) fun x hx hf=>I.ok.has x.1 (zbh4 hb x hx hf)
 rw[eval_ListComp]
 refine wpAny_comprehension_free (use:=none) rfl hs hcl hkind hnames ?_
 show wpAny _ _ (eval iter X.env) _ _ s
 refine thn (hi pins s σ H _ I h) fun v s1 h1=>thn h1 fun itv s2 h2=>?_
 obtain⟨it,fp,tn,J,H2,e,I2,T,st2,f2,q2⟩:=h2
 subst e
 refine zax1 (RR:=fun acc C=>compPost (model X.prog X.w) X.A X.xe none (EP X pins σ Q) acc C) hcl1 hcl2 hkind hcell (hcap.cap σ) (hcap.len σ) hc I2 T st2 f2 (hg cl) (ht cl) (he cl) q2 ?_
 rintro acc C H' s' I' hC ⟨m,hm⟩ hq
 refine⟨m,hm,fun h' hsb=>⟨.ref acc,H',?_,rfl,hq⟩⟩
 exact I'.turned (t':=s'.toks) (fun b o hb e=>hsb.extBut b o hb e) hC.1 hC.2.1 hC.2.2.2.1 hC.2.2.2.2.1 hC.2.2.2.2.2
theorem psC {i:Nat}{y:Str}{py spos:Pos}{elt tg iter:Expr}{ifs:List Expr}{scope:Scope}{pos:Pos}{N:List Str}{ks:List (Option Nat)}{wi:TI}{g:TG}{tt:TT}{te:TE}(hN:X.N.Nodup) (hi:PI X tg iter wi)
  (hg:∀ cl C s3 H3 fp,PG (blk X N scope cl C s3 H3 fp) tg g) (ht:∀ cl C s3 H3 fp,PTs (blk X N scope cl C s3 H3 fp) ifs tt) (he:∀ cl C s3 H3 fp,PE (blk X N scope cl C s3 H3 fp) elt te) (hcap:zal6 X scope N ks)
  (hy:X.N[i]?=some y:=by rfl) (hl:X.env.scope.names.lookup y=some .local:=by rfl) (hsw:swapsWith (.ListComp elt [⟨tg,iter,ifs,0⟩] scope pos) (some (.Name y py)) spos.line X.env=pure true:=by rfl)
  (hc:X.calm=true:=by rfl) (hkind:scope.kind=.function:=by rfl) (hb:freeB scope X.env.kindOf=true:=by rfl) (hn:zbf9 scope=true:=by rfl) (hs:∀ x,foldedSetIterable iter X.env x=pure x:=by intro _;rfl) :
  PS X (.Assign [.Name y py] (.ListComp elt [⟨tg,iter,ifs,0⟩] scope pos) spos) (tAsg (qComp ks wi g tt te) (zbi8 i)):=by
 intro pins s σ H D I h
 obtain⟨hcell,hnames⟩:=zaz1 hn
 obtain⟨cl,hcl,hcl1,hcl2⟩:=zap9 (scope:=scope) (env:=X.env) fun x hx hf=>I.ok.has x.1 (zbh4 hb x hx hf)
 rw[exec_Assign_Name_used _ _ _ _ hsw]
 refine wpAny_bind (wpAny_standAt (wpAny_bind ?_))
 show wpAny _ X.A (do let _ ← comprehension (.ListComp elt [⟨tg,iter,ifs,0⟩] scope pos) scope X.env _ (newList []) false (eval iter X.env) (some (assign (.Name y py) X.env))) _ _ s
 refine wpAny_bind (wpAny_mono (wpAny_comprehension_free (use:=some (assign (.Name y py) X.env)) (Q:=fun _ s'=>SP X pins D .next s') rfl hs hcl hkind hnames ?_) (fun _ s' hq=>wpAny_pure (wpAny_pure hq)) fun _ _ e=>e)
 refine thn (hi pins s σ H _ I h) fun v s1 h1=>thn h1 fun itv s2 h2=>?_
 obtain⟨it,fp,tn,J,H2,e,I2,T,st2,f2,q2⟩:=h2
 subst e
 refine zax1 (RR:=fun acc C=>compPost (model X.prog X.w) X.A X.xe (some (assign (.Name y py) X.env)) (fun _ s'=>SP X pins D .next s') acc C) hcl1 hcl2 hkind hcell (hcap.cap σ) (hcap.len σ) hc I2 T st2 f2 (hg cl) (ht cl) (he cl) q2 ?_
 rintro acc C H' s' I' hC ⟨m,hm⟩ hq
 show wpAny _ _ (assign (.Name y py) X.env (.ref acc)) _ _ _
 refine wpAny_assign_Name (zba0 I' hN hy (.inl hl) (v:=.ref acc) rfl (fun s'' I'' hsb=>?_) (.inr hl))
 obtain⟨a,hsb,ha⟩:=hsb
 have hCa:C≠a:=by
  rcases ha with ha|ha
  ·rw[ha];exact hC.2.1
  ·exact (hC.2.2.2.2.1 y a ha).symm
 refine⟨m,hm.sameBut hsb hCa,fun h' hsb'=>⟨σ.set i (some (.ref acc)),H',?_,hq⟩⟩
 exact I''.turned (t':=s''.toks) (fun b o hb e=>hsb'.extBut b o hb e) hC.1 hC.2.1 hC.2.2.2.1 hC.2.2.2.2.1 hC.2.2.2.2.2
end
section
variable {K:zcu8}{g:TG}{tt:TT}{te:TE}{σ0:St}{H1:Hp}{Q:VK}
end
end L2
set_option maxHeartbeats 2000000
namespace L2
open PySem PySem.Spec PyProof.Rows
section
variable {X:Cx}
@[irreducible] def rSumA (K:zcu8) (p:Addr) (H:Hp) (Q:VK):Prop:=∃ ns:List Int,SqL K H p (ns.map V.int)/\Q (.int ns.sum) H
def rSumM (K:zcu8):List V->Hp->VK->Prop:=fun xs H Q=>match xs with
 | [.ref p]=>rSumA K p H Q
 | _=>False
theorem cSum (hc:X.calm=true):zt2 X (.builtin "sum") (rSumM X.K):=fun pins s σ H xs us Q I r h=>by
 unfold rSumM at h
 split at h
 ·unfold rSumA at h
  obtain⟨ns,h1,h2⟩:=h
  obtain⟨u,rfl,rx⟩:=zao3 r
  cases rx
  obtain⟨its,r',pl,hz⟩:=I.list h1
  have hi:=zbl5 r'
  obtain⟨ys,hx⟩:=hi.allInts.items
  have hl':s.heap.IsList _ (intItems ys):=hx▸pl.isList
  refine sum_intListG (I.ok.hd hc) hl' fun h' tk t' hk=>?_
  have e1:ns=ys.toList.map (·.1):=by
   rw[← nums_intItems,← hx]
   exact (show numsOf its.toArray.toList=ns from hi.numsOf).symm
  have e2:preSum (numAt ys) ys.size=ns.sum:=by
   rw[preSum_eq,zdb9 (by simp),e1]
  rw[e2]
  exact⟨.int ns.sum,H,I.kept hk,⟨_,rfl⟩,h2⟩
 ·exact h.elim
theorem zab2 {K:zcu8}{p:Addr}{H:Hp}{Q:VK}{ns:List Int}(h:H p=some (.lst (ns.map V.int))) (q:Q (.int ns.sum) H):rSumA K p H Q:=by unfold rSumA;exact⟨ns,SqL.of h,q⟩
theorem zaj6:∀ {bs:List Bool}{us:List Value},Vals (bs.map V.bl) us->LSm.BoolsAre us bs
 | [],us,r=>by rw[List.map_nil] at r;cases r;exact .nil
 | b :: bs,us,r=>by
  rw[zcy2] at r
  cases r with
  | cons r1 r2=>
   cases r1
   exact .cons b (zaj6 r2)
@[irreducible] def rAllA (K:zcu8) (p:Addr) (H:Hp) (Q:VK):Prop:=∃ bs:List Bool,SqL K H p (bs.map V.bl)/\Q (.bl (bs.all id)) H
def rAllM (K:zcu8):List V->Hp->VK->Prop:=fun xs H Q=>match xs with
 | [.ref p]=>rAllA K p H Q
 | _=>False
theorem cAll (hc:X.calm=true):zt2 X (.builtin "all") (rAllM X.K):=fun pins s σ H xs us Q I r h=>by
 unfold rAllM at h
 split at h
 ·rename_i p
  unfold rAllA at h
  obtain⟨bs,h1,h2⟩:=h
  obtain⟨u,rfl,rx⟩:=zao3 r
  cases rx
  obtain⟨its,r',pl,hz⟩:=I.list h1
  have hb:=zaj6 r'
  have hlt:p<s.heap.objs.size:=by obtain⟨_,e,_⟩:=pl.isList;exact zcw6 e
  refine call_all_walk (wpAny_pyIter_list pl.isList ?_)
  refine⟨s.heap.objs.size,[s.heap.objs.size,_],[s.heap.objs.size],its.toArray.size,_,_,fun i=>(bs[i]?).getD true,rfl,Walks.list (A:=X.A.in1) (I.ok.hd hc) _ _ (zcy6 hlt) its.toArray,
   ⟨⟨_,zcx2 _ rfl,rfl,rfl⟩,pl.isList.push _⟩,fun i v s' Q' E' hP hQ=>?_,fun h' tk hk=>?_⟩
  ·obtain⟨b,e,rfl⟩:=hb.get i v (by simpa using hP)
   simp only[e,Option.getD_some] at hQ
   exact wpAny_truthy_bool hQ
  ·have e:((List.range its.toArray.size).all fun i=>(bs[i]?).getD true)=bs.all id:=by
    rw[zcv8,hb.length];exact LSm.range_all bs
   rw[e]
   exact⟨.bl _,H,I.kept (LSm.kept_iter hk),rfl,h2⟩
 ·exact h.elim
theorem zx7 {K:zcu8}{p:Addr}{H:Hp}{Q:VK}{bs:List Bool}(h:H p=some (.lst (bs.map V.bl))) (q:Q (.bl (bs.all id)) H):rAllA K p H Q:=by unfold rAllA;exact⟨bs,SqL.of h,q⟩
@[irreducible] def zbf5 (K:zcu8) (p:Addr) (H:Hp) (Q:VK):Prop:=∃ ys,(SqL K H p ys∨SqT K H p ys)/\∀ l H',H l=none->Same H H'->H' l=some (.lst ys)->Q (.ref l) H'
def zbr7 (K:zcu8):List V->Hp->VK->Prop:=fun xs H Q=>match xs with
 | [.ref p]=>zbf5 K p H Q
 | _=>False
theorem cList:zt2 X (.type "list") (zbr7 X.K):=fun pins s σ H xs us Q I r h=>by
 unfold zbr7 at h
 split at h
 ·unfold zbf5 at h
  obtain⟨ys,h1,h2⟩:=h
  exact zax6 pins s σ H _ us Q I r ⟨_,ys,rfl,h1,fun l hl=>h2 l _ hl (Same.upd hl) zc7⟩
 ·exact h.elim
theorem zs0 {K:zcu8}{p:Addr}{H:Hp}{Q:VK}{ys:List V}(h:SqL K H p ys) (q:∀ l H',H l=none->Same H H'->H' l=some (.lst ys)->Q (.ref l) H'):zbf5 K p H Q:=by unfold zbf5;exact⟨ys,.inl h,q⟩
@[irreducible] def zaz2 (K:zcu8) (p:Addr) (H:Hp) (R:Prop):Prop:=(∃ xs,SqL K H p xs)/\R
def qBM (K:zcu8) (r:Addr->List V->Hp->VK->Prop) (to:TE) (t:TA):TE:=fun σ H Q=>to σ H fun x H1=>match x with
 | .ref p=>zaz2 K p H1 (t σ H1 fun xs H2=>r p xs H2 Q)
 | _=>False
theorem zaa7 {K:zcu8}{p:Addr}{H:Hp}{R:Prop}{xs:List V}(h:H p=some (.lst xs)) (q:R):zaz2 K p H R:=by unfold zaz2;exact⟨⟨xs,SqL.of h⟩,q⟩
def MtA (X:Cx) (id:String) (r:Addr->List V->Hp->VK->Prop):Prop:=
 ∀ (pins:List (Addr×Obj)) (s:Shared) (σ:St) (H:Hp) (p:Addr) (xs:List V) (us:List Value) (Q:VK),Inv X pins σ H s->Vals xs us->r p xs H Q ->
  wpAny (model X.prog X.w) X.A (call (.builtin id) (.ref p :: us)) (EP X pins σ Q) X.xe s
theorem peBM {o e:Expr}{es:List Expr}{to:TE}{t:TA}{name:Str}{apos cpos:Pos}{id:String}{r:Addr->List V->Hp->VK->Prop}(slot:Slot "list" name id) (hty:typeOf (.builtin id)=pure (.type "method_descriptor")) (hm:MtA X id r) (ho:PE X o to) (ha:PA X (e :: es) t)
  (hbase:attributeBase o name X.env (eval o X.env)=eval o X.env:=by rfl)
  (hfew:((backTo cpos (starEach (e :: es) X.env)).all (fun x=>!x.1)&&(backToKw cpos (keywordEach [] X.env)).all (fun x=>x.1.isSome)
   && decide ((e :: es).length+([]:List Keyword).length+(if ([]:List Keyword).isEmpty then 0 else 1)<30))=true:=by rfl)
  (hline:(apos.endLine==cpos.line)=true:=by rfl) (hs:starEach (e :: es) X.env=(false,eval e X.env) :: starEach es X.env:=by rfl) (hplain:(backTo cpos (starEach es X.env)).any (·.1)=false:=by rfl) :
  PE X (.Call (.Attribute o name apos) (e :: es) [] cpos) (qBM X.K r to t):=by
 intro pins s σ H Q I h
 refine wpAny_Call_method_late hbase hfew hline rfl (thn (ho pins s σ H _ I h) fun v s1 ⟨x,H1,I1,r1,q1⟩=>?_)
 dsimp only at q1
 split at q1
 ·rename_i p
  unfold zaz2 at q1
  obtain⟨hq,q1⟩:=q1
  obtain⟨h1,h2⟩:=tyV_is (T:="list") I1 r1 (.inl ⟨rfl,hq⟩)
  refine⟨"list",id,PySem.F.plainAttrs_list,slot,hty,h1,h2,?_⟩
  have hA:=ha cpos pins s1 σ H1 _ I1 q1
  rw[hs] at hA ⊢
  refine Calls.callWith_builtin (by show (false || (backTo cpos (starEach es X.env)).any (·.1))=false;rw[hplain]<;>rfl) (Calls.evalArgs_plain ?_)
  cases r1
  exact thn hA fun us s2 ⟨vs,H2,I2,r2,q2⟩=>hm pins s2 σ H2 p vs us Q I2 r2 q2
 ·exact q1.elim
@[irreducible] def rAppA (p:Addr) (v:V) (H:Hp) (Q:VK):Prop:=∃ xs,H p=some (.lst xs)/\xs.length<sizeLine/\∀ H',Chg p H H'->H' p=some (.lst (xs++[v]))->Q .non H'
def rAppM:Addr->List V->Hp->VK->Prop:=fun p vs H Q=>match vs with
 | [v]=>rAppA p v H Q
 | _=>False
theorem zci4:MtA X "list.append" rAppM:=fun pins s σ H p xs us Q I r h=>by
 unfold rAppM at h
 split at h
 ·unfold rAppA at h
  obtain⟨ys,h1,h2,h3⟩:=h
  exact zav8 pins s σ H (.ref p) _ (.ref p) us Q I rfl r ⟨p,ys,_,rfl,rfl,h1,h2,h3 _ Chg.upd zc7⟩
 ·exact h.elim
theorem zai6 {p:Addr}{v:V}{H:Hp}{Q:VK}{xs:List V}(h:H p=some (.lst xs)) (hz:xs.length<sizeLine) (q:∀ H',Chg p H H'->H' p=some (.lst (xs++[v]))->Q .non H'):rAppA p v H Q:=by unfold rAppA;exact⟨xs,h,hz,q⟩
theorem zr4 {o e:Expr}{to:TE}{t:TA}{apos cpos:Pos}(ho:PE X o to) (ha:PA X [e] t) (hbase:attributeBase o "append" X.env (eval o X.env)=eval o X.env:=by rfl)
  (hfew:((backTo cpos (starEach [e] X.env)).all (fun x=>!x.1)&&(backToKw cpos (keywordEach [] X.env)).all (fun x=>x.1.isSome)
   && decide ([e].length+([]:List Keyword).length+(if ([]:List Keyword).isEmpty then 0 else 1)<30))=true:=by rfl)
  (hline:(apos.endLine==cpos.line)=true:=by rfl) (hs:starEach [e] X.env=(false,eval e X.env) :: starEach [] X.env:=by rfl) (hplain:(backTo cpos (starEach [] X.env)).any (·.1)=false:=by rfl):PE X (.Call (.Attribute o "append" apos) [e] [] cpos) (qBM X.K rAppM to t):=
 peBM PySem.F.slot_list_append PySem.F.type_list_append zci4 ho ha hbase hfew hline hs hplain
def rIsM:R2:=fun x y H Q=>match y with
 | .non=>Q (.bl (decide (x=.non))) H
 | _=>False
theorem oIs:OpR X (compareOp .Is) rIsM:=by
 intro pins s σ H x y v u Q I rx ry h
 unfold rIsM at h
 split at h
 ·exact op_isN pins s σ H _ _ v u Q I rx ry ⟨rfl,h⟩
 ·exact h.elim
section
variable {prog:Program}{w:World}{A:Around}{E:Value->Shared->Prop}{s:Shared}
theorem zaz7 {it t:Addr}{items:Array Value}(hne:t≠it):∀ (n i:Nat) (s:Shared) (Q:List Value->Shared->Prop),s.heap.IsListIter it t i->s.heap.IsList t items->i+n<=items.size ->
  (∀ h',h'.IsListIter it t (i+n)->Heap.SameBut it s.heap h'->Q ((items.toList.drop i).take n) { s with heap:=h' })->wpAny (model prog w) A (draw (.ref it) n) Q E s
 | 0,i,s,Q,hit,_,_,hQ=>by
  show wpAny _ _ (pure []) Q E s
  exact wpAny_pure (by simpa using hQ s.heap hit (Heap.SameBut.refl ..))
 | n+1,i,s,Q,hit,ht,hle,hQ=>by
  have hlt:i<items.size:=by omega
  show wpAny _ _ (pyNext (.ref it) >>= _) Q E s
  refine wpAny_bind (wpAny_pyNext_list_item hit ht (x:=items[i]) (by simp[hlt]) fun h₁ hit₁ hs₁=>?_)
  refine wpAny_bind (wpAny_holding (zaz7 hne n (i+1) _ _ hit₁ (ht.extBut hs₁.extBut hne) (by omega) fun h₂ hit₂ hs₂=>wpAny_pure ?_))
  have hd:items.toList.drop i=items[i] :: items.toList.drop (i+1):=by simp[List.drop_eq_getElem_cons,hlt]
  have:=hQ h₂ (by rw[show i+(n+1)=i+1+n by omega];exact hit₂) (hs₁.trans hs₂)
  rw[hd,List.take_succ_cons] at this
  exact this
theorem zaf6 {env:Env}{elts:List Expr}{x1} {pos:Pos}{t:Addr}{items:Array Value}{Q:Unit->Shared->Prop}(hh:A.handled=none) (ht:s.heap.IsList t items)
  (hn:(assignEach elts env).length=items.size) (hstar:(assignEach elts env).findIdx? (·.1)=none)
  (h:∀ h',Heap.ExtBut s.heap.objs.size s.heap h'->wpAny (model prog w) A (assignInOrder ((assignEach elts env).map (·.2)) items.toList) Q E { s with heap:=h' }) :
  wpAny (model prog w) A (assign (.Tuple elts x1 pos) env (.ref t)) Q E s:=by
 rw[assign_Tuple]
 refine wpAny_bind (wpAny_standAt ?_)
 unfold unpack
 rw[hn,hstar]
 refine wpAny_bind (wpAny_holding ?_)
 have hlt:t≠s.heap.objs.size:=by obtain⟨o,ho,_⟩:=ht;exact zcy6 (zcw6 ho)
 unfold unpackItems
 refine wpAny_bind ?_
 unfold notIterableAtAll
 refine wpAny_bind (wpAny_specialOf ht.typeIs F.slot_list_iter.lookup ?_)
 refine wpAny_pure ?_
 simp only[zdc3,if_false]
 refine wpAny_bind (wpAny_holding (wpAny_pyIter_list ht ?_))
 refine wpAny_bind (wpAny_holding (zaz7 hlt items.size 0 _ _ ⟨_,zcx2 _ rfl,rfl,rfl⟩ (ht.push _) (by omega) fun h₁ hit₁ hs₁=>?_))
 have hall:List.take items.size (List.drop 0 items.toList)=items.toList:=by
  rw[List.drop_zero];exact zdb9 (by simp)
 rw[hall]
 rw[if_neg (by simp)]
 have ht₁:h₁.IsList t items:=(ht.push _).extBut hs₁.extBut hlt
 refine wpAny_bind (wpAny_holding (wpAny_pyNext_list_end hh hit₁ ht₁ (by simp) fun h₂ he₂=>?_))
 simp only[Option.isSome_none,zdc3,if_false]
 exact wpAny_pure (h h₂ fun b o hb e=>he₂ b o hb (hs₁.extBut b o hb (zcv0 _ e)))
end
@[irreducible] def rUnpA (K:zcu8) (a:Addr) (n:Nat) (t:TGs) (σ:St) (H:Hp) (Q:St->Hp->Prop):Prop:=∃ xs,(SqT K H a xs∨SqL K H a xs)/\xs.length=n/\t xs σ H Q
def qgAny (K:zcu8) (n:Nat) (t:TGs):TG:=fun v σ H Q=>match v with
 | .ref a=>rUnpA K a n t σ H Q
 | _=>False
theorem pgAny {pos:Pos}{es:List Expr}{k:Nat}{t:TGs}{n:Nat}(hc:X.calm=true) (h:PGs X es t)
  (hn:(assignEach es X.env).length=n:=by rfl) (hst:(assignEach es X.env).findIdx? (·.1)=none:=by rfl):PG X (.Tuple es k pos) (qgAny X.K n t):=fun pins s σ H v u Q I r hq=>by
 unfold qgAny at hq
 split at hq
 ·unfold rUnpA at hq
  obtain⟨xs,a1,a2,a3⟩:=hq
  rcases a1 with a1|a1
  ·exact pg_tup hc h hn hst pins s σ H _ u Q I r ⟨_,xs,rfl,a1,a2,a3⟩
  ·cases r
   obtain⟨its,rv,pl,hz⟩:=I.list a1
   refine zaf6 (I.ok.hd hc) pl.isList (by simp[hn,← a2,rv.length]) hst fun h' hx=>?_
   have I1:Inv X pins σ H { s with heap:=h' }:=I.kept (t':=s.toks) fun b o e=>hx b o (zcy6 (zcw6 e)) e
   exact h pins _ σ H xs _ Q I1 (by simpa using rv) a3
 ·exact hq.elim
theorem ze7 {K:zcu8}{a:Addr}{n:Nat}{t:TGs}{σ:St}{H:Hp}{Q:St->Hp->Prop}{xs:List V}(h:H a=some (.tup xs)) (q:t xs σ H Q) (e:xs.length=n:=by rfl):rUnpA K a n t σ H Q:=by
 unfold rUnpA;exact⟨xs,.inl (SqT.of h),e,q⟩
end
def Chg2 (a c:Addr) (H H':Hp):Prop:=∀ b o,b≠a->b≠c->H b=some o->H' b=some o
theorem Chg2.refl (a c:Addr) (H:Hp):Chg2 a c H H:=fun _ _ _ _ e=>e
theorem Chg2.trans {a c:Addr}{H H1 H2:Hp}(x:Chg2 a c H H1) (y:Chg2 a c H1 H2):Chg2 a c H H2:=fun b o h1 h2 e=>y b o h1 h2 (x b o h1 h2 e)
theorem Chg2.same {a c:Addr}{H H1 H2:Hp}(x:Chg2 a c H H1) (y:Same H1 H2):Chg2 a c H H2:=fun b o h1 h2 e=>y b o (x b o h1 h2 e)
theorem Chg.toL {a c:Addr}{H H1:Hp}(x:Chg a H H1):Chg2 a c H H1:=fun b o h1 _ e=>x b o h1 e
theorem Chg.toR {a c:Addr}{H H1:Hp}(x:Chg c H H1):Chg2 a c H H1:=fun b o _ h2 e=>x b o h2 e
theorem Same.to2 {a c:Addr}{H H1:Hp}(x:Same H H1):Chg2 a c H H1:=fun b o _ _ e=>x b o e
theorem Chg2.at {a c b:Addr}{o:HO}{H H':Hp}(x:Chg2 a c H H') (e:H b=some o) (h1:b≠a) (h2:b≠c):H' b=some o:=x b o h1 h2 e
def cV (n:Nat) (acc:Addr) (Pv:Nat->List V->St->Hp->Prop):Nat->Nat->List V->St->Hp->Prop:=fun i m ys σ H=>m=n - i/\i<=n/\ys.length<=i/\H acc=some (.lst ys)/\Pv i ys σ H
section
variable {K:zcu8}{g:TG}{tt:TT}{te:TE}{σ0:St}{H1:Hp}{Q:VK}
theorem zbe7 {n i m:Nat}{acc:Addr}{Pv:Nat->List V->St->Hp->Prop}{ys:List V}{σ2:St}{v:V}{H5:Hp}(hi:i<n) (hm:m=n - i) (hl:ys.length<=i) (ha:H5 acc=some (.lst ys))
  (q:∀ H6,Chg acc H5 H6->H6 acc=some (.lst (ys++[v]))->Pv (i+1) (ys++[v]) σ2 H6):cPut (cV n acc Pv) acc ys i m σ2 v H5:=by
 unfold cPut
 exact⟨ha,fun H6 hc h6=>⟨n - (i+1),by omega,rfl,by omega,by rw[zcv9,zcw7];omega,h6,q H6 hc h6⟩⟩
theorem zaj7 {lo:Int}{n:Nat}(hn:n<sizeLine) (h:∀ acc H2,H1 acc=none->Same H1 H2->H2 acc=some (.lst [])->∃ Pv:Nat->List V->St->Hp->Prop,Pv 0 [] σ0 H2 /\
  (∀ i m ys σ H,i<n->m=n - i->ys.length<=i->H acc=some (.lst ys)->Pv i ys σ H->g (.int (lo+i)) σ H fun σ2 H3=>tt σ2 H3 fun b H4=>br b (te σ2 H4 fun v H5=>cPut (cV n acc Pv) acc ys i m σ2 v H5) (zau4 (cV n acc Pv) ys i m σ2 H4)) /\
  ∀ ys σ H,H acc=some (.lst ys)->Pv n ys σ H->Q (.ref acc) H):zak8 (Itr lo n) g tt te σ0 H1 Q:=by
 unfold zak8
 intro acc H2 hf hs ha
 obtain⟨Pv,h0,turn,fin⟩:=h acc H2 hf hs ha
 refine⟨cV n acc Pv,⟨n,by simp,zcz3 _,zcw9 _,ha,h0⟩,?_⟩
 rintro i m ys σ H ⟨hm,hi,hl,ha',hp⟩
 refine⟨ha',by omega,?_⟩
 by_cases hlt:i<n
 ·refine .inr ⟨hlt,fun x H' y=>?_⟩
  obtain⟨e,y⟩:=y
  subst e y
  exact turn i m ys σ _ hlt hm hl ha' hp
 ·have e:i=n:=by omega
  subst e
  exact .inl ⟨zcw9 _,fin ys σ H ha' hp⟩
end
section
variable {X:Cx}{K:zcu8}
theorem slK (hK:X.K=K):SlR X (rSlM K):=by subst hK;exact slM
theorem zb8 {a b:Expr}{ta tb:TE}{pos:Pos}(hK:X.K=K) (ha:PE X a ta) (hb:PE X b tb) (hs:zbc8 b:=by exact fun _ _=>rfl):PE X (.Subscript a b pos) (tOp (rIxM K) ta tb):=by subst hK;exact peIx ha hb hs
theorem zq4 (hK:X.K=K):zt2 X (.builtin "len") (rLenM K):=by subst hK;exact cLen
theorem zac5 (hK:X.K=K):zt2 X (.builtin "isinstance") (rIsiM K):=by subst hK;exact cIsi
theorem zan4 (hK:X.K=K) (hc:X.calm=true):zt2 X (.builtin "sum") (rSumM K):=by subst hK;exact cSum hc
theorem zak7 (hK:X.K=K) (hc:X.calm=true):zt2 X (.builtin "all") (rAllM K):=by subst hK;exact cAll hc
theorem zaa4 (hK:X.K=K):zt2 X (.type "list") (zbr7 K):=by subst hK;exact cList
theorem oEqK (hK:X.K=K) (hu:X.A.units+40<cLine):OpR X (compareOp .Eq) (rEqM K):=by subst hK;exact oEq hu
theorem oNeK (hK:X.K=K) (hu:X.A.units+40<cLine):OpR X (compareOp .NotEq) (rNeM K):=by subst hK;exact oNe hu
theorem zj2 {tg l:Expr}{tl:TE}(hK:X.K=K) (hl:PE X l tl):PI X tg l (qiSeq K tl):=by subst hK;exact piSeq hl
theorem zk3 {pos:Pos}{es:List Expr}{k:Nat}{t:TGs}{n:Nat}(hK:X.K=K) (hc:X.calm=true) (h:PGs X es t)
  (hn:(assignEach es X.env).length=n:=by rfl) (hst:(assignEach es X.env).findIdx? (·.1)=none:=by rfl):PG X (.Tuple es k pos) (qgAny K n t):=by subst hK;exact pgAny hc h hn hst
end
end L2
set_option maxHeartbeats 2000000
namespace L2
open PySem PySem.Spec PyProof.Rows
def Ite (K:zcu8) (a:Addr):It:=
 ⟨fun i H=>∃ xs x,SqL K H a xs/\xs[i]?=some x,fun i H v H'=>∃ p y,v=.ref p/\H p=none/\Same H H'/\H' p=some (.tup [.int i,y])/\∀ xs,SqL K H a xs->xs[i]?=some y,fun i H=>∃ xs,SqL K H a xs/\xs.length<=i⟩
theorem zbv6 {P:Program}{w:World}{K:zcu8}{elts:List Expr}{k:Nat}{pos:Pos}(a it e:Addr) (hne:e≠it):Turn P w K (.Tuple elts k pos) (Ite K a) [it,e] e (fun i h=>(∃ old,IsEnum h e it i old)/\h.IsListIter it a i) where
 mem:=by simp
 obj:=fun i h st b hb=>by
  obtain⟨⟨old,he⟩,o,e1,c,d⟩:=st
  rcases zcw3.mp hb with rfl|hb
  ·exact⟨o,e1,fun v z=>by rw[d] at z;cases z⟩
  ·have:b=e:=by simpa using hb
   subst this
   exact⟨_,he,fun v z=>by cases z⟩
 keep:=fun i h h' st kp=>by
  obtain⟨⟨old,he⟩,hi⟩:=st
  exact⟨⟨old,kp e (by simp) _ he⟩,hi.at fun o x=>kp it (by simp) o x⟩
 item:=by
  intro X hP hw hK hc i pins s σ H E I hf st hg
  subst hP hw hK
  obtain⟨⟨old,he⟩,hit⟩:=st
  obtain⟨xs,x,hq,hx⟩:=hg
  obtain⟨its,rv,p,hz⟩:=I.list hq
  obtain⟨u,hu,ru⟩:=rv.get hx
  obtain⟨f0,f1,f2,f3,f4,f5⟩:=hf it (by simp)
  obtain⟨g0,g1,g2,g3,g4,g5⟩:=hf e (by simp)
  refine wpAny_pyNext_enum_item he hit p.isList (x:=u) (by simpa using hu) hne fun h1 heo hit1 ht1 hz1 hk1=>?_
  refine⟨_,rfl,wpAny_letOwnedTupleGo_enum heo fun h2 he2 hs2=>?_⟩
  replace hs2:Heap.SameBut e h1 h2:=hs2
  have hel:e<s.heap.objs.size:=zcw6 he
  have kp:∀ b o,b ∉ [it,e]->s.heap.get? b=some o->h2.get? b=some o:=fun b o hb x=>by
   have b1:b≠it:=fun z=>hb (by simp[z])
   have b2:b≠e:=fun z=>hb (by simp[z])
   exact (hs2.2 b b2).trans (hk1 b o b2 b1 x)
  have ht2:h2.get? s.heap.objs.size=some { cls:=.type "tuple",data:=.seq #[.int i s.toks,u] }:=(hs2.2 _ (zdc0 hel)).trans ht1
  have hfr:H s.heap.objs.size=none:=I.fresh
  have nof:∀ b v,H b=some v->b ∉ [it,e]:=fun b v hb z=>by
   rcases zcw3.mp z with rfl|z
   ·rw[f0] at hb;cases hb
   ·have:b=e:=by simpa using z
    subst this
    rw[g0] at hb;cases hb
  have nlt:∀ b o,s.heap.get? b=some o->b≠s.heap.objs.size:=fun b o x=>zcy6 (zcw6 x)
  have hok:HOk X.prog X.w (upd H s.heap.objs.size (.tup [.int i,x])) h2:=fun b v hb=>by
   by_cases e1:b=s.heap.objs.size
   ·subst e1
    rw[zc7] at hb
    cases hb
    exact⟨by show 2<=sizeLine;decide,[.int i s.toks,u],.cons ⟨_,rfl⟩ (.cons ru .nil),⟨_,ht2,rfl,_,rfl⟩⟩
   ·rw[zc3 e1] at hb
    refine (I.hok b v hb).stay (fun c w' hc q=>?_) (fun c q=>?_) (fun c ys q=>?_)
    ·rcases hc with rfl|hc
     ·exact kp _ _ (nof _ _ hb) q
     ·exact kp _ _ (nof _ _ hc) q
    ·rw[zc3 (za5 q hfr)];exact q
    ·rw[zc3 (za5 q hfr)];exact q
  have chs:∀ b∈[it,e],(b∈X.ex∨X.s₀.heap.objs.size<=b)/\b≠X.env.locals/\(∀ x c,X.env.cells.lookup x=some c->c≠b)/\∀ p∈X.pn++pins,p.1≠b:=fun b hb=>by
   rcases zcw3.mp hb with rfl|hb
   ·exact⟨f3,f1,f4,f5⟩
   ·have:b=e:=by simpa using hb
    subst this
    exact⟨g3,g1,g4,g5⟩
  have I2:Inv X pins σ (upd H s.heap.objs.size (.tup [.int i,x])) { s with heap:=h2,toks:=s.toks+1 }:=
   I.step (g':=s.gens) (d':=s.drawn) (t':=s.toks+1) (ch:=[it,e]) chs (fun b o _ _ hb x _=>kp b o hb x) (fun b o _ _ hb x _=>⟨o.slots,kp b o hb x⟩)
    (fun b o _ x n=>by rw[zc3 (nlt b o x)];exact n) (fun b o hb x=>⟨o,kp b o hb x⟩) (fun b ys q=>by rw[zc3 (za5 q hfr)];exact q) (fun b o v q=>by rw[zc3 (za5 q hfr)];exact q)
    (fun b ps q=>⟨#[],by rw[zc3 (za5 q hfr),q];simp⟩)
    (fun m hm=>by
     obtain⟨o,es,ep,ho,r⟩:=hm
     exact⟨o,es,ep,kp _ o (fun z=>by
      rcases zcw3.mp z with z|z
      ·exact f1 z.symm
      ·exact g1 (by simpa using z:X.env.locals=e).symm) ho,r⟩) hok I.bare
  have hi1:h2.IsListIter it a (i+1):=hit1.extBut hs2.extBut (Ne.symm hne)
  have he3:IsEnum h2 e it ((i+1:Nat):Int) u:=by
   have:((i+1:Nat):Int)=(i:Int)+1:=by push_cast;rfl
   rw[this];exact he2
  refine⟨.ref s.heap.objs.size,_,I2,rfl,⟨_,x,rfl,hfr,Same.upd hfr,zc7,fun ys hy=>by rw[I.list_inj hy hq];exact hx⟩,⟨⟨u,he3⟩,hi1⟩,fun b hb=>?_⟩
  have hb0:H b=none:=(hf b hb).1
  have hlt:b≠s.heap.objs.size:=by
   rcases zcw3.mp hb with rfl|hb
   ·obtain⟨o,ho,_⟩:=hit;exact nlt _ _ ho
   ·have:b=e:=by simpa using hb
    subst this
    exact zcy6 hel
  rw[zc3 hlt];exact hb0
 done:=by
  intro X hP hw hK hc i pins s σ H E I hf st hg
  subst hP hw hK
  obtain⟨⟨old,he⟩,hit⟩:=st
  obtain⟨xs,hq,hx⟩:=hg
  obtain⟨its,rv,p,hz⟩:=I.list hq
  obtain⟨f0,f1,f2,f3,f4,f5⟩:=hf it (by simp)
  have hl:=rv.length
  exact wpAny_pyNext_enum_end (I.ok.hd hc) he hit p.isList (by simp;omega) fun h' eb=>⟨rfl,I.turned (t':=s.toks) (fun b o hb e=>eb b o hb e) f0 f1 f3 f4 f5⟩
 self:=fun _ _ _ _ _ st h=>by
  obtain⟨⟨old,he⟩,_⟩:=st
  exact wpAny_pyIter_enum he h
section
variable {X:Cx}{K:zcu8}
theorem zaz6:bootBuiltins "enumerate"=some (.type "enumerate"):=by decide +kernel
@[irreducible] def rEnum (K:zcu8) (a:Addr) (H:Hp) (R:It->Hp->Prop):Prop:=(∃ xs,SqL K H a xs)/\R (Ite K a) H
def zcf1 (K:zcu8) (ta:TA):TI:=fun σ H R=>ta σ H fun vs H1=>match vs with
 | [.ref a]=>rEnum K a H1 R
 | _=>False
theorem piEnum {elts:List Expr}{k:Nat}{pt:Pos}{a:Expr}{ta:TA}{p pos:Pos}(hm:X.mg "enumerate"=none) (ha:PA X [a] ta) (hg:Gl X "enumerate":=by rfl) (hs:starEach [a] X.env=[(false,eval a X.env)]:=by rfl) :
  PI X (.Tuple elts k pt) (.Call (.Name "enumerate" p) [a] [] pos) (zcf1 X.K ta):=by
 intro pins s σ H R I h
 refine Call_ (zam1 I hg hm zaz6 (PyProof.Rows.callWith_type1 (thn (ha pos pins s σ H _ I h) fun us s1 ⟨vs,H1,I1,r1,q1⟩=>?_) hs rfl))
 dsimp only at q1
 split at q1
 ·rename_i l
  unfold rEnum at q1
  obtain⟨⟨xs,hq⟩,q⟩:=q1
  obtain⟨u,rfl,rx⟩:=zao3 r1
  cases rx
  obtain⟨its,rv,pl,hz⟩:=I1.list hq
  refine call_enumerate_list pl.isList fun h' he hit hsz hk=>?_
  refine wpAny_pyIter_enum he ?_
  have I2:Inv X pins σ H1 { s1 with heap:=h' }:=I1.kept (t':=s1.toks) hk
  refine⟨s1.heap.objs.size+1,[s1.heap.objs.size,s1.heap.objs.size+1],_,Ite X.K l,H1,rfl,I2,zbv6 l _ _ (Nat.succ_ne_self _),⟨⟨_,he⟩,hit⟩,fun b hb=>?_,q⟩
  have hb':s1.heap.objs.size<=b:=by
   rcases zcw3.mp hb with rfl|hb
   ·exact zcw9 _
   ·have:b=s1.heap.objs.size+1:=by simpa using hb
    subst this
    exact Nat.le_succ _
  exact I1.fpOk hb' (I1.hok.fresh hb')
 ·exact q1.elim
theorem zas5 {elts:List Expr}{k:Nat}{pt:Pos}{a:Expr}{ta:TA}{p pos:Pos}(hK:X.K=K) (hm:X.mg "enumerate"=none) (ha:PA X [a] ta) (hg:Gl X "enumerate":=by rfl) (hs:starEach [a] X.env=[(false,eval a X.env)]:=by rfl) :
  PI X (.Tuple elts k pt) (.Call (.Name "enumerate" p) [a] [] pos) (zcf1 K ta):=by subst hK;exact piEnum hm ha hg hs
end
section
variable {K:zcu8}{g:TG}{tb:TS}{D:Ends}{σ:St}{H:Hp}{R:It->Hp->Prop}
theorem zak2 {a:Addr}{xs:List V}(h:H a=some (.lst xs)) (q:R (Ite K a) H):rEnum K a H R:=by unfold rEnum;exact⟨⟨xs,SqL.of h⟩,q⟩
theorem zav0 {a:Addr}{xs:List V}(Pv:Nat->St->Hp->Prop) (h0:Pv 0 σ H) (hl:∀ i σ H,i<=xs.length->Pv i σ H->SqL K H a xs)
  (hs:∀ i y σ H p H',xs[i]?=some y->Pv i σ H->H p=none->Same H H'->H' p=some (.tup [.int i,y])->g (.ref p) σ H' fun σ2 H2=>tb { D with nx:=Pv (i+1),ct:=Pv (i+1),bk:=D.nx } σ2 H2) (hd:∀ σ H,Pv xs.length σ H->D.nx σ H):zaw9 (Ite K a) g tb D σ H:=by
 unfold zaw9
 refine⟨fun i m σ H=>m=xs.length - i/\i<=xs.length/\Pv i σ H,⟨xs.length,by simp,zcz3 _,h0⟩,?_⟩
 rintro i m σ H ⟨rfl,hi,p⟩
 have q:=hl i σ H hi p
 by_cases hlt:i<xs.length
 ·refine .inr ⟨⟨xs,xs[i],q,by simp[hlt]⟩,Pv (i+1),fun σ' H' p'=>⟨xs.length - (i+1),by omega,rfl,hlt,p'⟩,fun x H' y=>?_⟩
  obtain⟨pp,yy,rfl,y1,y2,y3,y4⟩:=y
  exact hs i yy σ H pp H' (y4 xs q) p y1 y2 y3
 ·have e:i=xs.length:=by omega
  subst e
  exact .inl ⟨⟨xs,q,zcw9 _⟩,hd σ H p⟩
end
section
variable {K:zcu8}{g:TG}{tt:TT}{te:TE}{σ0:St}{H1:Hp}{Q:VK}
end
section
variable {X:Cx}{K:zcu8}
theorem zav4 {x:V}:∀ {xs:List V}{us:List Value},Vals xs us->xs.all zu8=true->us.countP (eqU x)=xs.countP fun y=>eqV y x
 | _,_,.nil,_=>rfl
 | y :: xs,u :: us,.cons r t,f=>by
  rw[List.all_cons,zcw5] at f
  rw[List.countP_cons,List.countP_cons,zbn4 r f.1,zav4 t f.2]
@[irreducible] def rCntA (p:Addr) (x:V) (H:Hp) (Q:VK):Prop:=∃ xs,H p=some (.lst xs)/\zu8 x=true/\xs.all zu8=true/\Q (.int (xs.countP fun y=>eqV y x:Nat)) H
def rCntM:Addr->List V->Hp->VK->Prop:=fun p vs H Q=>match vs with
 | [v]=>rCntA p v H Q
 | _=>False
theorem mCount:MtA X "list.count" rCntM:=fun pins s σ H p xs us Q I r h=>by
 unfold rCntM at h
 split at h
 ·rename_i v
  unfold rCntA at h
  obtain⟨ys,h1,h2,h3,h4⟩:=h
  obtain⟨u,rfl,ru⟩:=r.one
  obtain⟨z,its,n,r',hl,e⟩:=I.lstM h1
  refine call_meets F.slot_list_count ⟨_,e,rfl⟩ F.entry_list_count (F.args_list_count_2 _ _) (SeqAt.list_countAt p its.toArray n none #[] u (eqU v)) ⟨e,fun y hy=>zaq6 ru h2 r' h3 y (by simpa using hy),?_⟩
  have ec:its.toArray.toList.countP (eqU v)=ys.countP fun y=>eqV y v:=zav4 r' h3
  exact⟨.int _,H,I.tok _,⟨_,by rw[ec]⟩,h4⟩
 ·exact h.elim
theorem cnt_rd {p:Addr}{x:V}{H:Hp}{Q:VK}{xs:List V}(h:H p=some (.lst xs)) (h1:zu8 x=true) (h2:xs.all zu8=true) (q:Q (.int (xs.countP fun y=>eqV y x:Nat)) H):rCntA p x H Q:=by unfold rCntA;exact⟨xs,h,h1,h2,q⟩
theorem zbu9 {o e:Expr}{to:TE}{t:TA}{apos cpos:Pos}(hK:X.K=K) (ho:PE X o to) (ha:PA X [e] t) (hbase:attributeBase o "count" X.env (eval o X.env)=eval o X.env:=by rfl)
  (hfew:((backTo cpos (starEach [e] X.env)).all (fun x=>!x.1)&&(backToKw cpos (keywordEach [] X.env)).all (fun x=>x.1.isSome)
   && decide ([e].length+([]:List Keyword).length+(if ([]:List Keyword).isEmpty then 0 else 1)<30))=true:=by rfl)
  (hline:(apos.endLine==cpos.line)=true:=by rfl) (hs:starEach [e] X.env=(false,eval e X.env) :: starEach [] X.env:=by rfl) (hplain:(backTo cpos (starEach [] X.env)).any (·.1)=false:=by rfl):PE X (.Call (.Attribute o "count" apos) [e] [] cpos) (qBM K rCntM to t):=by
 subst hK
 exact peBM PySem.F.slot_list_count PySem.F.type_list_count mCount ho ha hbase hfew hline hs hplain
end
end L2
set_option maxHeartbeats 2000000
namespace L2
open PySem PySem.Spec PyProof.Rows
theorem zae0 {xs:List V}{k:Int}(h:0<=k):cutV xs (some k) none=xs.drop k.toNat:=by
 show List.take (xs.length - (if k<0 then (k+(xs.length:Int)).toNat else min k.toNat xs.length)) (List.drop (if k<0 then (k+(xs.length:Int)).toNat else min k.toNat xs.length) xs)=_
 rw[if_neg (by omega)]
 by_cases hk:k.toNat<=xs.length
 ·rw[Nat.min_eq_left hk,zdb9 (by rw[zda6];omega)]
 ·rw[Nat.min_eq_right (by omega),List.drop_of_length_le (by omega),List.drop_of_length_le (by omega),List.take_nil]
theorem zw0 {xs:List V}{k:Int}(h:0<=k):cutV xs none (some k)=xs.take k.toNat:=by
 show List.take ((if k<0 then (k+(xs.length:Int)).toNat else min k.toNat xs.length) - 0) (List.drop 0 xs)=_
 rw[if_neg (by omega),List.drop_zero,Nat.sub_zero]
 by_cases hk:k.toNat<=xs.length
 ·rw[Nat.min_eq_left hk]
 ·rw[Nat.min_eq_right (by omega),zdb9 (zcw9 _),zdb9 (by omega)]
def rowV (n:Nat) (r:Nat->Int):List V:=(List.range n).map fun t=>V.int (r t)
theorem zby1 (n:Nat) (r:Nat->Int):(rowV n r).length=n:=by unfold rowV;simp
theorem zas2 {n:Nat}{r:Nat->Int}{i:Nat}(h:i<n):(rowV n r)[i]?=some (.int (r i)):=by unfold rowV;simp[h]
theorem zy2 (n:Nat) (r:Nat->Int):rowV n r=((List.range n).map r).map V.int:=by unfold rowV;rw[zcy1];rfl
theorem ref_at {ps:List Addr}{i:Int}{p:Addr}(h0:0<=i) (h:ps[i.toNat]?=some p):atI (ps.map V.ref) i=some (.ref p):=by
 have:=zl6 (xs:=ps.map V.ref) (j:=i.toNat) (v:=.ref p) (by rw[zcu9,h];rfl)
 rw[show ((i.toNat:Nat):Int)=i by omega] at this
 exact this
theorem int_at {ns:List Int}{i:Int}{n:Int}(h0:0<=i) (h:ns[i.toNat]?=some n):atI (ns.map V.int) i=some (.int n):=by
 have:=zl6 (xs:=ns.map V.int) (j:=i.toNat) (v:=.int n) (by rw[zcu9,h];rfl)
 rw[show ((i.toNat:Nat):Int)=i by omega] at this
 exact this
theorem zbv2 {xs:List V}{v:V}{n:Nat}(h:xs.length=n+1) (e:xs[n]?=some v):atI xs (-1)=some v:=by
 unfold atI ixN
 rw[if_neg (by decide),if_pos (by omega)]
 show xs[((-1:Int)+xs.length).toNat]?=_
 rw[show ((-1:Int)+xs.length).toNat=n by omega];exact e
theorem ixN_in {n:Nat}{i:Int}(h0:0<=i) (h1:i<n):ixN n i=some i.toNat:=by unfold ixN;rw[if_pos h0,if_pos h1]
structure zan0 (H:Hp) (a:Addr) (ps:List Addr) (n h:Nat) (g:Nat->Nat->Int):Prop where
 out:H a=some (.lst (ps.map V.ref))
 len:ps.length=n
 row:∀ (i:Nat) (p:Addr),ps[i]?=some p->H p=some (.lst (rowV h (g i)))
theorem zan0.same {H H':Hp}{a:Addr}{ps:List Addr}{n h:Nat}{g:Nat->Nat->Int}(G:zan0 H a ps n h g) (s:Same H H'):zan0 H' a ps n h g:=⟨s _ _ G.out,G.len,fun i p e=>s _ _ (G.row i p e)⟩
theorem zan0.some {H:Hp}{a:Addr}{ps:List Addr}{n h:Nat}{g:Nat->Nat->Int}(G:zan0 H a ps n h g) {i:Nat}(hi:i<n):∃ p,ps[i]?=.some p/\H p=.some (.lst (rowV h (g i))):=by
 have hl:i<ps.length:=by rw[G.len];exact hi
 exact⟨ps[i],zcu7 hl,G.row i _ (zcu7 hl)⟩
structure Wk (J:It) (n:Nat) (H1:Hp) (X:Nat->V->Hp->Prop):Prop where
 go:∀ i H,Same H1 H->i<n->J.go i H
 stop:∀ H,Same H1 H->J.stop n H
 yld:∀ i H x H',Same H1 H->i<n->J.yld i H x H'->Same H H'/\X i x H'
theorem Wk.range {lo:Int}{n:Nat}{H1:Hp}:Wk (Itr lo n) n H1 fun i x _=>x=.int (lo+i):=
 ⟨fun i H _ h=>h,fun H _=>zcw9 _,fun i H x H' _ _ y=>by obtain⟨rfl,rfl⟩:=y;exact⟨Same.refl _,rfl⟩⟩
theorem Wk.list {K:zcu8}{a:Addr}{xs:List V}{H1:Hp}(h:SqL K H1 a xs):Wk (Itl K a) xs.length H1 fun i x _=>xs[i]?=some x:=
 ⟨fun i H s hi=>⟨xs,xs[i],s.seq h,by simp[hi]⟩,fun H s=>⟨xs,s.seq h,zcw9 _⟩,fun i H x H' s _ y=>by
  obtain⟨e,y⟩:=y
  subst e
  exact⟨Same.refl _,y xs (s.seq h)⟩⟩
theorem Wk.enum {K:zcu8}{a:Addr}{xs:List V}{H1:Hp}(h:SqL K H1 a xs):Wk (Ite K a) xs.length H1 fun i x H=>∃ p y,x=.ref p/\H p=some (.tup [.int i,y])/\xs[i]?=some y:=
 ⟨fun i H s hi=>⟨xs,xs[i],s.seq h,by simp[hi]⟩,fun H s=>⟨xs,s.seq h,zcw9 _⟩,fun i H x H' s _ y=>by
  obtain⟨p,y,rfl,y1,y2,y3,y4⟩:=y
  exact⟨y2,p,y,rfl,y3,y4 xs (s.seq h)⟩⟩
structure zbe6 (H1 H:Hp) (acc:Addr) (ps:List Addr) (n:Nat) (f:Nat->HO):Prop where
 facc:H1 acc=none
 same:Same H1 H
 out:H acc=some (.lst (ps.map V.ref))
 len:ps.length=n
 nd:ps.Nodup
 nin:acc ∉ ps
 row:∀ i p,ps[i]?=some p->H1 p=none/\H p=some (f i)
theorem zbe6.some {H1 H:Hp}{acc:Addr}{ps:List Addr}{n:Nat}{f:Nat->HO}(F:zbe6 H1 H acc ps n f) {i:Nat}(hi:i<n):∃ p,ps[i]?=.some p/\H p=.some (f i):=by
 have hl:i<ps.length:=by rw[F.len];exact hi
 exact⟨ps[i],zcu7 hl,(F.row i _ (zcu7 hl)).2⟩
section
variable {K:zcu8}{g:TG}{tt:TT}{te:TE}{σ0:St}{H1:Hp}{Q:VK}{J:It}{n:Nat}{X:Nat->V->Hp->Prop}
theorem zam8 (w:Wk J n H1 X) (hn:n<sizeLine) (f:Nat->HO) (Ps:Nat->St->Prop) (h0:Ps 0 σ0)
  (turn:∀ i x σ H (R:St->V->Hp->Prop) (S:St->Hp->Prop),i<n->Same H1 H->X i x H->Ps i σ->(∀ σ2 p H5,H p=none->Same H H5->H5 p=some (f i)->Ps (i+1) σ2->R σ2 (.ref p) H5)->g x σ H fun σ2 H3=>tt σ2 H3 fun b H4=>br b (te σ2 H4 fun v H5=>R σ2 v H5) (S σ2 H4))
  (fin:∀ acc ps H,zbe6 H1 H acc ps n f->Q (.ref acc) H):zak8 J g tt te σ0 H1 Q:=by
 unfold zak8
 intro acc H2 hf hs ha
 refine⟨fun i m ys σ H=>m=n - i/\i<=n/\∃ ps:List Addr,ys=ps.map V.ref/\zbe6 H1 H acc ps i f/\Ps i σ,⟨n,by simp,zcz3 _,[],rfl,⟨hf,hs,ha,rfl,List.nodup_nil,by simp,fun i p e=>by simp at e⟩,h0⟩,?_⟩
 rintro i m ys σ H ⟨rfl,hi,ps,rfl,F,P⟩
 refine⟨F.out,by rw[zcu6,F.len];omega,?_⟩
 by_cases hlt:i<n
 ·refine .inr ⟨w.go i H F.same hlt,fun x H' y=>?_⟩
  obtain⟨s1,x1⟩:=w.yld i H x H' F.same hlt y
  refine turn i x σ H' (fun σ2 v H5=>cPut _ acc (ps.map V.ref) i (n - i) σ2 v H5) (fun σ2 H4=>zau4 _ (ps.map V.ref) i (n - i) σ2 H4) hlt (F.same.trans s1) x1 P ?_
  intro σ2 p H5 fp s5 hp P2
  have fp0:H p=none:=s1.free fp
  have s15:=s1.trans s5
  have na:p≠acc:=Ne.symm (za5 F.out fp0)
  unfold cPut
  refine⟨s15 _ _ F.out,fun H6 c6 h6=>⟨n - (i+1),by omega,rfl,hlt,ps++[p],by rw[zcx8];rfl,⟨F.facc,(F.same.trans s15).chg F.facc c6,by rw[zcx8];exact h6,by rw[zcv9,F.len];rfl,?_,?_,?_⟩,P2⟩⟩
  ·rw[List.nodup_append]
   refine⟨F.nd,by simp,fun a ha b hb=>?_⟩
   have:b=p:=by simpa using hb
   subst this
   obtain⟨k,hk⟩:=zdb0 ha
   exact za5 (F.row k a hk).2 fp0
  ·intro hz
   rcases zcy0.mp hz with hz|hz
   ·exact F.nin hz
   ·exact na (by simpa using hz:acc=p).symm
  ·intro k q e
   by_cases hk:k<ps.length
   ·rw[zcy4 hk] at e
    obtain⟨z1,z2⟩:=F.row k q e
    exact⟨z1,c6 _ _ (fun z=>F.nin (z▸zcv1 e)) (s15 _ _ z2)⟩
   ·rw[zcy8 (by omega)] at e
    have hk2:k - ps.length=0:=by
     have:=(zcv3.mp e).1
     simp at this;omega
    rw[hk2] at e
    have:p=q:=by simpa using e
    subst this
    have:k=i:=by have:=F.len;omega
    subst this
    exact⟨F.same.free fp0,c6 _ _ na hp⟩
 ·have e:i=n:=by omega
  subst e
  exact .inl ⟨w.stop H F.same,fin acc ps H F⟩
theorem zq1 (w:Wk J n H1 X) (hn:n<sizeLine) (f:Nat->V) (p:Nat->Bool) (Ps:Nat->St->Prop) (h0:Ps 0 σ0)
  (turn:∀ i x σ H (R:St->V->Hp->Prop) (S:St->Hp->Prop),i<n->Same H1 H->X i x H->Ps i σ->(p i=true->∀ σ2 H5,Same H H5->Ps (i+1) σ2->R σ2 (f i) H5)->(p i=false->∀ σ2 H5,Same H H5->Ps (i+1) σ2->S σ2 H5) ->
   g x σ H fun σ2 H3=>tt σ2 H3 fun b H4=>br b (te σ2 H4 fun v H5=>R σ2 v H5) (S σ2 H4))
  (fin:∀ acc H,H1 acc=none->Same H1 H->H acc=some (.lst (((List.range n).filter p).map f))->Q (.ref acc) H):zak8 J g tt te σ0 H1 Q:=by
 unfold zak8
 intro acc H2 hf hs ha
 refine⟨fun i m ys σ H=>m=n - i/\i<=n/\ys=((List.range i).filter p).map f/\Same H1 H/\H acc=some (.lst ys)/\Ps i σ,⟨n,by simp,zcz3 _,rfl,hs,ha,h0⟩,?_⟩
 rintro i m ys σ H ⟨rfl,hi,rfl,s,hy,P⟩
 have hlen:(((List.range i).filter p).map f).length<=i:=by
  rw[zcu6]
  have:=List.length_filter_le p (List.range i)
  rwa [zcy3] at this
 refine⟨hy,by omega,?_⟩
 by_cases hlt:i<n
 ·refine .inr ⟨w.go i H s hlt,fun x H' y=>?_⟩
  obtain⟨s1,x1⟩:=w.yld i H x H' s hlt y
  refine turn i x σ H' (fun σ2 v H5=>cPut _ acc _ i (n - i) σ2 v H5) (fun σ2 H4=>zau4 _ _ i (n - i) σ2 H4) hlt (s.trans s1) x1 P ?_ ?_
  ·intro hp σ2 H5 s5 P2
   unfold cPut
   refine⟨s5 _ _ (s1 _ _ hy),fun H6 c6 h6=>⟨n - (i+1),by omega,rfl,hlt,?_,((s.trans s1).trans s5).chg hf c6,h6,P2⟩⟩
   rw[List.range_succ,List.filter_append,zcx8]
   congr 1
   simp[hp]
  ·intro hp σ2 H5 s5 P2
   unfold zau4
   refine⟨n - (i+1),by omega,rfl,hlt,?_,(s.trans s1).trans s5,s5 _ _ (s1 _ _ hy),P2⟩
   rw[List.range_succ,List.filter_append,zcx8]
   simp[hp]
 ·have e:i=n:=by omega
  subst e
  exact .inl ⟨w.stop H s,fin acc H hf s hy⟩
theorem zg8 (n:Nat):(List.range n).filter (fun _=>true)=List.range n:=by simp
end
def ChgS (ps:List Addr) (H H':Hp):Prop:=∀ b o,b ∉ ps->H b=some o->H' b=some o
theorem ChgS.refl (ps:List Addr) (H:Hp):ChgS ps H H:=fun _ _ _ e=>e
theorem ChgS.same {ps:List Addr}{H H1 H2:Hp}(x:ChgS ps H H1) (y:Same H1 H2):ChgS ps H H2:=fun b o h e=>y b o (x b o h e)
theorem EqR.intL {K:zcu8}{H:Hp}{a b:Addr}{xs ys:List Int}(ha:SqL K H a (xs.map V.int)) (hb:SqL K H b (ys.map V.int)):EqR K H 1 (.ref a) (.ref b) (decide (xs=ys)):=by
 by_cases hl:xs.length=ys.length
 ·have h:=EqR.lst (K:=K) (H:=H) (n:=0) (fun j=>decide (xs[j]?=ys[j]?)) ha hb (by simpa using hl) (fun j x y hx hy=>by
   rw[zcu9] at hx hy
   obtain⟨i,e1,rfl⟩:=zcv4.mp hx
   obtain⟨k,e2,rfl⟩:=zcv4.mp hy
   have e:eqV (.int i) (.int k)=decide (xs[j]?=ys[j]?):=by
    rw[e1,e2]
    by_cases z:i=k
    ·subst z;simp[eqV]
    ·simp[eqV,z]
   rw[← e]
   exact EqR.flat rfl rfl)
  have e:(List.range (xs.map V.int).length).all (fun j=>decide (xs[j]?=ys[j]?))=decide (xs=ys):=by
   rw[zdd2,zcx1,decide_eq_true_iff]
   constructor
   ·intro q
    apply zda7
    intro j
    by_cases hj:j<xs.length
    ·exact of_decide_eq_true (q j (zda2.mpr (by simpa using hj)))
    ·rw[zcx4 (by omega),zcx4 (by omega)]
   ·rintro rfl j _
    exact decide_eq_true rfl
  rw[e] at h
  exact h
 ·have:decide (xs=ys)=false:=decide_eq_false fun e=>hl (by rw[e])
  rw[this]
  exact EqR.lstN ha hb (by simpa using hl)
theorem zbi1 (n:Nat):(List.range n).all (fun _=>true)=true:=by simp
theorem EqR.allT {K:zcu8}{H:Hp}{a b:Addr}{xs ys:List V}{n:Nat}(ha:SqL K H a xs) (hb:SqL K H b ys) (hl:xs.length=ys.length) (h:∀ (j:Nat) (x y:V),xs[j]?=some x->ys[j]?=some y->EqR K H n x y true):EqR K H (n+1) (.ref a) (.ref b) true:=by
 have:=EqR.lst (fun _=>true) ha hb hl h
 rwa [zbi1] at this
theorem EqR.rows {K:zcu8}{H:Hp}{a b:Addr}{ps qs:List Addr}(ha:SqL K H a (ps.map V.ref)) (hb:SqL K H b (qs.map V.ref)) (hl:ps.length=qs.length) (h:∀ (i:Nat) (p q:Addr),ps[i]?=some p->qs[i]?=some q->∃ xs:List Int,SqL K H p (xs.map V.int)/\SqL K H q (xs.map V.int)):EqR K H 2 (.ref a) (.ref b) true:=by
 refine EqR.allT ha hb (by simpa using hl) fun j x y hx hy=>?_
 rw[zcu9] at hx hy
 obtain⟨p,e1,rfl⟩:=zcv4.mp hx
 obtain⟨q,e2,rfl⟩:=zcv4.mp hy
 obtain⟨xs,h1,h2⟩:=h j p q e1 e2
 have:=EqR.intL h1 h2
 rwa [decide_eq_true rfl] at this
end L2
set_option maxHeartbeats 2000000
namespace L2
open PySem PySem.Spec PyProof.Rows
section
variable {X:Cx}{tg:Expr}
end
section
variable {K:zcu8}{g:TG}{tb:TS}{D:Ends}{σ:St}{H:Hp}{R:It->Hp->Prop}
end
section
variable {X:Cx}{K:zcu8}
def qBM0 (K:zcu8) (r:Addr->List V->Hp->VK->Prop) (to:TE):TE:=fun σ H Q=>to σ H fun x H1=>match x with
 | .ref p=>zaz2 K p H1 (r p [] H1 Q)
 | _=>False
theorem zbf6 {α β:Type}{f g:α->Option β}:∀ {l:List α},(∀ a∈l,f a=g a)->l.filterMap f=l.filterMap g
 | [],_=>rfl
 | a :: l,h=>by
  rw[zdc7,zdc7,h a zda8,zbf6 fun b hb=>h b (zcz5 _ hb)]
theorem zar2 (its:List Value):slicePick its.toArray none none (some (-1))=its.reverse.toArray:=by
 unfold slicePick sliceBounds sliceRange
 simp only[Option.getD_some,show ¬ (-1:Int)>0 by decide,if_false,zcv8]
 by_cases h0:its.length=0
 ·have:its=[]:=List.length_eq_zero_iff.mp h0
  subst this
  rfl
 ·have hgt:((its.length:Int) - 1) > -1:=by omega
  simp only[hgt,if_true]
  have e1:(((its.length:Int) - 1 - -1 - -1 - 1) / (- -1)).toNat=its.length:=by
   rw[show -(-1:Int)=1 by decide,Int.ediv_one];omega
  rw[e1]
  congr 1
  rw[List.filterMap_map]
  have hk:∀ k∈List.range its.length,((fun x=>its.toArray[x]?)∘fun k:Nat=>((its.length:Int) - 1+-1*(k:Int)).toNat) k=(some∘fun k=>its.getD (its.length - 1 - k) .none) k:=fun k hk=>by
   have hk:=zda2.mp hk
   show its.toArray[((its.length:Int) - 1+-1*(k:Int)).toNat]?=some (its.getD (its.length - 1 - k) .none)
   rw[show ((its.length:Int) - 1+-1*(k:Int)).toNat=its.length - 1 - k by omega,List.getElem?_toArray,zcv2,zcu7 (by omega)]
   rfl
  rw[zbf6 hk,List.filterMap_eq_map]
  apply zda7
  intro i
  by_cases hi:i<its.length
  ·rw[zcu9,zcz9 hi,List.getElem?_reverse hi,zcu7 (by omega)]
   show some (its.getD (its.length - 1 - i) .none)=_
   rw[zcv2,zcu7 (by omega)]
   rfl
  ·rw[zcx4 (by simp;omega),zcx4 (by simp;omega)]
@[irreducible] def rRvA (K:zcu8) (a:Addr) (H:Hp) (Q:VK):Prop:=∃ xs,SqL K H a xs/\∀ p H',H p=none->Same H H'->H' p=some (.lst xs.reverse)->Q (.ref p) H'
def qRv (K:zcu8) (te:TE):TE:=fun σ H Q=>te σ H fun x H1=>match x with
 | .ref a=>rRvA K a H1 Q
 | _=>False
theorem peRv {e:Expr}{te:TE}{p1 p2 p3 pos:Pos}(hK:X.K=K) (he:PE X e te):PE X (.Subscript e (.Slice none none (some (.UnaryOp .USub (.Constant (.int 1) 0 p1) p3)) p2) pos) (qRv K te):=by
 subst hK
 intro pins s σ H Q I h
 refine Subscript_ (thn (he pins s σ H _ I h) fun v s1 ⟨x,H1,I1,r1,q1⟩=>?_)
 dsimp only at q1
 split at q1
 case h_2=>exact q1.elim
 rename_i a
 unfold rRvA at q1
 obtain⟨xs,hx,q⟩:=q1
 refine wpAny_Slice ?_
 rw[evalPart_none]
 refine wpAny_pure (wpAny_pure ?_)
 rw[evalPart_some]
 refine thn (zaa3 (X:=X) uNeg za2 pins s1 σ H1 (fun y H2=>y=.int (-1)/\H2=H1) I1 ⟨rfl,rfl⟩) fun u s2 ⟨y,H2,I2,r2,q2⟩=>?_
 obtain⟨rfl,rfl⟩:=q2
 obtain⟨t,rfl⟩:=r2
 cases r1
 have I4:Inv X pins σ H2 { s2 with heap:=s2.heap.push { cls:=.type "slice",data:=.fields #[.none,.none,.int (-1) t] } }:=I2.kept (t':=s2.toks) fun b ob q=>zcv0 _ q
 obtain⟨its,r,ht,hz⟩:=I4.list hx
 have hlen:=r.length
 refine tail_any (ops:=[.ref a,.ref s2.heap.objs.size]) ht.isList.typeIs F.slot_list_getitem.lookup ?_ (by with_unfolding_all rfl)
 refine wpAny_getItem_list_slice ht.isList (Heap.IsSliceOf.new ..) .none .none (.int (-1) t) (by simp) ?_ (by rw[zcv8]<;>omega)
 rw[zar2]
 have hf:=I4.hok.fresh (zcw9 _)
 refine⟨.ref _,_,I4.laid (t':=s2.toks) (o:=.lst xs.reverse) (fun b ob q=>zcv0 _ q) (zcw9 _) ?_,rfl,q _ _ hf (Same.upd hf) zc7⟩
 exact⟨by rw[zdc8];exact hz,_,0,r.reverse,zcx2 _ rfl⟩
theorem rv_rd {a:Addr}{H:Hp}{Q:VK}{xs:List V}(h:SqL K H a xs) (q:∀ p H',H p=none->Same H H'->H' p=some (.lst xs.reverse)->Q (.ref p) H'):rRvA K a H Q:=by unfold rRvA;exact⟨xs,h,q⟩
theorem ptW {e:Expr}{t:TT}(h:PW X e t):PT X e t:=h.pt
end
end L2
set_option maxHeartbeats 2000000
namespace L2
open PySem PySem.Spec PyProof.Rows
def ExAt (B h:Heap) (e:Addr) (cls:Value) (dx:Option Addr):Prop:=
 ∃ (oe:Obj) (vs:Array Value),h.get? e=some oe/\oe.cls=cls/\oe.dict=dx/\oe.data=.fields vs/\1<vs.size /\
  (vs[1]?=some .none∨∃ (T:Addr) (oT:Obj) (ts:Array Value),vs[1]?=some (.ref T)/\B.get? T=none/\T≠e/\h.get? T=some oT/\oT.data=.fields ts/\3<ts.size/\ts[3]?=some .none)
def Th (h h':Heap):Prop:=∀ b o,h.get? b=some o->∃ o',h'.get? b=some o'
structure FlyX (B:Heap) (l:List Env) (e:Addr) (cls:Value) (dx:Option Addr) (h:Heap):Prop where
 stays:B.StaysIn h
 new:B.get? e=none
 frames:h.FunFrames B l
 ex:ExAt B h e cls dx
section
variable {M:Model}{A:Around}{E:Value->Shared->Prop}{s:Shared}{B:Heap}{env:Env}{outer:List Env}{L e:Addr}{cls:Value}{dx:Option Addr}{Q:Unit->Shared->Prop}
theorem zai7 (f:Array Value->Array Value) (o:Obj):(Obj.mapFields f o).cls=o.cls/\(Obj.mapFields f o).dict=o.dict:=by
 obtain⟨c,d,dt,sl⟩:=o
 cases dt<;>exact⟨rfl,rfl⟩
theorem zaw4 {head:Value}{hn:Bool}{oe:Obj}{vs:Array Value}(hfr:A.frames=some (env :: outer)) (hf:env.frame=some L) (f1:B.StaysIn s.heap) (f2:B.get? e=none) (f3:s.heap.FunFrames B (env :: outer))
  (he:s.heap.get? e=some oe) (hc:oe.cls=cls) (hdx:oe.dict=dx) (hd:oe.data=.fields vs) (hsz:1<vs.size)
  (hQ:∀ h',FlyX B (env :: outer) e cls dx h'->s.heap.UpToSlots h'->Th s.heap h'->Q () { s with heap:=h' }) :
  wpAny M A (do let a ← frameOf env;let pl ← entryPlaceOf L hn;let b ← EntryCells.newEntry head a .none (rawInt L) .none pl;setField (.ref e) 1 b) (fun _ s1=>wpAny M A (setFlight (.ref e) none) Q E s1) E s:=by
 have hene:e ∉ (env :: outer).filterMap (·.frame):=fun hm=>by
  obtain⟨_,o,ho,hnf⟩:=f3.mem hm
  rw[he] at ho
  cases ho
  exact hnf vs hd
 refine wpAny_bind (wpAny_frameOf_fun hfr f3 hf fun g hg=>wpAny_bind (wpAny_entryPlaceOf fun pl hpl=>?_))
 refine wpAny_bind (wpAny_newObj_type ?_ (hpl.sizeOk5 _ _ _ _ _))
 have e1:g.get? e=some oe:=(hg.2.1 e hene).trans he
 have lt1:=zcw6 e1
 generalize hO:({ cls:=.type "traceback",data:=.fields ([head,.ref L,.none,rawInt L,.none]++(if pl.isEmpty then List.replicate 6 Value.none else pl)).toArray }:Obj)=O
 have hOd:O.data=.fields ([head,.ref L,.none,rawInt L,.none]++(if pl.isEmpty then List.replicate 6 Value.none else pl)).toArray:=by rw[← hO]
 have hOz:3<([head,.ref L,.none,rawInt L,.none]++(if pl.isEmpty then List.replicate 6 Value.none else pl)).toArray.size:=by simp
 have hOf:O.isFreed=false:=by rw[← hO];rfl
 generalize ([head,.ref L,.none,rawInt L,.none]++(if pl.isEmpty then List.replicate 6 Value.none else pl)).toArray=ts at hOd hOz
 have e2:(g.push O).get? e=some oe:=zcv0 _ e1
 have t2:(g.push O).get? g.objs.size=some O:=zcx2 _ hOf
 have nT:g.objs.size≠e:=zdc0 lt1
 refine wpAny_setField e2 hd hsz ?_
 have d3:=Obj.data_mapFields hd (fun a=>a.setIfInBounds 1 (Value.ref g.objs.size))
 have e3:=zcz8 (Obj.mapFields fun a=>a.setIfInBounds 1 (Value.ref g.objs.size)) e2 (Obj.isFreed_of_fields d3)
 have t3:=(zcx7 (g.push O) (Obj.mapFields fun a=>a.setIfInBounds 1 (Value.ref g.objs.size)) (Ne.symm nT)).trans t2
 unfold setFlight
 refine wpAny_bind (wpAny_field e3 d3 (x:=.ref g.objs.size) (by simp[hsz]) ?_)
 rw[if_pos (by simp)]
 refine wpAny_setField t3 hOd hOz (hQ _ ?_ ?_ ?_)
 ·have kp:∀ b o,b≠e->g.get? b=some o->(((g.push O).update e (Obj.mapFields fun a=>a.setIfInBounds 1 (Value.ref g.objs.size))).update g.objs.size (Obj.mapFields fun a=>a.setIfInBounds 3 Value.none)).get? b=some o:=fun b o hb hz=>by
   rw[zcx7 _ _ (zdc0 (zcw6 hz)),zcx7 _ _ (Ne.symm hb)]
   exact zcv0 _ hz
  have d4:=Obj.data_mapFields hOd (fun a=>a.setIfInBounds 3 Value.none)
  have t4:=zcz8 (Obj.mapFields fun a=>a.setIfInBounds 3 Value.none) t3 (Obj.isFreed_of_fields d4)
  have e4:=(zcx7 ((g.push O).update e (Obj.mapFields fun a=>a.setIfInBounds 1 (Value.ref g.objs.size))) (Obj.mapFields fun a=>a.setIfInBounds 3 Value.none) nT).trans e3
  have pf:=zai7 (fun a=>a.setIfInBounds 1 (Value.ref g.objs.size)) oe
  refine⟨fun b o hb=>kp b o (fun z=>by rw[z,f2] at hb;cases hb) ((hg.2.1 b fun hm=>by rw[(f3.mem hm).1] at hb;cases hb).trans (f1 b o hb)),f2,f3.of_keeps fun b o hb hnf=>?_,_,_,e4,pf.1.trans hc,pf.2.trans hdx,d3,by simpa using hsz,.inr ⟨_,_,_,by simp[hsz],?_,nT,t4,d4,by simpa using hOz,by simp[hOz]⟩⟩
  ·obtain⟨sl,hs⟩:=hg.2.2 b o hb
   refine⟨_,kp b _ (fun z=>?_) hs,rfl⟩
   rw[z,he] at hb
   cases hb
   exact hnf vs hd
  ·cases q:B.get? g.objs.size with
   | none=>rfl
   | some o=>
    have z1:=f1 _ _ q
    have z2:=(hg.2.1 _ fun hm=>by rw[(f3.mem hm).1] at q;cases q).trans z1
    exact absurd (zcw6 z2) (zdc9 _)
 ·intro b o hb hnf
  obtain⟨sl,hs⟩:=hg.2.2 b o hb
  refine⟨sl,?_⟩
  rw[zcx7 _ _ (zdc0 (zcw6 hs)),zcx7 _ _ (fun z=>?_)]
  ·exact zcv0 _ hs
  ·rw[← z,he] at hb
   cases hb
   exact hnf vs hd
 ·intro b o hb
  by_cases hbe:b=e
  ·subst hbe
   exact⟨_,(zcx7 _ _ nT).trans e3⟩
  ·obtain⟨sl,hs⟩:=hg.2.2 b o hb
   refine⟨{ o with slots:=sl },?_⟩
   rw[zcx7 _ _ (zdc0 (zcw6 hs)),zcx7 _ _ (Ne.symm hbe)]
   exact zcv0 _ hs
theorem zbg8 (hfr:A.frames=some (env :: outer)) (hf:env.frame=some L) (F:FlyX B (env :: outer) e cls dx s.heap)
  (hQ:∀ h',FlyX B (env :: outer) e cls dx h'->s.heap.UpToSlots h'->Th s.heap h'->Q () { s with heap:=h' }):wpAny M A (noteFrame (.ref e) env) (fun _ s1=>wpAny M A (setFlight (.ref e) none) Q E s1) E s:=by
 obtain⟨f1,f2,f3,oe,vs,he,hc,hdx,hd,hsz,hT⟩:=F
 unfold noteFrame
 rw[hf]
 rcases hT with h1|⟨T,oT,ts,h1,bT,nT,gT,dT,zT,vT⟩
 ·refine wpAny_bind (wpAny_field he hd h1 ?_)
  dsimp only
  rw[if_neg (by simp)]
  exact zaw4 hfr hf f1 f2 f3 he hc hdx hd hsz hQ
 ·refine wpAny_bind (wpAny_field he hd h1 ?_)
  dsimp only
  rw[if_pos (by simp)]
  refine wpAny_bind (wpAny_field gT dT vT ?_)
  rw[if_neg (by simp[rawInt])]
  refine wpAny_bind (wpAny_setField gT dT zT ?_)
  have ne:∀ b o,s.heap.get? b=some o->(∀ vs,o.data≠.fields vs)->b≠T:=fun b o hb hnf z=>by
   rw[z,gT] at hb
   cases hb
   exact hnf ts dT
  have kp:∀ b o,b≠T->s.heap.get? b=some o->(s.heap.update T (Obj.mapFields fun a=>a.setIfInBounds 3 Value.none)).get? b=some o:=fun b o hb hz=>by
   rw[zcx7 _ _ (Ne.symm hb)];exact hz
  refine zaw4 (s:={ s with heap:=s.heap.update T (Obj.mapFields fun a=>a.setIfInBounds 3 Value.none) }) hfr hf (fun b o hb=>kp b o (fun z=>by rw[z,bT] at hb;cases hb) (f1 b o hb)) f2 (f3.of_keeps fun b o hb hnf=>⟨o,kp b o (ne b o hb hnf) hb,rfl⟩)
   (kp e oe (Ne.symm nT) he) hc hdx hd hsz fun h' F' U W=>hQ h' F' (fun b o hb hnf=>U b o (kp b o (ne b o hb hnf) hb) hnf) fun b o hb=>?_
  by_cases hbT:b=T
  ·subst hbT
   exact W b _ (zcz8 (Obj.mapFields fun a=>a.setIfInBounds 3 Value.none) gT (Obj.isFreed_of_fields (Obj.data_mapFields dT _)))
  ·exact W b o (kp b o hbT hb)
theorem zci9 (F:FlyX B outer e cls dx s.heap) (hQ:∀ h',FlyX B outer e cls dx h'->s.heap.UpToSlots h'->Th s.heap h'->Q () { s with heap:=h' }):wpAny M A (setFlight (.ref e) none) Q E s:=by
 obtain⟨f1,f2,f3,oe,vs,he,hc,hdx,hd,hsz,hT⟩:=F
 unfold setFlight
 rcases hT with h1|⟨T,oT,ts,h1,bT,nT,gT,dT,zT,vT⟩
 ·refine wpAny_bind (wpAny_field he hd h1 ?_)
  rw[if_neg (by simp)]
  exact wpAny_pure (hQ s.heap ⟨f1,f2,f3,oe,vs,he,hc,hdx,hd,hsz,.inl h1⟩ (Heap.UpToSlots.refl _) fun b o hb=>⟨o,hb⟩)
 ·refine wpAny_bind (wpAny_field he hd h1 ?_)
  rw[if_pos (by simp)]
  refine wpAny_setField gT dT zT ?_
  have kp:∀ b o,b≠T->s.heap.get? b=some o->(s.heap.update T (Obj.mapFields fun a=>a.setIfInBounds 3 Value.none)).get? b=some o:=fun b o hb hz=>by
   rw[zcx7 _ _ (Ne.symm hb)];exact hz
  have ne:∀ b o,s.heap.get? b=some o->(∀ vs,o.data≠.fields vs)->b≠T:=fun b o hb hnf z=>by
   rw[z,gT] at hb
   cases hb
   exact hnf ts dT
  have d4:=Obj.data_mapFields dT (fun a=>a.setIfInBounds 3 Value.none)
  have t4:=zcz8 (Obj.mapFields fun a=>a.setIfInBounds 3 Value.none) gT (Obj.isFreed_of_fields d4)
  exact hQ _ ⟨fun b o hb=>kp b o (fun z=>by rw[z,bT] at hb;cases hb) (f1 b o hb),f2,f3.of_keeps fun b o hb hnf=>⟨o,kp b o (ne b o hb hnf) hb,rfl⟩,oe,vs,kp e oe (Ne.symm nT) he,hc,hdx,hd,hsz,
   .inr ⟨T,_,_,h1,bT,nT,t4,d4,by simpa using zT,by simp[zT]⟩⟩ (fun b o hb hnf=>⟨o.slots,kp b o (ne b o hb hnf) hb⟩) fun b o hb=>(Classical.em (b=T)).elim (fun z=>by subst z;exact⟨_,t4⟩) fun z=>⟨o,kp b o z hb⟩
theorem zbv1 (hfr:A.frames=some (env :: outer)) (hf:env.frame=some L) (F:FlyX B (env :: outer) e cls dx s.heap)
  (hQ:∀ h',FlyX B outer e cls dx h'->s.heap.UpToSlots h'->Th s.heap h'->Q () { s with heap:=h' }):wpAny M A (leaving env (.ref e)) Q E s:=by
 unfold leaving
 exact wpAny_bind (zbg8 hfr hf F fun h' F' U W=>hQ h' ⟨F'.stays,F'.new,F'.frames.2.2,F'.ex⟩ U W)
end
structure zaa2 (X:Cx) (pins:List (Addr×Obj)) (σ:St) (H:Hp) (B:Heap) (e:Addr) (cls:Value) (dx:Option Addr) (s:Shared):Prop where
 inv:Inv X pins σ H s
 hok:HOk X.prog X.w H B
 fly:FlyX B X.stack e cls dx s.heap
 kb:∀ b o,X.s₀.heap.get? b=some o->X.H₀ b=none->b ∉ X.fs->b ∉ X.ex->B.get? b=some o
 en:∀ o,X.s₀.heap.get? e=some o->e∈X.ex
def CXR (P:Program) (w:World):CXT:=fun outer H s E e s'=>∃ (ea:Addr) (cls:Value) (dx:Option Addr) (H':Hp) (B:Heap),e=.ref ea/\s'.os=s.os/\AllBare s'.gens/\HOk P w H' B/\FlyX B outer ea cls dx s'.heap /\
 Un (frs outer) [] H H' s.heap s'.heap/\(∀ b o,s.heap.get? b=some o->H b=none->b ∉ frs outer->B.get? b=some o)/\(∀ o,s.heap.get? ea≠some o)/\E cls dx H'
section
variable {X:Cx}{pins:List (Addr×Obj)}{σ:St}{H:Hp}{s s':Shared}
theorem zad7 (I:Inv X pins σ H s) {b:Addr}{o:Obj}(e:X.s₀.heap.get? b=some o) (h:b ∉ X.fs):b ∉ frs X.stack:=fun hm=>by
 rcases zcw3.mp (I.stkSub b hm) with z|z
 ·exact absurd (zcx9 (zcw6 e) I.ok.above) (by rw[z];exact zdc9 _)
 ·exact h z
theorem zaa2.of_call {E:XK}{e:Value}(I:Inv X pins σ H s) (h:CXR X.prog X.w X.stack H s E e s'):∃ (ea:Addr) (cls:Value) (dx:Option Addr) (H':Hp) (B:Heap),e=.ref ea/\zaa2 X pins σ H' B ea cls dx s'/\E cls dx H':=by
 obtain⟨ea,cls,dx,H',B,rfl,os,bare,hok,fly,un,kb,en,hE⟩:=h
 refine⟨ea,cls,dx,H',B,rfl,⟨I.call' os un (hok.kept fly.stays) bare (fun b hb=>absurd hb (by simp)),hok,fly,fun b o e n h1 h2=>?_,fun o e=>?_⟩,hE⟩
 ·have k:=I.base.keep b o e n h1 h2
  exact kb b o k (I.base.free b o e n h2) (zad7 I e h1)
 ·apply Classical.byContradiction
  intro hx
  obtain⟨o',k⟩:=I.base.there ea o e hx
  exact en o' k
theorem zaa2.of_raise {e:Addr}{cls:Value}{args:List Value}{h':Heap}{t':Nat}(I:Inv X pins σ H s) (m:Heap.MadeExcOf s.heap h' e cls args):zaa2 X pins σ H (PySem.W.hideAll s.heap (frs X.stack)) e cls none { s with heap:=h',toks:=t' }:=by
 have nofr:∀ b o,H b=some o->b ∉ frs X.stack:=fun b o hb hm=>by rw[I.stkFree b hm] at hb;cases hb
 refine⟨I.kept m.keeps,fun a o ha=>?_,⟨fun b o hb=>m.keeps _ _ (PySem.W.of_hideAll _ hb),?_,?_,?_⟩,fun b o e n h1 h2=>?_,fun o hz=>?_⟩
 ·refine (I.hok a o ha).stay (fun b u hb hu=>zdc6 _ hu ?_) (fun _ q=>q) fun _ _ q=>q
  rcases hb with rfl|hb
  ·exact nofr _ _ ha
  ·exact nofr _ _ hb
 ·cases q:(PySem.W.hideAll s.heap (frs X.stack)).get? e with
  | none=>rfl
  | some o=>
   have:=PySem.W.of_hideAll _ q
   rw[m.new] at this
   cases this
 ·refine Heap.FunFrames.of_keeps (fun b o hb _=>⟨o,m.keeps b o hb,rfl⟩) (PySem.W.funFrames_hide I.stack fun env he a hf=>?_)
  exact List.mem_filterMap.mpr ⟨env,he,hf⟩
 ·obtain⟨t,h1,_,_⟩:=m.there
  exact⟨_,_,h1,rfl,rfl,rfl,by simp,.inl rfl⟩
 ·exact zdc6 _ (I.base.keep b o e n h1 h2) (zad7 I e h1)
 ·apply Classical.byContradiction
  intro hx
  obtain⟨o',k⟩:=I.base.there _ o hz hx
  rw[m.new] at k
  cases k
def XOut (X:Cx) (E:XK):Prop:=∀ (pins:List (Addr×Obj)) (σ:St) (H:Hp) (B:Heap) (e:Addr) (cls:Value) (dx:Option Addr) (s:Shared),zaa2 X pins σ H B e cls dx s->E cls dx H->X.xe (.ref e) s
theorem zbi7 {E:XK}(hx:XOut X E):zaq0 (CXR X.prog X.w) X E:=fun pins σ H s e s' I h=>by
 obtain⟨ea,cls,dx,H',B,rfl,F,hE⟩:=zaa2.of_call I h
 exact hx _ _ _ _ _ _ _ _ F hE
theorem zce9 {P:Program}{w:World}:zaq0 (CXR P w) X E0:=fun _ _ _ _ _ _ _ h=>by
 obtain⟨_,_,_,_,_,_,_,_,_,_,_,_,_,h⟩:=h
 exact (show False from h).elim
end
theorem xout {P:Program}{w:World}{K:zcu8}{mg:Str->Option Value}{base:Heap}{N:List Str}{qual:Str}{scope:Scope}{f:Addr}{cd:Value}{A:Around}{outer:List Env}{s:Shared}{H:Hp}{E:XK} :
  XOut (cxOf (CXR P w) P w K mg base N qual scope f cd A outer s H E) E:=fun pins σ H' B e cls dx s' F hE=>by
 have I:=F.inv
 refine zbv1 (outer:=outer) I.ok.frames (rfl:(envOfC qual scope s.heap.objs.size f cd).frame=some s.heap.objs.size) F.fly fun h' F' U W=>?_
 have kb:∀ b o,s.heap.get? b=some o->H b=none->b ∉ frs outer->B.get? b=some o:=fun b o e n h1=>F.kb b o e n h1 (by exact zcx3)
 refine⟨e,cls,dx,H',B,rfl,I.os,I.bare,F.hok,F',?_,kb,fun o z=>absurd (F.en o z) (by exact zcx3),hE⟩
 have un:Un (frs outer) [] H H' s.heap s'.heap:=I.base
 refine⟨fun b o e n h1 _=>F'.stays _ _ (kb b o e n h1),fun b o e n h1 h2=>?_,un.free,fun b o e h2=>?_,un.tups,un.frzs,un.tbls⟩
 ·obtain⟨sl,k⟩:=un.slot b o e n h1 h2
  obtain⟨_,o2,ho2,hd⟩:=I.ok.funs.mem h1
  have:o2=o:=Option.some.inj (ho2.symm.trans e)
  subst this
  obtain⟨sl',k'⟩:=U b _ k hd
  exact⟨sl',k'⟩
 ·obtain⟨o',k⟩:=un.there b o e h2
  exact W b o' k
section
variable {X:Cx}{x:Str}{C:Addr}{bm:List Value}{B newId initId:String}{np cpos pos:Pos}{e₀:Expr}{rest:List Expr}{t:TA}{E:XK}
def qRaise (C:Addr) (E:XK) (t:TA):TS:=fun _ σ H=>t σ H fun vs H1=>vs.length<=sizeLine/\E (.ref C) none H1
theorem zbw5 (O:OwnCls x C bm newId X.mg X.base) (FB:ExcBaseFacts B newId initId bm) (hc:X.calm=true) (hout:XOut X E) (ha:PA X (e₀ :: rest) t) (hg:Gl X x:=by rfl) (hd:(x==("__debug__":Str))=false:=by decide)
  (he:starEach (e₀ :: rest) X.env=(false,eval e₀ X.env) :: starEach rest X.env:=by rfl) (hpl:(backTo cpos (starEach rest X.env)).any (·.1)=false:=by rfl) :
  PS X (.Raise (some (.Call (.Name x np) (e₀ :: rest) [] cpos)) none pos) (qRaise C E t):=by
 intro pins s σ H D I h
 obtain⟨tl,N,nm,q,bs,hdct,sn,sub,ab,col,dd,k0,k1,k2,k3,k5,mN,hC,hN,hni,T⟩:=O.obj
 refine wpAny_Raise_call_subT (C:=C) (nm:=nm) (q:=q) (N:=N) (bs:=bs) (bm:=tl) (hdct:=hdct) (sn:=sn) (sub:=sub) (ab:=ab) (col:=col) (dd:=dd) (k0:=k0) (k1:=k1) (k2:=k2) (k3:=k3) (k5:=k5) FB (mN:=mN)
  (T.hasType FB.hasBase) (I.ok.hd hc) (by rw[he];show (false || (backTo cpos (starEach rest X.env)).any (·.1))=false;rw[hpl];rfl) hni (zae8 I hg O.bound ⟨rfl,?_⟩ hd)
 have hA:=ha cpos pins s σ H _ I h
 rw[he] at hA ⊢
 refine Calls.evalArgs_plain (thn hA fun us s2 ⟨vs,H1,I1,r,hz,q⟩=>⟨rfl,by rw[← r.length];exact hz,I1.bk _ _ hC,hN.keeps I1.bk,T.keeps I1.bk,fun h' e m=>?_⟩)
 exact hout _ _ _ _ _ _ _ _ (zaa2.of_raise (t':=s2.toks) I1 m) q
end
section
variable {P:Program}{w:World}{K:zcu8}{mg:Str->Option Value}{base:Heap}
theorem Fun.okR {x qual:Str}{st:Stmt}{f:Addr}{fd:FuncData}{N ps:List Str}{k:Nat}{sp:Sp}(F:Fun K x qual st f fd) (S:zb3 N ps (za3 st)) (len:∀ vs H Q E,sp vs H Q E->vs.length=ps.length)
  (hbody:∀ (cdv:Value) (A:Around) (outer:List Env) (s:Shared) (H:Hp) (vs:List V) (Q:VK) (E:XK),Room k (A.deeper (envOfC qual (za3 st) s.heap.objs.size f cdv))->XOut (cxOf (CXR P w) P w K mg base N qual (za3 st) f cdv A outer s H E) E->sp vs H Q E ->
   ∃ t,PSs (cxOf (CXR P w) P w K mg base N qual (za3 st) f cdv A outer s H E) (za9 st) t/\t { nx:=fun _ H'=>Q .non H',rt:=Q } (zau2 N vs) H):FnOk P w K mg base (CXR P w) (k+1) f fd ps sp:=by
 obtain⟨oc,od,kV,doc,pm,an,cdv,ct,osl,rfl,lk,hcd⟩:=F.ex
 refine fn_of lk hcd S len fun A outer s H vs Q E hr hsp=>?_
 exact hbody cdv A outer s H vs Q E hr xout hsp
end
end L2
set_option maxHeartbeats 4000000
namespace L2
open PySem PySem.Spec PyProof.Rows
structure ExcK (K:zcu8) (D:Addr):Prop where
 h1:zcy7 K (.ref D) "__getattribute__"=some (some (.builtin "BaseException.__getattribute__"))
 h2:zcy7 K (.ref D) "__getattr__"=some none
 h3:zcy7 K (.ref D) "__class__"=some (some (.builtin "object.__class__"))
 h4:zcw8 K (.ref D) (.type "BaseException")=some true
 h5:PySem.W.mroIn K D (.type "object")=some true
def ExcIs (e:Addr) (cls:Value) (dx:Option Addr) (h:Heap):Prop:=∃ (oe:Obj) (vs:Array Value),h.get? e=some oe/\oe.cls=cls/\oe.dict=dx/\oe.data=.fields vs
section
open PySem.W PySem.Calls
theorem zbr5 {prog:Program}{w:World}{A:Around}{E:Value->Shared->Prop}{K:Frag}{D e:Addr}{h:Heap}{g d t os} {Q:Option Value->Shared->Prop}(X:K.In h) (x:ExcIs e (.ref D) none h) (k:ExcK K D)
  (hq:Q (some (.ref D)) ⟨h,g,d,t+1,os⟩):wpAny (model prog w) A (getAttr? (.ref e) "__class__") Q E ⟨h,g,d,t,os⟩:=by
 obtain⟨oe,vs,he,hc,hdx,hd⟩:=x
 obtain⟨h1,h2,h3,h4,h5⟩:=k
 have L0:Looks (model prog w) h (typeOf (.ref e)) (.ref D):=hc▸(Looks.ld he).andThen .now
 have L1:=looks_findIn (M:=model prog w) X h1
 have L2:=looks_findIn (M:=model prog w) X h2
 have L3:=looks_findIn (M:=model prog w) X h3
 have hx:(onTheHeap (Value.ref D)&&Value.builtin "BaseException.__getattribute__"==Value.builtin "object.__getattribute__")=false:=by
  have z:(Value.builtin "BaseException.__getattribute__"==Value.builtin "object.__getattribute__")=false:=by decide +kernel
  rw[z];rfl
 have I:InstAt h e oe D none:=⟨he,hc,by unfold notCls;rw[hd],by rw[hdx];trivial⟩
 have L4:Looks (model prog w) h (isInstance (.ref e) (.type "BaseException")) true:=L0.andThen (looks_subIn X h4)
 have FB:=PySem.F.attrBase_ValueError
 have f3:=FB.ga.bind (.ref e)
 have kd:builtinKind "BaseException.__getattribute__"=some .slot:=by decide +kernel
 have sid:splitId "BaseException.__getattribute__"=some ("BaseException","__getattribute__"):=by decide +kernel
 have aok:=PySem.F.args_bexc_ga (.ref e) (.str "__class__" t)
 have f5:=KF.type_class
 have f6:=PySem.F.slot_gs_get.lookup
 have f7:=PySem.F.slot_gs_set.lookup
 unfold getAttr? getAttrBy? getAttrBy
 refine wpAny_bind (wpAny_mkText (wpAny_bind (wpAny_attempt (wpAny_holding (wpAny_bind (L0.at (wpAny_bind (L1.at ?_))))))))
 dsimp only
 rw[if_neg (by rw[hx];decide)]
 unfold getAttrByItsOwn hookBefore
 repeat (any_goals (first|assumption|with_reducible refine L0.at ?_|with_reducible refine L1.at ?_|with_reducible refine L2.at ?_|with_reducible refine L3.at ?_|wp_step))
 refine codeAny_call_builtin FB.ga.plain PySem.F.entry_bexc_ga ?_
 simp only[checkBuiltinCall,kd,sid]
 refine wpAny_bind (L4.at ?_)
 repeat (any_goals (first|assumption|with_reducible refine L0.at ?_|with_reducible refine L1.at ?_|with_reducible refine L2.at ?_|with_reducible refine L3.at ?_|wp_step))
 refine class_get (ox:=oe) (od:=none) X I h5 ?_
 repeat (any_goals (first|assumption|wp_step))
theorem zbz5 {K:Frag}{e D:Addr}(k:ExcK K D) (hcl:(clsIn K D).isSome=true):KitX K (.ref e) (.ref D) (ExcIs e (.ref D) none) where
 ty:=fun M h _ p=>by
  obtain⟨oe,vs,he,hc,_⟩:=p
  exact hc▸(Looks.ld he).andThen .now
 it:=fun M h X p=>by
  obtain⟨cd,hcd⟩:=zdb4.mp hcl
  unfold clsIn at hcd
  split at hcd
  ·rename_i ho
   intro A' Q' E' s' kk q
   unfold isType loadHead
   exact wpAny_bind (wpAny_loadPart (kk _ _ (X _ _ ho)) (wpAny_pure q))
  ·cases hcd
 ne:=fun h tp dd its n sl X htp=>by
  refine Bool.eq_false_iff.mpr fun q=>?_
  have z:D=tp:=Value.ref.inj (beq_iff_eq.mp q)
  subst z
  obtain⟨cd,hcd⟩:=zdb4.mp hcl
  unfold clsIn at hcd
  split at hcd
  ·rename_i ho
   cases (X _ _ ho).symm.trans htp
  ·cases hcd
 ca:=fun {prog w A E Q s} X p q=>by
  obtain⟨hh,g,d,t,os⟩:=s
  exact zbr5 X p k q
end
abbrev excO (ea:Addr) (cls:Value) (dx:Option Addr):HO:=.ext (ExcIs ea cls dx)
section
variable {X:Cx}{K:zcu8}{H:Hp}{Q:VK}
@[irreducible] def zay9 (K:zcu8) (x c:V) (H:Hp) (Q:VK):Prop:=zaa0 K x c H Q∨∃ (ea D:Addr) (b:Bool),x=.ref ea/\H ea=some (excO ea (.ref D) none)/\ExcK K D/\(zcy5 K D).isSome=true/\(∀ cv,RelV c cv->zcv5 K (.ref D) cv=some b)/\Q (.bl b) H
def zce2 (K:zcu8):List V->Hp->VK->Prop:=fun xs H Q=>match xs with
 | [x,c]=>zay9 K x c H Q
 | _=>False
theorem cIsiX (hK:X.K=K):zt2 X (.builtin "isinstance") (zce2 K):=by
 subst hK
 intro pins s σ H xs us Q I r h
 unfold zce2 at h
 split at h
 ·unfold zay9 at h
  rcases h with h|⟨ea,D,b,rfl,h1,h2,h3,h4,h5⟩
  ·exact cIsi pins s σ H _ us Q I r h
  ·obtain⟨u,w,rfl,r1,r2⟩:=zbu6 r
   cases r1
   obtain⟨p,_⟩:=I.hok ea _ h1
   exact zda1 (zbz5 h2 h3) I.kIn p (h4 _ r2) (fun z=>nomatch z) fun tk=>⟨.bl b,H,I.tok _,rfl,h5⟩
 ·exact h.elim
theorem zck6 {ea D C:Addr}{b:Bool}(h1:H ea=some (excO ea (.ref D) none)) (h2:ExcK K D) (h3:(zcy5 K D).isSome=true) (e:zcv5 K (.ref D) (.ref C)=some b) (q:Q (.bl b) H):zay9 K (.ref ea) (.ref C) H Q:=by
 unfold zay9;exact .inr ⟨ea,D,b,rfl,h1,h2,h3,fun cv r=>by cases r;exact e,q⟩
theorem zcb8 {ea D:Addr}{n:String}{b:Bool}(h1:H ea=some (excO ea (.ref D) none)) (h2:ExcK K D) (h3:(zcy5 K D).isSome=true) (e:zcv5 K (.ref D) (.type n)=some b) (q:Q (.bl b) H):zay9 K (.ref ea) (.ty n) H Q:=by
 unfold zay9;exact .inr ⟨ea,D,b,rfl,h1,h2,h3,fun cv r=>by cases r;exact e,q⟩
theorem zaq4:bootBuiltins "ValueError"=some (.type "ValueError"):=by decide +kernel
end
section
variable {X:Cx}{pins:List (Addr×Obj)}{σ:St}{H:Hp}{s:Shared}
def ExcP (X:Cx) (pins:List (Addr×Obj)) (σ:St) (EX:XK) (e:Value) (s':Shared):Prop:=∃ (H':Hp) (B:Heap) (ea:Addr) (cls:Value) (dx:Option Addr),e=.ref ea/\zaa2 X pins σ H' B ea cls dx s'/\(∀ p∈X.pn++pins,B.get? p.1=some p.2)/\EX cls dx H'
def PSX (X:Cx) (st:Stmt) (t:XK->TS):Prop:=∀ (pins:List (Addr×Obj)) (s:Shared) (σ:St) (H:Hp) (D:Ends) (EX:XK),Inv X pins σ H s->t EX D σ H->wpAny (model X.prog X.w) X.A (exec st X.env) (SP X pins D) (ExcP X pins σ EX) s
def PSXs (X:Cx) (l:List Stmt) (t:XK->TS):Prop:=∀ (pins:List (Addr×Obj)) (s:Shared) (σ:St) (H:Hp) (D:Ends) (EX:XK),Inv X pins σ H s->t EX D σ H->wpAny (model X.prog X.w) X.A (execs l X.env) (SP X pins D) (ExcP X pins σ EX) s
theorem zch3 {EX:XK}{e:Value}{s':Shared}(I:Inv X pins σ H s) (h:CXR X.prog X.w X.stack H s EX e s'):ExcP X pins σ EX e s':=by
 obtain⟨ea,cls,dx,H',B,rfl,os,bare,hok,fly,un,k,en,hE⟩:=h
 refine⟨H',B,ea,cls,dx,rfl,⟨I.call' os un (hok.kept fly.stays) bare (fun b hb=>absurd hb (by simp)),hok,fly,fun b o e n h1 h2=>?_,fun o e=>?_⟩,fun p hp=>?_,hE⟩
 ·exact k b o (I.base.keep b o e n h1 h2) (I.base.free b o e n h2) (zad7 I e h1)
 ·apply Classical.byContradiction
  intro hx
  obtain⟨o',k'⟩:=I.base.there ea o e hx
  exact en o' k'
 ·obtain⟨q1,q2,q3,q4,_⟩:=I.pin p hp
  exact k _ _ q1 q2 fun hm=>(zcw3.mp (I.stkSub _ hm)).elim q3 q4
theorem zaa2.move {B:Heap}{e:Addr}{cls:Value}{dx:Option Addr}{h':Heap}(F:zaa2 X pins σ H B e cls dx s) (hp:∀ p∈X.pn++pins,B.get? p.1=some p.2) (F':FlyX B X.stack e cls dx h') (U:s.heap.UpToSlots h') (W:Th s.heap h') :
  zaa2 X pins σ H B e cls dx { s with heap:=h' }:=by
 have I:=F.inv
 have cell:∀ {c:Addr}{v:Option Value},s.heap.IsCell c v->h'.IsCell c v:=fun ⟨o,ho,hd⟩=>by
  obtain⟨sl,z⟩:=U _ o ho fun vs q=>by rw[hd] at q;cases q
  exact⟨_,z,hd⟩
 refine⟨⟨I.ok,I.os,I.bare,⟨fun b o e n h1 h2=>F'.stays _ _ (F.kb b o e n h1 h2),fun b o e n h1 h2=>?_,I.base.free,fun b o e h2=>?_,I.base.tups,I.base.frzs,I.base.tbls⟩,?_,fun x c hc=>?_,I.free,I.freeC,fun p hpp=>?_,F.hok.kept F'.stays,I.len⟩,F.hok,F',F.kb,F.en⟩
 ·obtain⟨sl,k⟩:=I.base.slot b o e n h1 h2
  obtain⟨_,o2,ho2,hd⟩:=I.ok.funs.mem h1
  have:o2=o:=Option.some.inj (ho2.symm.trans e)
  subst this
  obtain⟨sl',k'⟩:=U b _ k hd
  exact⟨sl',k'⟩
 ·obtain⟨o',k⟩:=I.base.there b o e h2
  exact W b o' k
 ·obtain⟨m,hn,hl⟩:=I.loc
  refine⟨m,U.ns hn,fun i x v h1 h2 h3=>?_⟩
  obtain⟨u,r,q⟩:=hl i x v h1 h2 h3
  refine⟨u,r,?_⟩
  rcases q with q|⟨k,c,e,z⟩
  ·exact .inl q
  ·exact .inr ⟨k,c,e,cell z⟩
 ·obtain⟨v,z⟩:=I.cell x c hc
  exact⟨v,cell z⟩
 ·obtain⟨_,q2,q3,q4,q5⟩:=I.pin p hpp
  exact⟨F'.stays _ _ (hp p hpp),q2,q3,q4,q5⟩
theorem callX {k j:Nat}{x:Str}{ps:List Str}{sp:Sp}{p pos:Pos}{e:Expr}{es:List Expr}{t:TA}(F:Def X.prog X.w X.K X.mg X.base (CXR X.prog X.w) k x ps sp) (hr:Room j X.A) (ha:PA X.nox (e :: es) t) (hk:k<=j:=by decide) (hg:Gl X x:=by rfl)
  (hdb:(x==("__debug__":Str))=false:=by decide) (he:starEach (e :: es) X.env=(false,eval e X.env) :: starEach es X.env:=by rfl) (hpl:(backTo pos (starEach es X.env)).any (·.1)=false:=by rfl)
  {Q:VK}{EX:XK}(I:Inv X pins σ H s) (h:t σ H fun vs H1=>sp vs H1 Q EX):wpAny (model X.prog X.w) X.A (eval (.Call (.Name x p) (e :: es) [] pos) X.env) (EP X pins σ Q) (ExcP X pins σ EX) s:=by
 obtain⟨f,fd,F1,F2,F3,F4⟩:=F.ex
 refine wpAny_Call_Name_kw (zae8 I hg F2 ?_ hdb)
 have hA:=ha pos pins s σ H _ (I.wish _) h
 refine PySem.W.callWith_K (h₀:=X.base) I.ok.mod.kin F3 (wpAny_mono hA (fun us s1 h1=>?_) fun _ _ z=>z.elim) he hpl
 obtain⟨vs,H1,I1,r,q⟩:=h1
 have I1:Inv X pins σ H1 s1:=I1.unwish
 refine⟨I1.kIn,?_⟩
 have hl:us.length=ps.length:=by rw[← r.length];exact F1.len _ _ _ _ q
 have hb:=F4 s1 us I1.kIn (by rw[List.append_nil];exact hl)
 rw[List.append_nil] at hb
 refine wpAny_call (codeAny_mono (F1.run X.A X.stack s1 H1 ⟨us,[]⟩ us vs Q EX (hr.mono hk) I1.env0 hb r q) fun r s' hq=>?_)
 cases r with
 | error e=>exact zch3 I1 hq
 | ok fl=>
  cases fl with
  | ret u=>exact I1.after hq
  | next=>exact False.elim hq
  | brk=>exact False.elim hq
  | cont=>exact False.elim hq
def qxCall (sp:Sp) (t:TA):XK->TS:=fun EX D σ H=>t σ H fun vs H1=>sp vs H1 (fun _ H2=>D.nx σ H2) EX
theorem zch6 {k j:Nat}{x:Str}{ps:List Str}{sp:Sp}{p pos spos:Pos}{e:Expr}{es:List Expr}{t:TA}(F:Def X.prog X.w X.K X.mg X.base (CXR X.prog X.w) k x ps sp) (hr:Room j X.A) (ha:PA X.nox (e :: es) t) (hk:k<=j:=by decide) (hg:Gl X x:=by rfl)
  (hdb:(x==("__debug__":Str))=false:=by decide) (he:starEach (e :: es) X.env=(false,eval e X.env) :: starEach es X.env:=by rfl) (hpl:(backTo pos (starEach es X.env)).any (·.1)=false:=by rfl)
  (hs:swapsWith (.Call (.Name x p) (e :: es) [] pos) none spos.line X.env=pure false:=by rfl):PSX X (.Expr (.Call (.Name x p) (e :: es) [] pos) spos) (qxCall sp t):=by
 intro pins s σ H D EX I h
 exact wpAny_Expr_any (wpAny_mono (callX F hr ha hk hg hdb he hpl I h) (fun v s1 ⟨x,H1,I1,r1,q1⟩=>⟨σ,H1,I1,q1⟩) fun _ _ z=>z) I.quiet hs
theorem psxOne {st:Stmt}{t:XK->TS}(h:PSX X st t):PSXs X [st] t:=by
 intro pins s σ H D EX I hq
 refine wpAny_execs_cons (wpAny_mono (h pins s σ H D EX I hq) (fun f s1 q=>?_) fun _ _ z=>z)
 cases f with
 | next=>exact wpAny_execs_nil q
 | brk=>exact q
 | cont=>exact q
 | ret u=>exact q
theorem zk0.ex {P:Program}{w:World}{H:Hp}{h:Heap}{a:Addr}{o:HO}(x:zk0 P w H h a o):∃ u,h.get? a=some u:=by
 cases o with
 | lst xs=>obtain⟨_,_,_,_,e⟩:=x;exact⟨_,e⟩
 | tup xs=>obtain⟨_,_,_,ob,e,_⟩:=x;exact⟨ob,e⟩
 | dK kvs=>obtain⟨_,_,_,_,ob,_,_,e,_⟩:=x;exact⟨ob,e⟩
 | dT kvs=>obtain⟨_,_,_,_,ob,_,_,e,_⟩:=x;exact⟨ob,e⟩
 | set S n=>obtain⟨ob,_,_,_,e,_⟩:=x;exact⟨ob,e⟩
 | ins C dx fs=>obtain⟨_,_,_,e,_⟩:=x;exact⟨_,e⟩
 | own y=>exact x
 | xd fs=>obtain⟨_,⟨ob,_,_,e,_⟩,_⟩:=x;exact⟨ob,e⟩
 | rng lo hi=>obtain⟨_,_,_,e⟩:=x;exact⟨_,e⟩
 | frz ob u=>obtain⟨e,_⟩:=x;exact⟨_,e⟩
 | tbl ps=>exact⟨_,(show h.get? a=some _ from x)⟩
 | met f y=>exact⟨_,(show h.get? a=some _ from x)⟩
 | ext φ=>obtain⟨_,e,_⟩:=x;exact e
theorem zaa2.track {B:Heap}{ea:Addr}{cls:Value}{dx:Option Addr}(F:zaa2 X pins σ H B ea cls dx s) (hp:∀ p∈X.pn++pins,B.get? p.1=some p.2) (hex:X.ex=[]) :
  H ea=none/\Inv X pins σ (upd H ea (excO ea cls dx)) s:=by
 have I:=F.inv
 obtain⟨oe,vs,he,hc,hdx,hd,_⟩:=F.fly.ex
 have hn:H ea=none:=by
  cases q:H ea with
  | none=>rfl
  | some o=>
   obtain⟨u,z⟩:=zk0.ex (F.hok ea o q)
   rw[F.fly.new] at z
   cases z
 have nl:∀ {b:Addr}{o:Obj},s.heap.get? b=some o->(∀ vs,o.data≠.fields vs)->b≠ea:=fun hb hnf z=>by
  rw[z,he] at hb
  cases hb
  exact hnf vs hd
 have n0:∀ {b:Addr}{o:Obj},X.s₀.heap.get? b=some o->b≠ea:=fun hb z=>by
  have:=F.en _ (z▸hb)
  rw[hex] at this
  cases this
 refine⟨hn,I.ok,I.os,I.bare,⟨I.base.keep,I.base.slot,fun b o e n h1=>?_,I.base.there,fun b xs q=>?_,fun b o u q=>?_,fun b ps q=>?_⟩,I.loc,I.cell,?_,fun x c hcl=>?_,fun p hpp=>?_,fun b o q=>?_,I.len⟩
 ·rw[zc3 (n0 e)];exact I.base.free b o e n h1
 ·have z:=I.base.tups b xs q
  rw[zc3 (za5 z hn)];exact z
 ·have z:=I.base.frzs b o u q
  rw[zc3 (za5 z hn)];exact z
 ·obtain⟨more,z⟩:=I.base.tbls b ps q
  exact⟨more,by rw[zc3 (za5 z hn)];exact z⟩
 ·obtain⟨m,⟨o,es,ep,ho,hdd,_⟩,_⟩:=I.loc
  rw[zc3 (nl ho fun vs q=>by rw[hdd] at q;cases q)];exact I.free
 ·obtain⟨v,o,ho,hdd⟩:=I.cell x c hcl
  rw[zc3 (nl ho fun vs q=>by rw[hdd] at q;cases q)];exact I.freeC x c hcl
 ·obtain⟨q1,q2,q3,q4,q5⟩:=I.pin p hpp
  refine⟨q1,?_,q3,q4,q5⟩
  rw[zc3 fun z=>?_]
  ·exact q2
  ·have:=hp p hpp
   rw[z,F.fly.new] at this
   cases this
 ·by_cases hb:b=ea
  ·subst hb
   rw[zc7] at q
   cases q
   refine⟨⟨oe,vs,he,hc,hdx,hd⟩,⟨oe,he⟩,fun h1 h2 x k=>?_⟩
   obtain⟨o1,v1,e1,r⟩:=x
   exact⟨o1,v1,k _ e1,r⟩
  ·rw[zc3 hb] at q
   refine (I.hok b o q).stay (fun _ _ _ z=>z) (fun c z=>?_) fun c xs z=>?_
   ·rw[zc3 (za5 z hn)];exact z
   ·rw[zc3 (za5 z hn)];exact z
theorem zbm5 {M:Model}{A:Around}{E:Value->Shared->Prop}{i:Nat}{n:Str}{v:V}{Q:Unit->Shared->Prop}(I:Inv X pins σ H s) (hN:X.N.Nodup) (hi:X.N[i]?=some n) (hl:X.env.kindOf n=some .local) (hv:σ[i]?=some (some v))
  (h:∀ s',Inv X pins (σ.set i none) H s'->Q () s'):wpAny M A (unbindName X.env n) Q E s:=by
 obtain⟨m,hn,hlk⟩:=id I.loc
 have hcls:(X.env.scope.kind==.class || (X.env.scope.kind==.module&&X.env.locals != X.env.globals))=false:=by rw[I.ok.kind];rfl
 obtain⟨u,_,q⟩:=hlk i n v hi hv (.inl hl)
 have hm:m n=some u:=by
  rcases q with q|⟨k,_⟩
  ·exact q.2
  ·rw[hl] at k
   rcases k with k|k<;>cases k
 refine wpAny_unbindName_local hl hn hm hcls fun h' u' hn' hs=>h _ ?_
 obtain⟨oL,_,_,hoL,_⟩:=id hn
 have below:∀ {b:Addr}{o:Obj},X.s₀.heap.get? b=some o->b≠X.env.locals:=fun e=>zcy6 (zcx9 (zcw6 e) I.ok.above)
 refine⟨I.ok,I.os,I.bare,⟨fun b o e n hb hx=>(hs.2 b (below e)).trans (I.base.keep b o e n hb hx),fun b o e n hb hx=>?_,I.base.free,fun b o e hx=>?_,I.base.tups,I.base.frzs,I.base.tbls⟩,⟨_,hn',fun j y v' e1 e2 e3=>?_⟩,fun y c e=>?_,I.free,I.freeC,fun p hp=>?_,fun b ob e=>?_,by rw[zdd4];exact I.len⟩
 ·obtain⟨sl,z⟩:=I.base.slot b o e n hb hx
  exact⟨sl,(hs.2 b (below e)).trans z⟩
 ·obtain⟨o',z⟩:=I.base.there b o e hx
  exact⟨o',(hs.2 b (below e)).trans z⟩
 ·by_cases hj:j=i
  ·subst hj
   rw[zda5 (by rw[I.len];exact (zcv3.mp hi).1)] at e2
   cases e2
  ·rw[zda9 (Ne.symm hj)] at e2
   obtain⟨w',r',q⟩:=hlk j y v' e1 e2 e3
   refine⟨w',r',?_⟩
   rcases q with ⟨k,z⟩|⟨k,c,z,zz⟩
   ·refine .inl ⟨k,?_⟩
    have:y≠n:=fun z=>hj (zar1 hN e1 (z▸hi))
    show (if y=n then u' else m y)=_
    rw[if_neg this];exact z
   ·exact .inr ⟨k,c,z,zz.sameBut hs (I.cne y c z)⟩
 ·obtain⟨w',z⟩:=I.cell y c e
  exact⟨w',z.sameBut hs (I.cne y c e)⟩
 ·obtain⟨e,n,ne,nf,d⟩:=I.pin p hp
  exact⟨(hs.2 p.1 ne).trans e,n,ne,nf,d⟩
 ·refine (I.hok b ob e).stay (fun c w' hc q=>(hs.2 c ?_).trans q) (fun _ q=>q) fun _ _ q=>q
  rintro rfl
  rcases hc with z|hc
  ·rw[← z,I.free] at e;cases e
  ·rw[I.free] at hc;cases hc
def zap6 (X:Cx) (e:Value):Cx:={ X with A:=X.A.mark (some e),calm:=false,xe:=fun _ _=>False }
theorem Inv.mark (I:Inv X pins σ H s) (e:Value):Inv (zap6 X e) pins σ H s:=
 ⟨⟨I.ok.mod,I.ok.kind,I.ok.glob,I.ok.blt,I.ok.above,I.ok.inj,I.ok.has,I.ok.cab,(fun z=>absurd (show false=true from z) zcw2),I.ok.frames,I.ok.stk,I.ok.exf,I.ok.bs,I.ok.bsz,I.ok.noex,I.ok.exfs,I.ok.funs,I.ok.frf⟩,I.os,I.bare,I.base,I.loc,I.cell,I.free,I.freeC,I.pin,I.hok,I.len⟩
theorem Inv.unmark {e:Value}(I0:Inv X pins σ H s) {σ':St}{H':Hp}{s':Shared}(I:Inv (zap6 X e) pins σ' H' s'):Inv X pins σ' H' s':=
 ⟨I0.ok,I.os,I.bare,I.base,I.loc,I.cell,I.free,I.freeC,I.pin,I.hok,I.len⟩
@[irreducible] def zbf7 (K:zcu8) (CH:Addr) (D:Ends) (σ:St) (ke ky:Nat) (cls:Value) (dx:Option Addr) (H':Hp):Prop:=PySem.W.exmOne K cls (.ref CH)=some true /\
 ∀ ea H'',H' ea=none->Same H' H''->H'' ea=some (excO ea cls dx)->D.nx ((σ.set ke none).set ky (some (.ref ea))) H''
def qTry (K:zcu8) (CH:Addr) (t:XK->TS) (ke ky:Nat):TS:=fun D σ H=>t (fun cls dx H'=>zbf7 K CH D σ ke ky cls dx H') D σ H
theorem psTry {K:zcu8}{body:List Stmt}{t:XK->TS}{hx n y:Str}{CH:Addr}{ke ky:Nat}{np p1 p2 p3 hpos pos:Pos}(hK:X.K=K) (hN:X.N.Nodup) (hcl:X.mg hx=some (.ref CH)) (hb:PSXs X body t)
  (hke:X.N[ke]?=some n:=by rfl) (hky:X.N[ky]?=some y:=by rfl) (hkk:ke≠ky:=by decide) (hln:X.env.kindOf n=some .local:=by rfl) (hly:X.env.kindOf y=some .local:=by rfl) (hgl:Gl X hx:=by rfl) (hdb:(hx==("__debug__":Str))=false:=by decide)
  (hnd:(n==("__debug__":Str))=false:=by decide) (hnc:(n==("__classdict__":Str))=false:=by decide)
  (hstk:X.stack=X.env :: X.outer:=by rfl) (hfr:X.env.frame=some X.env.locals:=by rfl) (hex:X.ex=[]:=by rfl) (hs:swapsWith (.Name n p2) (some (.Name y p1)) p3.line X.env=pure false:=by rfl) :
  PS X (.Try body [.ExceptHandler (some (.Name hx np)) (some n) [.Assign [.Name y p1] (.Name n p2) p3] hpos] [] [] pos) (qTry K CH t ke ky):=by
 subst hK
 intro pins s σ H D I h
 rw[arm_exec_Try]
 refine wpAny_bind (wpAny_standAt (wpAny_tryStmt_except (wpAny_mono (hb pins s σ H D _ I h) (fun f s1 q=>?_) fun e s1 q=>?_)))
 ·cases f with
  | next=>exact wpAny_execs_nil q
  | brk=>exact q
  | cont=>exact q
  | ret u=>exact q
 ·obtain⟨H1,B,ea,cls,dx,rfl,F,hp,q⟩:=q
  unfold zbf7 at q
  obtain⟨hm,q⟩:=q
  have I1:=F.inv
  refine zbg8 (L:=X.env.locals) (outer:=X.outer) (by rw[← hstk];exact I1.ok.frames) hfr (by rw[← hstk];exact F.fly) fun h2 F2 U2 W2=>?_
  rw[← hstk] at F2
  have F2:=F.move hp F2 U2 W2
  have I2:=F2.inv
  refine wpAny_handleBy_cons (codeAny_handlers_test ?_) (by intro z;cases z)
  refine zae8 (X:=zap6 X (.ref ea)) (I2.mark _) hgl hcl ?_ hdb
  have LT:PySem.W.Looks (model X.prog X.w) h2 (typeOf (.ref ea)) cls:=by
   obtain⟨oe,vs,he,hc,_⟩:=F2.fly.ex
   exact hc▸(PySem.W.Looks.ld he).andThen .now
  refine (PySem.W.exm_one I2.kIn LT hm).here ?_
  refine codeAny_handlers_suite_as ?_
  refine zci9 F2.fly fun h3 F3 U3 W3=>?_
  have F3:=F2.move hp F3 U3 W3
  obtain⟨hn,I3⟩:=F3.track hp hex
  have hlσ:ke<σ.length:=by rw[I1.len];exact (zcv3.mp hke).1
  refine zz2 I3 hN hke (.inl hln) (v:=.ref ea) rfl (fun s4 I4=>?_) (.inr hln)
  have pn:PS (zap6 X (.ref ea)) (.Assign [.Name y p1] (.Name n p2) p3) (tAsg (qV ke) (zbi8 ky)):=zbu5 (X:=zap6 X (.ref ea)) hN hky (.inl hly) (pq (X:=zap6 X (.ref ea)) ke hke (.inl hln) hnd hnc) hs (.inr hly)
  refine wpAny_mono (za6 pn pins s4 _ _ { nx:=fun σ' H'=>σ'=(σ.set ke (some (.ref ea))).set ky (some (.ref ea))/\H'=upd H1 ea (excO ea cls dx),rt:=fun _ _=>False } (I4.mark (.ref ea)) ?_) (fun f s5 q5=>?_) fun _ _ z=>(show False from z).elim
  ·show qV ke (σ.set ke (some (.ref ea))) _ _
   unfold qV
   rw[zda5 hlσ]
   exact⟨rfl,rfl⟩
  ·cases f with
   | next=>
    obtain⟨σ5,H5,I5,rfl,rfl⟩:=q5
    have I5:=Inv.unmark I1 I5
    refine wpAny_bind (wpAny_bindName (zz2 I5 hN hke (.inl hln) (v:=.non) rfl (fun s6 I6=>?_) (.inr hln)))
    refine wpAny_onRaise (zbm5 (v:=.non) I6 hN hke hln (by rw[zda5 (by rw[zdd4,zdd4];exact hlσ)]) fun s7 I7=>?_)
    refine⟨_,_,I7,?_⟩
    rw[List.set_set,List.set_comm _ _ (Ne.symm hkk),List.set_set]
    exact q ea _ hn (Same.upd hn) zc7
   | brk=>obtain⟨_,_,_,z⟩:=q5;exact False.elim z
   | cont=>obtain⟨_,_,_,z⟩:=q5;exact False.elim z
   | ret u=>obtain⟨_,_,_,_,_,z⟩:=q5;exact False.elim z
end
end L2
set_option maxHeartbeats 4000000
namespace L2
open PySem PySem.Spec PyProof.Rows
section
open PySem.W
theorem zca7 {K:Frag}{h:Heap}{mg:Str->Option Value}{x:Str}{C:Addr}{bmB:List Value}{newId:String}(X:K.In h) (G:h.Ns mainGlobals mg) (e:nsIn K mainGlobals x=some (some (.ref C))) (q:excIn K C bmB newId=true):OwnCls x C bmB newId mg h:=by
 have bd:=mg_of X G e
 unfold excIn at q
 split at q
 case h_2=>cases q
 rename_i dd cd sl ho
 split at q
 case h_2=>cases q
 rename_i C1 bm k0 k1 k2 k3 n k5 hm hs
 simp only[zcw5,beq_iff_eq,Bool.not_eq_true'] at q
 obtain⟨⟨⟨⟨⟨q1,q2⟩,q3⟩,q4⟩,q5⟩,q6⟩:=q
 have z:sl=#[k0,k1,k2,k3,some (.builtin n),k5]:=by
  cases sl with
  | mk l=>rw[show l=[k0,k1,k2,k3,some (.builtin n),k5] from hs]
 cases cd with
 | mk nm bs mro ns qn hd sn sub ab col del=>
  have hm:mro=.ref C1 :: bm:=hm
  have q3:del=false:=q3
  subst q1 q2 z hm q3
  exact⟨bd,bm,ns,nm,qn,bs,hd,sn,sub,ab,col,dd,k0,k1,k2,k3,k5,_,X _ _ ho,.of_isNs (isNs_of_in X q5),nsMap_none_of_in X q5 q6,tail_of_in X q4⟩
theorem zae3 {K:Frag}{t:Value}{C:Addr}{cd:ClassData}{b:Bool}(h1:clsIn K C=some cd) (h2:typeIn K (.ref C)=some (.type "type")) (h3:subIn K t (.ref C)=some b):kitCls K t (.ref C)=some b:=by
 unfold kitCls
 dsimp only
 rw[h1,h2,if_pos (by simp)]
 exact h3
theorem ze8 {K:Frag}{t:Value}{C:Addr}{cd:ClassData}{b:Bool}(h1:clsIn K C=some cd) (h2:typeIn K (.ref C)=some (.type "type")) (h3:subIn K t (.ref C)=some b) (h4:subIn K t t=some true):kitOne K t (.ref C)=some b:=by
 unfold kitOne
 split
 ·rename_i z
  have z:t=.ref C:=by simpa using z
  subst z
  rw[h3] at h4
  exact h4.symm
 ·exact zae3 h1 h2 h3
theorem zl9 {K:Frag}{C:Addr}{cd:ClassData}{b:Bool}(h1:clsIn K C=some cd) (h2:typeIn K (.ref C)=some (.type "type")) (h3:subIn K (.type "NoneType") (.ref C)=some b):kitOne K (.type "NoneType") (.ref C)=some b:=by
 unfold kitOne
 rw[if_neg (by simp)]
 exact zae3 h1 h2 h3
theorem zaa6 {K:Frag}{D:Addr}{b:Bool}(h:subIn K (.ref D) (.type "ValueError")=some b):kitOne K (.ref D) (.type "ValueError")=some b:=by
 unfold kitOne kitCls
 rw[if_neg (by simp)]
 dsimp only
 rw[if_pos (by decide +kernel)]
 exact h
theorem zbw6 {K:Frag}{t:Value}{C:Addr}{cd:ClassData}{b:Bool}(h0:subIn K (.ref C) (.type "BaseException")=some true) (h1:clsIn K C=some cd) (h2:typeIn K (.ref C)=some (.type "type")) (h3:subIn K t (.ref C)=some b):exmOne K t (.ref C)=some b:=by
 unfold exmOne
 rw[if_pos (by rw[h0];simp)]
 exact zae3 h1 h2 h3
end
theorem zbe9 {K:zcu8}{CH:Addr}{D:Ends}{σ:St}{ke ky:Nat}{cls:Value}{dx:Option Addr}{H':Hp}(h1:PySem.W.exmOne K cls (.ref CH)=some true) (h2:∀ ea H'',H' ea=none->Same H' H''->H'' ea=some (excO ea cls dx)->D.nx ((σ.set ke none).set ky (some (.ref ea))) H''):zbf7 K CH D σ ke ky cls dx H':=by
 unfold zbf7;exact⟨h1,h2⟩
abbrev bmV:List Value:=[.type "ValueError",.type "Exception",.type "BaseException",.type "object"]
abbrev newV:String:="ValueError.__new__"
section
variable {X:Cx}{K:zcu8}
@[irreducible] def rIdxA (p:Addr) (x:V) (H:Hp) (Q:VK):Prop:=∃ (xs:List V) (j:Nat),H p=some (.lst xs)/\zu8 x=true/\xs.all zu8=true/\(∃ y,xs[j]?=some y/\eqV y x=true)/\(∀ m y,m<j->xs[m]?=some y->eqV y x=false)/\Q (.int j) H
def rIdxM:Addr->List V->Hp->VK->Prop:=fun p vs H Q=>match vs with
 | [v]=>rIdxA p v H Q
 | _=>False
theorem mIndex:MtA X "list.index" rIdxM:=fun pins s σ H p xs us Q I r h=>by
 unfold rIdxM at h
 split at h
 ·rename_i v
  unfold rIdxA at h
  obtain⟨ys,j,h1,h2,h3,⟨y,hy,hit⟩,hno,h4⟩:=h
  obtain⟨u,rfl,ru⟩:=r.one
  obtain⟨z,its,n,r',hl,e⟩:=I.lstM h1
  have hj:j<its.toArray.size:=by
   have:=(zcv3.mp hy).1
   rw[zcv8];omega
  have at_:∀ (m:Nat) (hm:m<its.toArray.size),∃ y,ys[m]?=some y/\eqU v its.toArray[m]=eqV y v:=fun m hm=>by
   rw[zcv8] at hm
   obtain⟨w',e1,q1⟩:=r'.get (zcu7 (show m<ys.length by omega))
   refine⟨_,zcu7 (by omega),?_⟩
   have i1:its.toArray[m]=w':=by
    have:=(zcv3.mp e1).2
    simpa using this
   rw[i1]
   exact zbn4 q1 (zcx1.mp h3 _ (zdc2 _))
  have hz:its.length<=sizeLine:=by omega
  rw[sizeLine_eq] at hz
  refine call_meets F.slot_list_index ⟨_,e,rfl⟩ F.entry_list_index (F.args_list_index_2 _ _) (SeqAt.list_indexAt p its.toArray n none #[] u (eqU v) j hj (by rw[zcv8] at hj;omega) ?_ ?_) ⟨e,fun y hy=>zaq6 ru h2 r' h3 y (by simpa using hy),⟨.int _,H,I.tok _,⟨_,rfl⟩,h4⟩⟩
  ·obtain⟨y',e1,e2⟩:=at_ j hj
   rw[hy] at e1
   cases e1
   rw[e2];exact hit
  ·intro m hm hlt
   obtain⟨y',e1,e2⟩:=at_ m hm
   rw[e2];exact hno m y' hlt e1
 ·exact h.elim
theorem zcf4 {p:Addr}{x:V}{H:Hp}{Q:VK}{xs:List V}(j:Nat) (h:H p=some (.lst xs)) (h1:zu8 x=true) (h2:xs.all zu8=true) (h3:∃ y,xs[j]?=some y/\eqV y x=true) (h4:∀ m y,m<j->xs[m]?=some y->eqV y x=false) (q:Q (.int j) H):rIdxA p x H Q:=by unfold rIdxA;exact⟨xs,j,h,h1,h2,h3,h4,q⟩
theorem zbs7 {o e:Expr}{to:TE}{t:TA}{apos cpos:Pos}(hK:X.K=K) (ho:PE X o to) (ha:PA X [e] t) (hbase:attributeBase o "index" X.env (eval o X.env)=eval o X.env:=by rfl)
  (hfew:((backTo cpos (starEach [e] X.env)).all (fun x=>!x.1)&&(backToKw cpos (keywordEach [] X.env)).all (fun x=>x.1.isSome)
   && decide ([e].length+([]:List Keyword).length+(if ([]:List Keyword).isEmpty then 0 else 1)<30))=true:=by rfl)
  (hline:(apos.endLine==cpos.line)=true:=by rfl) (hs:starEach [e] X.env=(false,eval e X.env) :: starEach [] X.env:=by rfl) (hplain:(backTo cpos (starEach [] X.env)).any (·.1)=false:=by rfl):PE X (.Call (.Attribute o "index" apos) [e] [] cpos) (qBM K rIdxM to t):=by
 subst hK
 exact peBM PySem.F.slot_list_index PySem.F.type_list_index mIndex ho ha hbase hfew hline hs hplain
end
section
variable {X:Cx}{st:Stmt}{rest:List Stmt}{t u:TS}{e:Expr}{es:List Expr}{te:TE}{ta:TA}
@[irreducible] def PSsI (X:Cx) (st:List Stmt) (t:TS):Prop:=PSs X st t
@[irreducible] def PSI (X:Cx) (st:Stmt) (t:TS):Prop:=PS X st t
@[irreducible] def PEI (X:Cx) (e:Expr) (t:TE):Prop:=PE X e t
@[irreducible] def PAI (X:Cx) (es:List Expr) (t:TA):Prop:=PA X es t
theorem psOf (h:PS X st t):PSI X st t:=by unfold PSI;exact h
theorem pssTo {st:List Stmt}(h:PSsI X st t):PSs X st t:=by unfold PSsI at h;exact h
theorem zs4 (h1:PSI X st t) (h2:PSsI X rest u):PSsI X (st :: rest) (tSeq t u):=by unfold PSsI PSI at *;exact za4 h1 h2
theorem zcc5 (h1:PSI X st t):PSsI X [st] t:=by unfold PSsI PSI at *;exact za6 h1
theorem psIS {i:Nat}{x:Str}{pos' pos:Pos}(hN:X.N.Nodup) (he:PEI X e te) (hi:X.N[i]?=some x:=by rfl) (hx:Loc X.env.scope x:=by first|exact Or.inl rfl|exact Or.inr rfl) (hs:swapsWith e (some (.Name x pos')) pos.line X.env=pure false:=by rfl) (hf:X.fn x=true∨X.env.scope.names.lookup x=some .local:=by first|exact .inl rfl|exact .inr rfl|assumption) :
  PSI X (.Assign [.Name x pos'] e pos) (tAsg te (zbi8 i)):=by unfold PSI PEI at *;exact zbu5 hN hi hx he hs hf
theorem peILst {pos:Pos}(h:PAI X es ta):PEI X (.List es pos) (qLst ta):=by unfold PEI PAI at *;exact zi6 h
theorem zs9 {x j pos}:PEI X (.Constant (.str x) j pos) (tC (.str x)):=by unfold PEI;exact zg5
theorem zck7:PAI X [] tNil:=by unfold PAI;exact za1
theorem zo0 (ha:PEI X e te) (hr:PAI X es ta) (hs:starEach (e :: es) X.env=(false,eval e X.env) :: starEach es X.env:=by rfl):PAI X (e :: es) (tCons te ta):=by unfold PEI PAI at *;exact za0 ha hr hs
end
end L2
set_option maxHeartbeats 1000000
namespace L2
open PySem PySem.Spec PyProof.Rows
section
variable {X:Cx}{K:zcu8}
end
end L2
set_option maxHeartbeats 2000000
namespace L2
open PySem PySem.Spec PyProof.Rows
def Itz (K:zcu8) (a b:Addr):It:=
 ⟨fun i H=>∃ xs ys x y,SqL K H a xs/\SqL K H b ys/\xs[i]?=some x/\ys[i]?=some y,
  fun i H v H'=>∃ p x y,v=.ref p/\H p=none/\Same H H'/\H' p=some (.tup [x,y])/\(∀ xs,SqL K H a xs->xs[i]?=some x)/\∀ ys,SqL K H b ys->ys[i]?=some y,
  fun i H=>∃ xs ys,SqL K H a xs/\SqL K H b ys/\(xs.length<=i∨ys.length<=i)⟩
theorem zca2 {P:Program}{w:World}{K:zcu8}{elts:List Expr}{k:Nat}{pos:Pos}(l1 l2 z TI TO i1 i2:Addr) (D:ZipApart z TI TO i1 i2 l1 l2) :
  Turn P w K (.Tuple elts k pos) (Itz K l1 l2) [z,TI,TO,i1,i2] z (fun i h=>IsZip h z TI TO .none/\IsPair h TI (.ref i1) (.ref i2)/\(∃ a b,IsPair h TO a b)/\h.IsListIter i1 l1 i/\h.IsListIter i2 l2 i) where
 mem:=by simp
 obj:=fun i h st b hb=>by
  obtain⟨hz,hTI,⟨a,b',hTO⟩,⟨o1,e1,c1,d1⟩,⟨o2,e2,c2,d2⟩⟩:=st
  simp only[zcw3,zcx3,or_false] at hb
  rcases hb with rfl|rfl|rfl|rfl|rfl
  ·exact⟨_,hz,fun v z=>by cases z⟩
  ·exact⟨_,hTI,fun v z=>by cases z⟩
  ·exact⟨_,hTO,fun v z=>by cases z⟩
  ·exact⟨o1,e1,fun v z=>by rw[d1] at z;cases z⟩
  ·exact⟨o2,e2,fun v z=>by rw[d2] at z;cases z⟩
 keep:=fun i h h' st kp=>by
  obtain⟨hz,hTI,⟨a,b',hTO⟩,h1,h2⟩:=st
  exact⟨kp z (by simp) _ hz,kp TI (by simp) _ hTI,⟨a,b',kp TO (by simp) _ hTO⟩,h1.at fun o x=>kp i1 (by simp) o x,h2.at fun o x=>kp i2 (by simp) o x⟩
 item:=by
  intro X hP hw hK hc i pins s σ H E I hf st hg
  subst hP hw hK
  obtain⟨hz,hTI,⟨a0,b0,hTO⟩,h1,h2⟩:=st
  obtain⟨xs,ys,x,y,hq1,hq2,hx,hy⟩:=hg
  obtain⟨its1,rv1,p1,_⟩:=I.list hq1
  obtain⟨its2,rv2,p2,_⟩:=I.list hq2
  obtain⟨u,hu,ru⟩:=rv1.get hx
  obtain⟨v,hv,rv⟩:=rv2.get hy
  have hzl:z<s.heap.objs.size:=zcw6 hz
  refine wpAny_pyNext_zip_item D hz hTI hTO h1 h2 p1.isList p2.isList (x:=u) (y:=v) (by simpa using hu) (by simpa using hv) fun h3 z3 TO3 j1 j2 T3 sz3 kp3=>?_
  refine⟨_,rfl,wpAny_letOwnedTupleGo_zip z3 fun h4 z4 hs4=>?_⟩
  replace hs4:Heap.SameBut z h3 h4:=hs4
  have kp:∀ b o,b ∉ [z,TI,TO,i1,i2]->s.heap.get? b=some o->h4.get? b=some o:=fun b o hb x=>by
   simp only[zcw3,zcx3,or_false,not_or] at hb
   obtain⟨b1,b2,b3,b4,b5⟩:=hb
   exact (hs4.2 b b1).trans (kp3 b o b1 b3 b4 b5 x)
  have ht4:h4.get? s.heap.objs.size=some { cls:=.type "tuple",data:=.seq #[u,v] }:=(hs4.2 _ (zdc0 hzl)).trans T3
  have hfr:H s.heap.objs.size=none:=I.fresh
  have nof:∀ b v,H b=some v->b ∉ [z,TI,TO,i1,i2]:=fun b v hb m=>by
   have:=(hf b m).1
   rw[this] at hb
   cases hb
  have nlt:∀ b o,s.heap.get? b=some o->b≠s.heap.objs.size:=fun b o x=>zcy6 (zcw6 x)
  have hok:HOk X.prog X.w (upd H s.heap.objs.size (.tup [x,y])) h4:=fun b v' hb=>by
   by_cases e1:b=s.heap.objs.size
   ·subst e1
    rw[zc7] at hb
    cases hb
    exact⟨by show 2<=sizeLine;decide,[u,v],.cons ru (.cons rv .nil),⟨_,ht4,rfl,_,rfl⟩⟩
   ·rw[zc3 e1] at hb
    refine (I.hok b v' hb).stay (fun c w' hc q=>?_) (fun c q=>?_) (fun c ys q=>?_)
    ·rcases hc with rfl|hc
     ·exact kp _ _ (nof _ _ hb) q
     ·exact kp _ _ (nof _ _ hc) q
    ·rw[zc3 (za5 q hfr)];exact q
    ·rw[zc3 (za5 q hfr)];exact q
  have chs:∀ b∈[z,TI,TO,i1,i2],(b∈X.ex∨X.s₀.heap.objs.size<=b)/\b≠X.env.locals/\(∀ x c,X.env.cells.lookup x=some c->c≠b)/\∀ p∈X.pn++pins,p.1≠b:=fun b hb=>by
   obtain⟨f0,f1,f2,f3,f4,f5⟩:=hf b hb
   exact⟨f3,f1,f4,f5⟩
  have I2:Inv X pins σ (upd H s.heap.objs.size (.tup [x,y])) { s with heap:=h4 }:=
   I.step (g':=s.gens) (d':=s.drawn) (t':=s.toks) (ch:=[z,TI,TO,i1,i2]) chs (fun b o _ _ hb x _=>kp b o hb x) (fun b o _ _ hb x _=>⟨o.slots,kp b o hb x⟩)
    (fun b o _ x n=>by rw[zc3 (nlt b o x)];exact n) (fun b o hb x=>⟨o,kp b o hb x⟩) (fun b ys q=>by rw[zc3 (za5 q hfr)];exact q) (fun b o v q=>by rw[zc3 (za5 q hfr)];exact q)
    (fun b ps q=>⟨#[],by rw[zc3 (za5 q hfr),q];simp⟩)
    (fun m hm=>by
     obtain⟨o,es,ep,ho,r⟩:=hm
     exact⟨o,es,ep,kp _ o (fun m=>(chs _ m).2.1 rfl) ho,r⟩) hok I.bare
  refine⟨.ref s.heap.objs.size,_,I2,rfl,⟨_,x,y,rfl,hfr,Same.upd hfr,zc7,fun ys hy'=>by rw[I.list_inj hy' hq1];exact hx,fun ys hy'=>by rw[I.list_inj hy' hq2];exact hy⟩,⟨z4,?_,⟨u,v,?_⟩,?_,?_⟩,fun b hb=>?_⟩
  ·exact (hs4.2 _ D.TIz).trans (kp3 _ _ D.TIz D.TITO D.TIi1 D.TIi2 hTI)
  ·exact (hs4.2 _ D.TOz).trans TO3
  ·exact j1.extBut hs4.extBut D.i1z
  ·exact j2.extBut hs4.extBut D.i2z
  ·have hb0:H b=none:=(hf b hb).1
   have hlt:b≠s.heap.objs.size:=by
    simp only[zcw3,zcx3,or_false] at hb
    rcases hb with rfl|rfl|rfl|rfl|rfl
    ·exact nlt _ _ hz
    ·exact nlt _ _ hTI
    ·exact nlt _ _ hTO
    ·obtain⟨o,ho,_⟩:=h1;exact nlt _ _ ho
    ·obtain⟨o,ho,_⟩:=h2;exact nlt _ _ ho
   rw[zc3 hlt];exact hb0
 done:=by
  intro X hP hw hK hc i pins s σ H E I hf st hg
  subst hP hw hK
  obtain⟨hz,hTI,⟨a0,b0,hTO⟩,h1,h2⟩:=st
  obtain⟨xs,ys,hq1,hq2,hx⟩:=hg
  obtain⟨its1,rv1,p1,_⟩:=I.list hq1
  obtain⟨its2,rv2,p2,_⟩:=I.list hq2
  have hl1:=rv1.length
  have hl2:=rv2.length
  have nof:∀ b v,H b=some v->b ∉ [z,TI,TO,i1,i2]:=fun b v hb m=>by
   have:=(hf b m).1
   rw[this] at hb
   cases hb
  have chs:∀ b∈[z,TI,TO,i1,i2],(b∈X.ex∨X.s₀.heap.objs.size<=b)/\b≠X.env.locals/\(∀ x c,X.env.cells.lookup x=some c->c≠b)/\∀ p∈X.pn++pins,p.1≠b:=fun b hb=>by
   obtain⟨f0,f1,f2,f3,f4,f5⟩:=hf b hb
   exact⟨f3,f1,f4,f5⟩
  refine wpAny_pyNext_zip_end (I.ok.hd hc) D hz hTI hTO h1 h2 p1.isList p2.isList ?_ fun h' kp3=>⟨rfl,?_⟩
  ·rcases hx with hx|hx
   ·exact .inl (by simp;omega)
   ·exact .inr (by simp;omega)
  ·have kp:∀ b o,b ∉ [z,TI,TO,i1,i2]->s.heap.get? b=some o->h'.get? b=some o:=fun b o hb x=>by
    simp only[zcw3,zcx3,or_false,not_or] at hb
    obtain⟨b1,b2,b3,b4,b5⟩:=hb
    exact kp3 b o b1 b3 b4 b5 x
   have hok:HOk X.prog X.w H h':=fun b v' hb=>by
    refine (I.hok b v' hb).stay (fun c w' hc q=>?_) (fun c q=>q) (fun c ys q=>q)
    rcases hc with rfl|hc
    ·exact kp _ _ (nof _ _ hb) q
    ·exact kp _ _ (nof _ _ hc) q
   exact I.step (g':=s.gens) (d':=s.drawn) (t':=s.toks) (ch:=[z,TI,TO,i1,i2]) chs (fun b o _ _ hb x _=>kp b o hb x) (fun b o _ _ hb x _=>⟨o.slots,kp b o hb x⟩)
    (fun b o _ x n=>n) (fun b o hb x=>⟨o,kp b o hb x⟩) (fun b ys q=>q) (fun b o v q=>q)
    (fun b ps q=>⟨#[],by rw[q];simp⟩)
    (fun m hm=>by
     obtain⟨o,es,ep,ho,r⟩:=hm
     exact⟨o,es,ep,kp _ o (fun m=>(chs _ m).2.1 rfl) ho,r⟩) hok I.bare
 self:=fun _ _ _ _ _ st h=>wpAny_pyIter_zip st.1 h
section
variable {X:Cx}{K:zcu8}
theorem zcd0:bootBuiltins "zip"=some (.type "zip"):=by decide +kernel
@[irreducible] def rZip (K:zcu8) (a b:Addr) (H:Hp) (R:It->Hp->Prop):Prop:=(∃ xs,SqL K H a xs)/\(∃ ys,SqL K H b ys)/\R (Itz K a b) H
def qiZip (K:zcu8) (ta:TA):TI:=fun σ H R=>ta σ H fun vs H1=>match vs with
 | [.ref a,.ref b]=>rZip K a b H1 R
 | _=>False
theorem zcf0 {elts:List Expr}{k:Nat}{pt:Pos}{a b:Expr}{ta:TA}{p pos:Pos}(hK:X.K=K) (hm:X.mg "zip"=none) (ha:PA X [a,b] ta) (hg:Gl X "zip":=by rfl) (hs:starEach [a,b] X.env=(false,eval a X.env) :: starEach [b] X.env:=by rfl)
  (hpl:(backTo pos (starEach [b] X.env)).any (·.1)=false:=by rfl) :
  PI X (.Tuple elts k pt) (.Call (.Name "zip" p) [a,b] [] pos) (qiZip K ta):=by
 subst hK
 intro pins s σ H R I h
 refine Call_ (zam1 I hg hm zcd0 (PyProof.Rows.callWith_type1 (thn (ha pos pins s σ H _ I h) fun us s1 ⟨vs,H1,I1,r1,q1⟩=>?_) hs hpl))
 dsimp only at q1
 split at q1
 ·rename_i l m
  unfold rZip at q1
  obtain⟨⟨xs,hq1⟩,⟨ys,hq2⟩,q⟩:=q1
  obtain⟨u1,u2,rfl,rx,ry⟩:=zbu6 r1
  cases rx
  cases ry
  obtain⟨its1,rv1,p1,_⟩:=I1.list hq1
  obtain⟨its2,rv2,p2,_⟩:=I1.list hq2
  have l1:@LT.lt Nat _ l s1.heap.objs.size:=by obtain⟨o,ho,_⟩:=p1.isList;exact zcw6 ho
  have l2:@LT.lt Nat _ m s1.heap.objs.size:=by obtain⟨o,ho,_⟩:=p2.isList;exact zcw6 ho
  refine call_zip_2 p1.isList p2.isList fun h' hz hTI hTO j1 j2 hsz hk=>?_
  refine wpAny_pyIter_zip hz ?_
  have I2:Inv X pins σ H1 { s1 with heap:=h' }:=I1.kept (t':=s1.toks) hk
  have D:ZipApart (s1.heap.objs.size+4) (s1.heap.objs.size+2) (s1.heap.objs.size+3) s1.heap.objs.size (s1.heap.objs.size+1) l m:=by
   constructor<;>(intro z;have z:(_:Nat)=_:=z;omega)
  refine⟨_,_,_,Itz X.K l m,H1,rfl,I2,zca2 l m _ _ _ _ _ D,⟨hz,hTI,⟨_,_,hTO⟩,j1,j2⟩,fun b hb=>?_,q⟩
  have hb':s1.heap.objs.size<=b:=by
   simp only[zcw3,zcx3,or_false] at hb
   rcases hb with rfl|rfl|rfl|rfl|rfl
   ·exact zda4 _ _
   ·exact zda4 _ _
   ·exact zda4 _ _
   ·exact zcw9 _
   ·exact zda4 _ _
  exact I1.fpOk hb' (I1.hok.fresh hb')
 ·exact q1.elim
end
section
variable {K:zcu8}{g:TG}{tb:TS}{D:Ends}{σ:St}{H:Hp}{R:It->Hp->Prop}
theorem zce3 {a b:Addr}{xs ys:List V}(h:SqL K H a xs) (h':SqL K H b ys) (q:R (Itz K a b) H):rZip K a b H R:=by unfold rZip;exact⟨⟨xs,h⟩,⟨ys,h'⟩,q⟩
end
end L2
set_option maxHeartbeats 2000000
namespace L2
open PySem PySem.Spec PyProof.Rows
section
variable {X:Cx}{K:zcu8}
end
section
variable {J:It}{n:Nat}{H1:Hp}{X:Nat->V->Hp->Prop}{g:TG}{tt:TT}{te:TE}{σ0:St}{Q:VK}
theorem zce4 (w:Wk J n H1 X) (hn:n<sizeLine) (Pv:Addr->Nat->List V->St->Hp->Prop) (h0:∀ acc H,H1 acc=none->Same H1 H->H acc=some (.lst [])->Pv acc 0 [] σ0 H)
  (hP:∀ acc i ys σ H H',Same H H'->Pv acc i ys σ H->Pv acc i ys σ H')
  (turn:∀ acc i x ys σ H (R:St->V->Hp->Prop) (S:St->Hp->Prop),i<n->H1 acc=none->Same H1 H->H acc=some (.lst ys)->X i x H->Pv acc i ys σ H ->
   (∀ σ2 v H5,Same H H5->(∀ H6,Chg acc H5 H6->Pv acc (i+1) (ys++[v]) σ2 H6)->R σ2 v H5)->(∀ σ2 H5,Same H H5->Pv acc (i+1) ys σ2 H5->S σ2 H5) ->
   g x σ H fun σ2 H3=>tt σ2 H3 fun b H4=>br b (te σ2 H4 fun v H5=>R σ2 v H5) (S σ2 H4))
  (fin:∀ acc ys σ H,H1 acc=none->Same H1 H->H acc=some (.lst ys)->Pv acc n ys σ H->Q (.ref acc) H):zak8 J g tt te σ0 H1 Q:=by
 unfold zak8
 intro acc H2 hf hs ha
 refine⟨fun i m ys σ H=>m=n - i/\i<=n/\ys.length<=i/\Same H1 H/\H acc=some (.lst ys)/\Pv acc i ys σ H,⟨n,by simp,zcz3 _,zcw9 _,hs,ha,h0 acc H2 hf hs ha⟩,?_⟩
 rintro i m ys σ H ⟨rfl,hi,hl,s,hy,P⟩
 refine⟨hy,by omega,?_⟩
 by_cases hlt:i<n
 ·refine .inr ⟨w.go i H s hlt,fun x H' y=>?_⟩
  obtain⟨s1,x1⟩:=w.yld i H x H' s hlt y
  refine turn acc i x ys σ H' (fun σ2 v H5=>cPut _ acc ys i (n - i) σ2 v H5) (fun σ2 H4=>zau4 _ ys i (n - i) σ2 H4) hlt hf (s.trans s1) (s1 _ _ hy) x1 (hP _ _ _ _ _ _ s1 P) ?_ ?_
  ·intro σ2 v H5 s5 q
   have s15:=s1.trans s5
   unfold cPut
   refine⟨s15 _ _ hy,fun H6 c6 h6=>⟨n - (i+1),by omega,rfl,hlt,by rw[zcv9];simp;omega,(s.trans s15).chg hf c6,h6,q H6 c6⟩⟩
  ·intro σ2 H5 s5 q
   have s15:=s1.trans s5
   unfold zau4
   exact⟨n - (i+1),by omega,rfl,hlt,by omega,s.trans s15,s15 _ _ hy,q⟩
 ·have e:i=n:=by omega
  subst e
  exact .inl ⟨w.stop H s,fin acc ys σ H hf s hy P⟩
end
end L2
set_option maxHeartbeats 2000000
namespace PySem
open Sem (wp)
namespace F
theorem zip3_typeCall (a b c:Value):checkTypeCall "zip" ⟨[a,b,c],[]⟩=pure ():=by kernel_rfl
theorem zip3_newCall (a b c:Value):checkBuiltinCall "zip.__new__" ⟨[.type "zip",a,b,c],[]⟩=pure ():=by kernel_rfl
theorem init_four (a b c d:Value):argsOk "object.__init__" ⟨[a,b,c,d],[]⟩:=by
 unfold argsOk;rw[signature?_of (id:="object.__init__") (n:=['_','_','t','i','n','i','_','_']) (o:=['t','c','e','j','b','o']) (by kernel_rfl) owner_object];kernel_rfl
end F
abbrev zv0 (h:Heap) (T:Addr) (a b c:Value):Prop:=h.get? T=some { cls:=.type "tuple",data:=.seq #[a,b,c] }
theorem zbn3 {a b:Nat}(h:a<b∨b<a):(a:Addr)≠(b:Addr):=fun z=>by have z:(a:Nat)=b:=z;omega
section
variable {prog:Program}{w:World}{A:Around}{E:Value->Shared->Prop}{s:Shared}
theorem zbd7 {T:Addr}{a b c x:Value}{k:Nat}{Q:Unit->Shared->Prop}(gT:zv0 s.heap T a b c)
  (h:∀ h',h'.get? T=some { cls:=.type "tuple",data:=.seq ((#[a,b,c]:Array Value).setIfInBounds k x) }->Heap.SameBut T s.heap h'->Q () { s with heap:=h' }) :
  wpAny (model prog w) A (updateSeq T (·.setIfInBounds k x)) Q E s:=by
 refine wpAny_updateSeq gT rfl (h _ ?_ (Heap.SameBut.update ..));rw[zcz8 _ gT rfl];simp[Obj.mapSeq]
theorem zbm1 {n l1 l2 l3:Nat}{k:Nat}{xs ys us:Array Value}{x y u a b c:Value}{Q:Value->Shared->Prop}(L1:l1<n) (L2:l2<n) (L3:l3<n)
  (gz:IsZip s.heap (n+5) (n+3) (n+4) .none) (gI:zv0 s.heap (n+3) (.ref n) (.ref (n+1)) (.ref (n+2))) (gO:zv0 s.heap (n+4) a b c)
  (j1:s.heap.IsListIter n l1 k) (j2:s.heap.IsListIter (n+1) l2 k) (j3:s.heap.IsListIter (n+2) l3 k) (q1:s.heap.IsList l1 xs) (q2:s.heap.IsList l2 ys) (q3:s.heap.IsList l3 us) (hx:xs[k]?=some x) (hy:ys[k]?=some y) (hv:us[k]?=some u)
  (hQ:∀ h',IsZip h' (n+5) (n+3) (n+4) (rawInt s.heap.objs.size)->zv0 h' (n+4) x y u->h'.IsListIter n l1 (k+1)->h'.IsListIter (n+1) l2 (k+1)->h'.IsListIter (n+2) l3 (k+1)->zv0 h' s.heap.objs.size x y u->h'.objs.size=s.heap.objs.size+1 ->
   (∀ c o,c≠n+5->c≠n+4->c≠n->c≠n+1->c≠n+2->s.heap.get? c=some o->h'.get? c=some o)->Q (.ref s.heap.objs.size) { s with heap:=h' }) :
  wpAny (model prog w) A (Builtin.«zip.__next__» ⟨[.ref (n+5)],[]⟩) (fun fin s'=>∃ v,fin=.done (.ret v)/\Q v s') E s:=by
 show wpAny _ _ (field (.ref (n+5)) 2 >>= _) _ _ _
 refine wpAny_bind (wpAny_field gz rfl (x:=.bool false) rfl ?_)
 show wpAny _ _ (field (.ref (n+5)) 3 >>= _) _ _ _
 refine wpAny_bind (wpAny_field gz rfl (x:=.ref (n+3)) rfl (wpAny_bind (wpAny_seqItems gI rfl ?_)))
 show wpAny _ _ (Builtin.SmallTypes.ownedTupleIsFree (.ref (n+5)) >>= _) _ _ _
 refine wpAny_bind ?_;unfold Builtin.SmallTypes.ownedTupleIsFree
 refine wpAny_bind (wpAny_field gz rfl (x:=.none) rfl (wpAny_pure ?_));simp only[if_true]
 refine wpAny_bind (wpAny_rule (wpAny_bind (wpAny_field gz rfl (x:=.ref (n+4)) rfl ?_)))
 refine wpAny_bind (wpAny_setField_rec gz (by simp) fun h1 gz1 b1=>?_)
 replace gz1:IsZip h1 (n+5) (n+3) (n+4) .ellipsis:=gz1
 refine wpAny_bind ?_;simp only[List.zipIdx_nil,List.zipIdx_cons,List.forIn_nil,List.forIn_cons]
 have D (p q:Nat) (h:p<q∨q<p):(p:Addr)≠(q:Addr):=zbn3 h
 refine wpAny_bind (wpAny_bind (wpAny_onRaise ?_));show wpAny _ _ (Builtin.SmallTypes.nextOf (.ref n) >>= _) _ _ _
 refine wpAny_bind (wpAny_nextOf_list_item (j1.extBut b1.extBut (D _ _ (by omega))) (q1.extBut b1.extBut (D _ _ (by omega))) hx fun h2 j12 b2=>wpAny_pure ?_)
 have gO2:zv0 h2 (n+4) a b c:=b2.extBut _ _ (D _ _ (by omega)) (b1.extBut _ _ (D _ _ (by omega)) gO)
 refine wpAny_bind (wpAny_seqItems gO2 rfl (wpAny_bind (zbd7 gO2 fun h3 gO3 b3=>?_)))
 replace gO3:zv0 h3 (n+4) x b c:=gO3
 refine wpAny_bind (wpAny_letGo (wpAny_pure ?_))
 refine wpAny_bind (wpAny_bind (wpAny_onRaise ?_));show wpAny _ _ (Builtin.SmallTypes.nextOf (.ref (n+1)) >>= _) _ _ _
 have j23:h3.IsListIter (n+1) l2 k:=((j2.extBut b1.extBut (D _ _ (by omega))).extBut b2.extBut (D _ _ (by omega))).extBut b3.extBut (D _ _ (by omega))
 have q23:h3.IsList l2 ys:=((q2.extBut b1.extBut (D _ _ (by omega))).extBut b2.extBut (D _ _ (by omega))).extBut b3.extBut (D _ _ (by omega))
 refine wpAny_bind (wpAny_nextOf_list_item j23 q23 hy fun h4 j24 b4=>wpAny_pure ?_)
 have gO4:zv0 h4 (n+4) x b c:=b4.extBut _ _ (D _ _ (by omega)) gO3
 refine wpAny_bind (wpAny_seqItems gO4 rfl (wpAny_bind (zbd7 gO4 fun h5 gO5 b5=>?_)))
 replace gO5:zv0 h5 (n+4) x y c:=gO5
 refine wpAny_bind (wpAny_letGo (wpAny_pure ?_))
 refine wpAny_bind (wpAny_bind (wpAny_onRaise ?_));show wpAny _ _ (Builtin.SmallTypes.nextOf (.ref (n+2)) >>= _) _ _ _
 have up5:∀ c o,c≠n+5->c≠n+4->c≠n->c≠n+1->s.heap.get? c=some o->h5.get? c=some o:=fun c o c1 c2 c3 c4 e=>
  b5.extBut _ _ c2 (b4.extBut _ _ c4 (b3.extBut _ _ c2 (b2.extBut _ _ c3 (b1.extBut _ _ c1 e))))
 have j35:h5.IsListIter (n+2) l3 k:=j3.at fun o e=>up5 _ o (D _ _ (by omega)) (D _ _ (by omega)) (D _ _ (by omega)) (D _ _ (by omega)) e
 have q35:h5.IsList l3 us:=q3.at fun o e=>up5 _ o (D _ _ (by omega)) (D _ _ (by omega)) (D _ _ (by omega)) (D _ _ (by omega)) e
 refine wpAny_bind (wpAny_nextOf_list_item j35 q35 hv fun h6 j36 b6=>wpAny_pure ?_)
 have gO6:zv0 h6 (n+4) x y c:=b6.extBut _ _ (D _ _ (by omega)) gO5
 refine wpAny_bind (wpAny_seqItems gO6 rfl (wpAny_bind (zbd7 gO6 fun h7 gO7 b7=>?_)))
 replace gO7:zv0 h7 (n+4) x y u:=gO7
 refine wpAny_bind (wpAny_letGo (wpAny_pure (wpAny_pure ?_)))
 refine wpAny_bind (wpAny_seqItems gO7 rfl (wpAny_bind (wpAny_newTuple ?_)))
 have sz:h7.objs.size=s.heap.objs.size:=by rw[b7.1,b6.1,b5.1,b4.1,b3.1,b2.1,b1.1]
 have up7:∀ c o,c≠n+5->c≠n+4->c≠n->c≠n+1->c≠n+2->s.heap.get? c=some o->h7.get? c=some o:=fun c o c1 c2 c3 c4 c5 e=>b7.extBut _ _ c2 (b6.extBut _ _ c5 (up5 c o c1 c2 c3 c4 e))
 have gz7:IsZip h7 (n+5) (n+3) (n+4) .ellipsis:=
  b7.extBut _ _ (D _ _ (by omega)) (b6.extBut _ _ (D _ _ (by omega)) (b5.extBut _ _ (D _ _ (by omega)) (b4.extBut _ _ (D _ _ (by omega)) (b3.extBut _ _ (D _ _ (by omega)) (b2.extBut _ _ (D _ _ (by omega)) gz1)))))
 have j17:h7.IsListIter n l1 (k+1):=((((j12.extBut b3.extBut (D _ _ (by omega))).extBut b4.extBut (D _ _ (by omega))).extBut b5.extBut (D _ _ (by omega))).extBut b6.extBut (D _ _ (by omega))).extBut b7.extBut (D _ _ (by omega))
 have j27:h7.IsListIter (n+1) l2 (k+1):=((j24.extBut b5.extBut (D _ _ (by omega))).extBut b6.extBut (D _ _ (by omega))).extBut b7.extBut (D _ _ (by omega))
 have j37:h7.IsListIter (n+2) l3 (k+1):=j36.extBut b7.extBut (D _ _ (by omega))
 have lz:n+5<h7.objs.size:=zcw6 gz7
 show wpAny _ _ (Builtin.SmallTypes.ownedTupleHandOut (.ref (n+5)) (.ref h7.objs.size) >>= _) _ _ _
 refine wpAny_bind ?_;unfold Builtin.SmallTypes.ownedTupleHandOut
 have gz8:IsZip (h7.push { cls:=.type "tuple",data:=.seq #[x,y,u] }) (n+5) (n+3) (n+4) .ellipsis:=zcv0 _ gz7
 refine wpAny_bind (wpAny_setField_rec gz8 (by simp) fun h9 gz9 b9=>?_)
 replace gz9:IsZip h9 (n+5) (n+3) (n+4) (rawInt h7.objs.size):=gz9
 refine wpAny_setField_rec gz9 (by simp) fun ha gza ba=>?_
 replace gza:IsZip ha (n+5) (n+3) (n+4) (rawInt h7.objs.size):=gza
 have up:∀ c o,c≠n+5->h7.get? c=some o->ha.get? c=some o:=fun c o c1 e=>ba.extBut _ _ c1 (b9.extBut _ _ c1 (zcv0 _ e))
 have gT:zv0 ha h7.objs.size x y u:=ba.extBut _ _ (zdc0 lz) (b9.extBut _ _ (zdc0 lz) (zcx2 _ rfl))
 have sa:ha.objs.size=h7.objs.size+1:=by rw[ba.1,b9.1,zdd1]
 rw[sz] at gza gT sa
 refine wpAny_pure ⟨_,rfl,?_⟩
 show Q (.ref h7.objs.size) _
 rw[sz]
 exact hQ ha gza (up _ _ (D _ _ (by omega)) gO7) (j17.at fun o e=>up _ o (D _ _ (by omega)) e) (j27.at fun o e=>up _ o (D _ _ (by omega)) e) (j37.at fun o e=>up _ o (D _ _ (by omega)) e) gT sa fun c o c1 c2 c3 c4 c5 e=>up c o c1 (up7 c o c1 c2 c3 c4 c5 e)
theorem zca0 {n l1:Nat}{k:Nat}{xs:Array Value}{a b c:Value}{Q:Fin->Shared->Prop}(hh:A.handled=none) (L1:l1<n)
  (gz:IsZip s.heap (n+5) (n+3) (n+4) .none) (gI:zv0 s.heap (n+3) (.ref n) (.ref (n+1)) (.ref (n+2))) (j1:s.heap.IsListIter n l1 k) (q1:s.heap.IsList l1 xs) (hx:xs[k]?=none)
  (hE:∀ h' e,(∀ c o,c≠n+5->c≠n->s.heap.get? c=some o->h'.get? c=some o)->(∃ o,h'.get? e=some o/\o.cls=.type "StopIteration")->E (.ref e) { s with heap:=h' }) :
  wpAny (model prog w) A (Builtin.«zip.__next__» ⟨[.ref (n+5)],[]⟩) Q E s:=by
 show wpAny _ _ (field (.ref (n+5)) 2 >>= _) _ _ _
 refine wpAny_bind (wpAny_field gz rfl (x:=.bool false) rfl ?_)
 show wpAny _ _ (field (.ref (n+5)) 3 >>= _) _ _ _
 refine wpAny_bind (wpAny_field gz rfl (x:=.ref (n+3)) rfl (wpAny_bind (wpAny_seqItems gI rfl ?_)))
 show wpAny _ _ (Builtin.SmallTypes.ownedTupleIsFree (.ref (n+5)) >>= _) _ _ _
 refine wpAny_bind ?_;unfold Builtin.SmallTypes.ownedTupleIsFree
 refine wpAny_bind (wpAny_field gz rfl (x:=.none) rfl (wpAny_pure ?_));simp only[if_true]
 refine wpAny_bind (wpAny_rule (wpAny_bind (wpAny_field gz rfl (x:=.ref (n+4)) rfl ?_)))
 refine wpAny_bind (wpAny_setField_rec gz (by simp) fun h1 gz1 b1=>?_)
 replace gz1:IsZip h1 (n+5) (n+3) (n+4) .ellipsis:=gz1
 refine wpAny_bind ?_;simp only[List.zipIdx_nil,List.zipIdx_cons,List.forIn_nil,List.forIn_cons]
 refine wpAny_bind (wpAny_bind (wpAny_onRaise ?_));show wpAny _ _ (Builtin.SmallTypes.nextOf (.ref n) >>= _) _ _ _
 refine wpAny_bind (wpAny_nextOf_list_end hh (j1.extBut b1.extBut (zbn3 (by omega))) (q1.extBut b1.extBut (zbn3 (by omega))) hx fun h2 e b2 he=>?_)
 obtain⟨oe,ge,ce⟩:=he
 have gz2:IsZip h2 (n+5) (n+3) (n+4) .ellipsis:=b2 _ _ (zbn3 (by omega)) gz1
 have ez:e≠n+5:=fun x=>by subst x;rw[gz2] at ge;cases ge;simp at ce
 refine wpAny_setField_rec gz2 (by simp) fun h3 _ b3=>hE h3 e (fun c o c1 c3 x=>b3.extBut _ _ c1 (b2 _ _ c3 (b1.extBut _ _ c1 x))) ⟨oe,b3.extBut _ _ ez ge,ce⟩
theorem zbo8 {n l1 l2 l3:Nat}{k:Nat}{xs ys us:Array Value}{x y u a b c:Value}{Q:Option Value->Shared->Prop}(L1:l1<n) (L2:l2<n) (L3:l3<n)
  (gz:IsZip s.heap (n+5) (n+3) (n+4) .none) (gI:zv0 s.heap (n+3) (.ref n) (.ref (n+1)) (.ref (n+2))) (gO:zv0 s.heap (n+4) a b c)
  (j1:s.heap.IsListIter n l1 k) (j2:s.heap.IsListIter (n+1) l2 k) (j3:s.heap.IsListIter (n+2) l3 k) (q1:s.heap.IsList l1 xs) (q2:s.heap.IsList l2 ys) (q3:s.heap.IsList l3 us) (hx:xs[k]?=some x) (hy:ys[k]?=some y) (hv:us[k]?=some u)
  (hQ:∀ h',IsZip h' (n+5) (n+3) (n+4) (rawInt s.heap.objs.size)->zv0 h' (n+4) x y u->h'.IsListIter n l1 (k+1)->h'.IsListIter (n+1) l2 (k+1)->h'.IsListIter (n+2) l3 (k+1)->zv0 h' s.heap.objs.size x y u->h'.objs.size=s.heap.objs.size+1 ->
   (∀ c o,c≠n+5->c≠n+4->c≠n->c≠n+1->c≠n+2->s.heap.get? c=some o->h'.get? c=some o)->Q (some (.ref s.heap.objs.size)) { s with heap:=h' }) :
  wpAny (model prog w) A (pyNext (.ref (n+5))) Q E s:=by
 have gT:s.TypeIs (.ref (n+5)) "zip":=⟨_,gz,rfl⟩
 unfold pyNext
 exact wpAny_bind (wpAny_attempt (wpAny_callSpecial?_slot (name:=Str.ofString "__next__") gT F.slot_zip_next (wpAny_call_entry F.slot_zip_next gT F.entry_zip_next
  (zbm1 L1 L2 L3 gz gI gO j1 j2 j3 q1 q2 q3 hx hy hv fun h' a1 a2 a3 a4 a5 a6 a7 a8=>wpAny_pure (hQ h' a1 a2 a3 a4 a5 a6 a7 a8)) (F.args_zip_next_1 _))))
theorem zbn8 {n l1:Nat}{k:Nat}{xs:Array Value}{Q:Option Value->Shared->Prop}(hh:A.handled=none) (L1:l1<n)
  (gz:IsZip s.heap (n+5) (n+3) (n+4) .none) (gI:zv0 s.heap (n+3) (.ref n) (.ref (n+1)) (.ref (n+2))) (j1:s.heap.IsListIter n l1 k) (q1:s.heap.IsList l1 xs) (hx:xs[k]?=none)
  (hQ:∀ h',(∀ c o,c≠n+5->c≠n->s.heap.get? c=some o->h'.get? c=some o)->Q none { s with heap:=h' }):wpAny (model prog w) A (pyNext (.ref (n+5))) Q E s:=by
 have gT:s.TypeIs (.ref (n+5)) "zip":=⟨_,gz,rfl⟩
 unfold pyNext
 refine wpAny_bind (wpAny_attempt (wpAny_callSpecial?_slot (name:=Str.ofString "__next__") gT F.slot_zip_next (wpAny_call_entry F.slot_zip_next gT F.entry_zip_next
  (zca0 (a:=.none) (b:=.none) (c:=.none) hh L1 gz gI j1 q1 hx fun h' e up he=>?_) (F.args_zip_next_1 _))))
 obtain⟨o,ho,hc⟩:=he;refine wpAny_bind (wpAny_isInstance (T:="StopIteration") (b:=true) ⟨o,ho,hc⟩ isSubtype_stop (wpAny_pure (hQ _ up)))
end
abbrev itO (l:Addr):Obj:={ cls:=.type "list_iterator",data:=.fields #[.ref l,.int 0 0] }
abbrev z3a (h:Heap) (l1 l2 l3:Addr):Heap:=((h.push (itO l1)).push (itO l2)).push (itO l3)
abbrev z3b (h:Heap) (l1 l2 l3:Addr):Heap:=(z3a h l1 l2 l3).push { cls:=.type "tuple",data:=.seq #[.ref h.objs.size,.ref (h.push (itO l1)).objs.size,.ref ((h.push (itO l1)).push (itO l2)).objs.size] }
abbrev z3c (h:Heap) (l1 l2 l3:Addr):Heap:=(z3b h l1 l2 l3).push { cls:=.type "tuple",data:=.seq #[.none,.none,.none] }
abbrev z3d (h:Heap) (l1 l2 l3:Addr):Heap:=(z3c h l1 l2 l3).push { cls:=.type "zip",data:=.fields #[.none,.bool false,.bool false,.ref (z3a h l1 l2 l3).objs.size,.ref (z3b h l1 l2 l3).objs.size] }
theorem zcc3 (l1 l2 l3:Addr) (xs ys us:Array Value):Meets (Builtin.«zip.__new__» ⟨[.type "zip",.ref l1,.ref l2,.ref l3],[]⟩) (fun _ R s=>s.heap.IsList l1 xs/\s.heap.IsList l2 ys/\s.heap.IsList l3 us /\
   R (.ok (.ret (.ref (z3c s.heap l1 l2 l3).objs.size))) { s with heap:=z3d s.heap l1 l2 l3 }):=
 .of_wp fun prog w A R s h=>by
  obtain⟨hp,g,d,tk,os⟩:=s;obtain⟨q1,q2,q3,h⟩:=h;have sub:=sub_zip
  have g1:Heap.IsList (Shared.heap ⟨hp,g,d,tk,os⟩) l1 xs:=q1
  have g2:Heap.IsList (Shared.heap ⟨hp.push (itO l1),g,d,tk,os⟩) l2 ys:=Heap.IsList.push q2 _
  have g3:Heap.IsList (Shared.heap ⟨(hp.push (itO l1)).push (itO l2),g,d,tk,os⟩) l3 us:=Heap.IsList.push (Heap.IsList.push q3 _) _
  wp_walk using wpAny_pyIter_list g1,wpAny_pyIter_list g2,wpAny_pyIter_list g3
  exact⟨_,rfl,h⟩
section
variable {prog:Program}{w:World}{A:Around}{E:Value->Shared->Prop}{s:Shared}
theorem zbn2 {l1 l2 l3:Addr}{xs ys us:Array Value}{Q:Value->Shared->Prop}(q1:s.heap.IsList l1 xs) (q2:s.heap.IsList l2 ys) (q3:s.heap.IsList l3 us)
  (h:∀ h' (n:Nat),n=s.heap.objs.size->IsZip h' (n+5) (n+3) (n+4) .none->zv0 h' (n+3) (.ref n) (.ref (n+1)) (.ref (n+2))->zv0 h' (n+4) .none .none .none->h'.IsListIter n l1 0->h'.IsListIter (n+1) l2 0->h'.IsListIter (n+2) l3 0 ->
   (∀ c o,s.heap.get? c=some o->h'.get? c=some o)->Q (.ref (n+5)) { s with heap:=h' }):wpAny (model prog w) A (call (.type "zip") [.ref l1,.ref l2,.ref l3]) Q E s:=by
 refine callType_new F.called_zip (by decide) (F.zip3_typeCall _ _ _) (F.zip3_newCall _ _ _) (fun obj=>F.init_four obj _ _ _) F.entry_zip_new (zcc3 l1 l2 l3 xs ys us) ⟨q1,q2,q3,?_⟩
 have e1:(s.heap.push (itO l1)).objs.size=s.heap.objs.size+1:=zdd1 ..
 have e2:((s.heap.push (itO l1)).push (itO l2)).objs.size=s.heap.objs.size+2:=by rw[zdd1,e1]
 have e3:(z3a s.heap l1 l2 l3).objs.size=s.heap.objs.size+3:=by rw[zdd1,e2]
 have e4:(z3b s.heap l1 l2 l3).objs.size=s.heap.objs.size+4:=by rw[zdd1,e3]
 have e5:(z3c s.heap l1 l2 l3).objs.size=s.heap.objs.size+5:=by rw[zdd1,e4]
 have g6:(z3d s.heap l1 l2 l3).get? (z3c s.heap l1 l2 l3).objs.size=some _:=zcx2 _ rfl
 have g5:(z3d s.heap l1 l2 l3).get? (z3b s.heap l1 l2 l3).objs.size=some _:=zcv0 _ (zcx2 _ rfl)
 have g4:(z3d s.heap l1 l2 l3).get? (z3a s.heap l1 l2 l3).objs.size=some _:=zcv0 _ (zcv0 _ (zcx2 _ rfl))
 have g3:(z3d s.heap l1 l2 l3).get? ((s.heap.push (itO l1)).push (itO l2)).objs.size=some _:=zcv0 _ (zcv0 _ (zcv0 _ (zcx2 _ rfl)))
 have g2:(z3d s.heap l1 l2 l3).get? (s.heap.push (itO l1)).objs.size=some _:=zcv0 _ (zcv0 _ (zcv0 _ (zcv0 _ (zcx2 _ rfl))))
 have g1:(z3d s.heap l1 l2 l3).get? s.heap.objs.size=some _:=zcv0 _ (zcv0 _ (zcv0 _ (zcv0 _ (zcv0 _ (zcx2 _ rfl)))))
 show _/\_
 rw[e3,e4,e5] at g6
 rw[e1,e2,e3] at g4
 rw[e4] at g5
 rw[e2] at g3
 rw[e1] at g2
 rw[e5]
 exact⟨⟨_,g6,rfl⟩,h _ _ rfl g6 g4 g5 ⟨_,g1,rfl,rfl⟩ ⟨_,g2,rfl,rfl⟩ ⟨_,g3,rfl,rfl⟩ fun c o x=>
  zcv0 _ (zcv0 _ (zcv0 _ (zcv0 _ (zcv0 _ (zcv0 _ x)))))⟩
end
end PySem
set_option maxHeartbeats 2000000
namespace L2
open PySem PySem.Spec PyProof.Rows
def Itz3 (K:zcu8) (a b c:Addr):It:=
 ⟨fun i H=>∃ xs ys us x y u,SqL K H a xs/\SqL K H b ys/\SqL K H c us/\xs[i]?=some x/\ys[i]?=some y/\us[i]?=some u,
  fun i H v H'=>∃ p x y u,v=.ref p/\H p=none/\Same H H'/\H' p=some (.tup [x,y,u])/\(∀ xs,SqL K H a xs->xs[i]?=some x)/\(∀ ys,SqL K H b ys->ys[i]?=some y)/\∀ us,SqL K H c us->us[i]?=some u,
  fun i H=>∃ xs,SqL K H a xs/\xs.length<=i⟩
theorem zbq0 {P:Program}{w:World}{K:zcu8}{elts:List Expr}{k:Nat}{pos:Pos}(l1 l2 l3 n:Nat) (L1:l1<n) (L2:l2<n) (L3:l3<n) :
  Turn P w K (.Tuple elts k pos) (Itz3 K l1 l2 l3) [n+5,n+3,n+4,n,n+1,n+2] (n+5) (fun i h=>IsZip h (n+5) (n+3) (n+4) .none/\zv0 h (n+3) (.ref n) (.ref (n+1)) (.ref (n+2))/\(∃ a b c,zv0 h (n+4) a b c)/\h.IsListIter n l1 i/\h.IsListIter (n+1) l2 i/\h.IsListIter (n+2) l3 i) where
 mem:=by simp
 obj:=fun i h st b hb=>by
  obtain⟨hz,hTI,⟨a,b',c',hTO⟩,⟨o1,e1,c1,d1⟩,⟨o2,e2,c2,d2⟩,⟨o3,e3,c3,d3⟩⟩:=st
  simp only[zcw3,zcx3,or_false] at hb
  rcases hb with rfl|rfl|rfl|rfl|rfl|rfl
  ·exact⟨_,hz,fun v z=>by cases z⟩
  ·exact⟨_,hTI,fun v z=>by cases z⟩
  ·exact⟨_,hTO,fun v z=>by cases z⟩
  ·exact⟨o1,e1,fun v z=>by rw[d1] at z;cases z⟩
  ·exact⟨o2,e2,fun v z=>by rw[d2] at z;cases z⟩
  ·exact⟨o3,e3,fun v z=>by rw[d3] at z;cases z⟩
 keep:=fun i h h' st kp=>by
  obtain⟨hz,hTI,⟨a,b',c',hTO⟩,h1,h2,h3⟩:=st
  exact⟨kp _ (by simp) _ hz,kp _ (by simp) _ hTI,⟨a,b',c',kp _ (by simp) _ hTO⟩,h1.at fun o x=>kp _ (by simp) o x,h2.at fun o x=>kp _ (by simp) o x,h3.at fun o x=>kp _ (by simp) o x⟩
 item:=by
  intro X hP hw hK hc i pins s σ H E I hf st hg
  subst hP hw hK
  obtain⟨hz,hTI,⟨a0,b0,c0,hTO⟩,h1,h2,h3⟩:=st
  obtain⟨xs,ys,us,x,y,u',hq1,hq2,hq3,hx,hy,hu'⟩:=hg
  obtain⟨its1,rv1,p1,_⟩:=I.list hq1
  obtain⟨its2,rv2,p2,_⟩:=I.list hq2
  obtain⟨its3,rv3,p3,_⟩:=I.list hq3
  obtain⟨u,hu,ru⟩:=rv1.get hx
  obtain⟨v,hv,rv⟩:=rv2.get hy
  obtain⟨t,ht,rt⟩:=rv3.get hu'
  have hzl:n+5<s.heap.objs.size:=zcw6 hz
  refine zbo8 L1 L2 L3 hz hTI hTO h1 h2 h3 p1.isList p2.isList p3.isList (x:=u) (y:=v) (u:=t) (by simpa using hu) (by simpa using hv) (by simpa using ht) fun h3' z3 TO3 j1 j2 j3 T3 sz3 kp3=>?_
  refine⟨_,rfl,wpAny_letOwnedTupleGo_zip z3 fun h4 z4 hs4=>?_⟩
  replace hs4:Heap.SameBut (n+5) h3' h4:=hs4
  have D (p q:Nat) (h:p<q∨q<p):(p:Addr)≠(q:Addr):=zbn3 h
  have kp:∀ b o,b ∉ [n+5,n+3,n+4,n,n+1,n+2]->s.heap.get? b=some o->h4.get? b=some o:=fun b o hb x=>by
   simp only[zcw3,zcx3,or_false,not_or] at hb
   obtain⟨b1,b2,b3,b4,b5,b6⟩:=hb
   exact (hs4.2 b b1).trans (kp3 b o b1 b3 b4 b5 b6 x)
  have ht4:h4.get? s.heap.objs.size=some { cls:=.type "tuple",data:=.seq #[u,v,t] }:=(hs4.2 _ (zdc0 hzl)).trans T3
  have hfr:H s.heap.objs.size=none:=I.fresh
  have nof:∀ b v,H b=some v->b ∉ [n+5,n+3,n+4,n,n+1,n+2]:=fun b v hb m=>by
   have:=(hf b m).1
   rw[this] at hb
   cases hb
  have nlt:∀ b o,s.heap.get? b=some o->b≠s.heap.objs.size:=fun b o x=>zcy6 (zcw6 x)
  have hok:HOk X.prog X.w (upd H s.heap.objs.size (.tup [x,y,u'])) h4:=fun b v' hb=>by
   by_cases e1:b=s.heap.objs.size
   ·subst e1
    rw[zc7] at hb
    cases hb
    exact⟨by show 3<=sizeLine;decide,[u,v,t],.cons ru (.cons rv (.cons rt .nil)),⟨_,ht4,rfl,_,rfl⟩⟩
   ·rw[zc3 e1] at hb
    refine (I.hok b v' hb).stay (fun c w' hc q=>?_) (fun c q=>?_) (fun c ys q=>?_)
    ·rcases hc with rfl|hc
     ·exact kp _ _ (nof _ _ hb) q
     ·exact kp _ _ (nof _ _ hc) q
    ·rw[zc3 (za5 q hfr)];exact q
    ·rw[zc3 (za5 q hfr)];exact q
  have chs:∀ b∈[n+5,n+3,n+4,n,n+1,n+2],(b∈X.ex∨X.s₀.heap.objs.size<=b)/\b≠X.env.locals/\(∀ x c,X.env.cells.lookup x=some c->c≠b)/\∀ p∈X.pn++pins,p.1≠b:=fun b hb=>by
   obtain⟨f0,f1,f2,f3,f4,f5⟩:=hf b hb
   exact⟨f3,f1,f4,f5⟩
  have I2:Inv X pins σ (upd H s.heap.objs.size (.tup [x,y,u'])) { s with heap:=h4 }:=
   I.step (g':=s.gens) (d':=s.drawn) (t':=s.toks) (ch:=[n+5,n+3,n+4,n,n+1,n+2]) chs (fun b o _ _ hb x _=>kp b o hb x) (fun b o _ _ hb x _=>⟨o.slots,kp b o hb x⟩)
    (fun b o _ x n=>by rw[zc3 (nlt b o x)];exact n) (fun b o hb x=>⟨o,kp b o hb x⟩) (fun b ys q=>by rw[zc3 (za5 q hfr)];exact q) (fun b o v q=>by rw[zc3 (za5 q hfr)];exact q)
    (fun b ps q=>⟨#[],by rw[zc3 (za5 q hfr),q];simp⟩)
    (fun m hm=>by
     obtain⟨o,es,ep,ho,r⟩:=hm
     exact⟨o,es,ep,kp _ o (fun m=>(chs _ m).2.1 rfl) ho,r⟩) hok I.bare
  refine⟨.ref s.heap.objs.size,_,I2,rfl,⟨_,x,y,u',rfl,hfr,Same.upd hfr,zc7,fun ys hy'=>by rw[I.list_inj hy' hq1];exact hx,fun ys hy'=>by rw[I.list_inj hy' hq2];exact hy,fun ys hy'=>by rw[I.list_inj hy' hq3];exact hu'⟩,⟨z4,?_,⟨u,v,t,?_⟩,?_,?_,?_⟩,fun b hb=>?_⟩
  ·exact (hs4.2 _ (D _ _ (by omega))).trans (kp3 _ _ (D _ _ (by omega)) (D _ _ (by omega)) (D _ _ (by omega)) (D _ _ (by omega)) (D _ _ (by omega)) hTI)
  ·exact (hs4.2 _ (D _ _ (by omega))).trans TO3
  ·exact j1.extBut hs4.extBut (D _ _ (by omega))
  ·exact j2.extBut hs4.extBut (D _ _ (by omega))
  ·exact j3.extBut hs4.extBut (D _ _ (by omega))
  ·have hb0:H b=none:=(hf b hb).1
   have hlt:b≠s.heap.objs.size:=by
    simp only[zcw3,zcx3,or_false] at hb
    rcases hb with rfl|rfl|rfl|rfl|rfl|rfl
    ·exact nlt _ _ hz
    ·exact nlt _ _ hTI
    ·exact nlt _ _ hTO
    ·obtain⟨o,ho,_⟩:=h1;exact nlt _ _ ho
    ·obtain⟨o,ho,_⟩:=h2;exact nlt _ _ ho
    ·obtain⟨o,ho,_⟩:=h3;exact nlt _ _ ho
   rw[zc3 hlt];exact hb0
 done:=by
  intro X hP hw hK hc i pins s σ H E I hf st hg
  subst hP hw hK
  obtain⟨hz,hTI,⟨a0,b0,c0,hTO⟩,h1,h2,h3⟩:=st
  obtain⟨xs,hq1,hx⟩:=hg
  obtain⟨its1,rv1,p1,_⟩:=I.list hq1
  have hl1:=rv1.length
  have nof:∀ b v,H b=some v->b ∉ [n+5,n+3,n+4,n,n+1,n+2]:=fun b v hb m=>by
   have:=(hf b m).1
   rw[this] at hb
   cases hb
  have chs:∀ b∈[n+5,n+3,n+4,n,n+1,n+2],(b∈X.ex∨X.s₀.heap.objs.size<=b)/\b≠X.env.locals/\(∀ x c,X.env.cells.lookup x=some c->c≠b)/\∀ p∈X.pn++pins,p.1≠b:=fun b hb=>by
   obtain⟨f0,f1,f2,f3,f4,f5⟩:=hf b hb
   exact⟨f3,f1,f4,f5⟩
  refine zbn8 (I.ok.hd hc) L1 hz hTI h1 p1.isList (by simp;omega) fun h' kp3=>⟨rfl,?_⟩
  have kp:∀ b o,b ∉ [n+5,n+3,n+4,n,n+1,n+2]->s.heap.get? b=some o->h'.get? b=some o:=fun b o hb x=>by
   simp only[zcw3,zcx3,or_false,not_or] at hb
   obtain⟨b1,b2,b3,b4,b5,b6⟩:=hb
   exact kp3 b o b1 b4 x
  have hok:HOk X.prog X.w H h':=fun b v' hb=>by
   refine (I.hok b v' hb).stay (fun c w' hc q=>?_) (fun c q=>q) (fun c ys q=>q)
   rcases hc with rfl|hc
   ·exact kp _ _ (nof _ _ hb) q
   ·exact kp _ _ (nof _ _ hc) q
  exact I.step (g':=s.gens) (d':=s.drawn) (t':=s.toks) (ch:=[n+5,n+3,n+4,n,n+1,n+2]) chs (fun b o _ _ hb x _=>kp b o hb x) (fun b o _ _ hb x _=>⟨o.slots,kp b o hb x⟩)
    (fun b o _ x n=>n) (fun b o hb x=>⟨o,kp b o hb x⟩) (fun b ys q=>q) (fun b o v q=>q)
    (fun b ps q=>⟨#[],by rw[q];simp⟩)
    (fun m hm=>by
     obtain⟨o,es,ep,ho,r⟩:=hm
     exact⟨o,es,ep,kp _ o (fun m=>(chs _ m).2.1 rfl) ho,r⟩) hok I.bare
 self:=fun _ _ _ _ _ st h=>wpAny_pyIter_zip st.1 h
section
variable {X:Cx}{K:zcu8}
@[irreducible] def rZip3 (K:zcu8) (a b c:Addr) (H:Hp) (R:It->Hp->Prop):Prop:=(∃ xs,SqL K H a xs)/\(∃ ys,SqL K H b ys)/\(∃ us,SqL K H c us)/\R (Itz3 K a b c) H
def qiZip3 (K:zcu8) (ta:TA):TI:=fun σ H R=>ta σ H fun vs H1=>match vs with
 | [.ref a,.ref b,.ref c]=>rZip3 K a b c H1 R
 | _=>False
theorem vals3 {x y z:V}{us:List Value}(r:Vals [x,y,z] us):∃ u v t,us=[u,v,t]/\RelV x u/\RelV y v/\RelV z t:=by
 cases r with
 | cons r1 r=>
  cases r with
  | cons r2 r=>
   cases r with
   | cons r3 r=>
    cases r
    exact⟨_,_,_,rfl,r1,r2,r3⟩
theorem zcl4 {elts:List Expr}{k:Nat}{pt:Pos}{a b c:Expr}{ta:TA}{p pos:Pos}(hK:X.K=K) (hm:X.mg "zip"=none) (ha:PA X [a,b,c] ta) (hg:Gl X "zip":=by rfl) (hs:starEach [a,b,c] X.env=(false,eval a X.env) :: starEach [b,c] X.env:=by rfl)
  (hpl:(backTo pos (starEach [b,c] X.env)).any (·.1)=false:=by rfl) :
  PI X (.Tuple elts k pt) (.Call (.Name "zip" p) [a,b,c] [] pos) (qiZip3 K ta):=by
 subst hK
 intro pins s σ H R I h
 refine Call_ (zam1 I hg hm zcd0 (PyProof.Rows.callWith_type1 (thn (ha pos pins s σ H _ I h) fun us s1 ⟨vs,H1,I1,r1,q1⟩=>?_) hs hpl))
 dsimp only at q1
 split at q1
 ·rename_i l m o
  unfold rZip3 at q1
  obtain⟨⟨xs,hq1⟩,⟨ys,hq2⟩,⟨zs,hq3⟩,q⟩:=q1
  obtain⟨u1,u2,u3,rfl,rx,ry,rz⟩:=vals3 r1
  cases rx
  cases ry
  cases rz
  obtain⟨its1,rv1,p1,_⟩:=I1.list hq1
  obtain⟨its2,rv2,p2,_⟩:=I1.list hq2
  obtain⟨its3,rv3,p3,_⟩:=I1.list hq3
  have l1:@LT.lt Nat _ l s1.heap.objs.size:=by obtain⟨o,ho,_⟩:=p1.isList;exact zcw6 ho
  have l2:@LT.lt Nat _ m s1.heap.objs.size:=by obtain⟨o,ho,_⟩:=p2.isList;exact zcw6 ho
  have l3:@LT.lt Nat _ o s1.heap.objs.size:=by obtain⟨o,ho,_⟩:=p3.isList;exact zcw6 ho
  refine zbn2 p1.isList p2.isList p3.isList fun h' n hn hz hTI hTO j1 j2 j3 hk=>?_
  refine wpAny_pyIter_zip hz ?_
  have I2:Inv X pins σ H1 { s1 with heap:=h' }:=I1.kept (t':=s1.toks) hk
  rw[← hn] at l1 l2 l3
  refine⟨_,_,_,Itz3 X.K l m o,H1,rfl,I2,zbq0 l m o n l1 l2 l3,⟨hz,hTI,⟨_,_,_,hTO⟩,j1,j2,j3⟩,fun b hb=>?_,q⟩
  have hb':s1.heap.objs.size<=b:=by
   rw[← hn]
   simp only[zcw3,zcx3,or_false] at hb
   rcases hb with rfl|rfl|rfl|rfl|rfl|rfl
   ·exact zda4 _ _
   ·exact zda4 _ _
   ·exact zda4 _ _
   ·exact zcw9 _
   ·exact zda4 _ _
   ·exact zda4 _ _
  exact I1.fpOk hb' (I1.hok.fresh hb')
 ·exact q1.elim
end
section
variable {K:zcu8}{H:Hp}{R:It->Hp->Prop}
theorem zci6 {a b c:Addr}{xs ys us:List V}(h:SqL K H a xs) (h':SqL K H b ys) (h'':SqL K H c us) (q:R (Itz3 K a b c) H):rZip3 K a b c H R:=by unfold rZip3;exact⟨⟨xs,h⟩,⟨ys,h'⟩,⟨us,h''⟩,q⟩
theorem Wk.zip3 {a b c:Addr}{xs ys us:List V}{n:Nat}{H1:Hp}(h:SqL K H1 a xs) (h':SqL K H1 b ys) (h'':SqL K H1 c us) (hx:xs.length=n) (hy:ys.length=n) (hu:us.length=n):Wk (Itz3 K a b c) n H1 fun i v H=>∃ p x y u,v=.ref p/\H p=some (.tup [x,y,u])/\xs[i]?=some x/\ys[i]?=some y/\us[i]?=some u:=
 ⟨fun i H s hi=>⟨xs,ys,us,xs[i],ys[i],us[i],s.seq h,s.seq h',s.seq h'',by simp,by simp,by simp⟩,fun H s=>⟨xs,s.seq h,Nat.le_of_eq hx⟩,fun i H v H' s _ y=>by
  obtain⟨p,x,y,u,rfl,y1,y2,y3,y4,y5,y6⟩:=y
  exact⟨y2,p,x,y,u,rfl,y3,y4 xs (s.seq h),y5 ys (s.seq h'),y6 us (s.seq h'')⟩⟩
end
end L2
set_option maxHeartbeats 2000000
namespace L2
open PySem PySem.Spec PyProof.Rows
section
variable {X:Cx}{K:zcu8}
end
end L2
set_option maxHeartbeats 2000000
namespace L2
open PySem PySem.Spec PyProof.Rows
section
variable {X:Cx}{K:zcu8}
end
end L2
set_option maxHeartbeats 2000000
namespace L2
open PySem PySem.Spec PyProof.Rows
section
variable {X:Cx}{K:zcu8}
end
theorem Same.seqT {K:zcu8}{H H':Hp}{a:Addr}{xs:List V}(e:Same H H') (h:H a=some (.tup xs)):SqT K H' a xs:=SqT.of (e _ _ h)
theorem Wk.tup {K:zcu8}{a:Addr}{xs:List V}{H1:Hp}(h:H1 a=some (.tup xs)):Wk (Itt K a) xs.length H1 fun i x _=>xs[i]?=some x:=
 ⟨fun i H s hi=>⟨xs,xs[i],Same.seqT s h,by simp[hi]⟩,fun H s=>⟨xs,Same.seqT s h,zcw9 _⟩,fun i H x H' s _ y=>by
  obtain⟨e,y⟩:=y
  subst e
  exact⟨Same.refl _,y xs (Same.seqT s h)⟩⟩
end L2
set_option maxHeartbeats 4000000
namespace L2
open PySem PySem.Spec PyProof.Rows
section
variable {X:Cx}{K:zcu8}{H:Hp}{Q:VK}
end
section
variable {X:Cx}{K:zcu8}
end
end L2
set_option maxHeartbeats 4000000
namespace L2
open PySem PySem.Spec PyProof.Rows
section
variable {prog:Program}{w:World}{A:Around}{E:Value->Shared->Prop}{h:Heap}{g:Array GenState}{d:Drawn}{t:Nat}{os:OsState}
variable {nm q:Str}{C N:Addr}{bs bm bmB:List Value}{hdct:Bool}{sn:List Str}{sub:List Value}{ab:Bool}{col:Option Bool}{dd:Option Addr}{k0 k1 k2 k3 k5:Option Value}{B newId initId:String}{K:zcu8}
theorem zao7 (F:ExcBaseFacts B newId initId bmB) (T:OwnTail h bmB bm) (X:K.In h) {rest:List Value}{fI:Addr}{Q:Fin->Shared->Prop}
  (hC:h.get? C=some (excClassObj nm q C N bs bm hdct sn sub ab col dd k0 k1 k2 k3 k5 newId)) (hi:zcy7 K (.ref C) "__init__"=some (some (.ref fI))) (hf:zcz2 K (.ref fI)=some (.type "function"))
  (hq:∀ h' e,Heap.MadeExcOf h h' e (.ref C) rest->h.objs.size<=e->wpAny (model prog w) A (call (.ref fI) (.ref e :: rest)) (fun r s'=>r=.none/\Q (.done (.ret (.ref e))) s') E ⟨h',g,d,t,os⟩) (hrest:rest.length<=sizeLine) :
  wpAny (model prog w) A (Builtin.«type.__call__» ⟨.ref C :: rest,[]⟩) Q E ⟨h,g,d,t,os⟩:=by
 repeat (first|with_reducible refine wpAny_loadPart_at hC ?_|with_reducible refine wpAny_madeBy_exc hC ?_|wp_step)
 refine codeAny_call_builtin_code (Code.quiet_builtin _ F.quiet) (wpAny_check_new_subT F T hC ?_)
 refine codeAny_exc_new_subT F T hC ?_ hrest
 show wpAny _ _ _ _ _ _
 have kp:∀ b o,h.get? b=some o->((h.push { cls:=.type "tuple",data:=.seq rest.toArray }).push { cls:=.ref C,data:=.fields #[.ref h.objs.size,.none,.none,.none,.bool false,.none] }).get? b=some o:=fun b o e=>zcv0 _ (zcv0 _ e)
 have hC₁:=kp _ _ hC
 have X₁:=X.keeps kp
 have hget:((h.push { cls:=.type "tuple",data:=.seq rest.toArray }).push
   { cls:=.ref C,data:=.fields #[.ref h.objs.size,.none,.none,.none,.bool false,.none] }).get? (h.objs.size+1)=some
   { cls:=.ref C,data:=.fields #[.ref h.objs.size,.none,.none,.none,.bool false,.none] }:=by heap_get
 have hcC:(Value.ref C :: bm).contains (.ref C)=true:=by simp
 unfold isInstance
 repeat (first|with_reducible refine wpAny_loadPart_at hget ?_|(with_reducible refine wpAny_isSubtype_exc hC₁ ?_;rw[hcC])|wp_step)
 show wpAny _ _ (typeLookup (.ref C) _) _ _ _
 refine (PySem.W.looks_findIn X₁ hi).at ?_
 refine wpAny_holding (wpAny_bind ((PySem.W.bind_fn X₁ _ hf).at ?_))
 refine wpAny_bind (wpAny_mono (hq _ (h.objs.size+1) ⟨kp,Heap.get?_none_of_le (Nat.le_succ _),h.objs.size,hget,Heap.get?_none_of_le (zcw9 _),?_⟩ (Nat.le_succ _)) (fun r s' hr=>?_) fun _ _ x=>x)
 ·exact zcv0 _ (Heap.get?_push_at rfl rfl)
 ·obtain⟨rfl,hQ⟩:=hr
  wp_walk
  exact hQ
theorem zbt2 (F:ExcBaseFacts B newId initId bmB) (T:OwnTail h bmB bm) (X:K.In h) {rest:List Value}{fI:Addr}{Q:Value->Shared->Prop}
  (hC:h.get? C=some (excClassObj nm q C N bs bm hdct sn sub ab col dd k0 k1 k2 k3 k5 newId)) (hi:zcy7 K (.ref C) "__init__"=some (some (.ref fI))) (hf:zcz2 K (.ref fI)=some (.type "function"))
  (hq:∀ h' e,Heap.MadeExcOf h h' e (.ref C) rest->h.objs.size<=e ->
   wpAny (model prog w) (A.under (.builtin "type.__call__" ⟨.ref C :: rest,[]⟩)) (call (.ref fI) (.ref e :: rest)) (fun r s'=>r=.none/\Q (.ref e) s') E ⟨h',g,d,t,os⟩) (hrest:rest.length<=sizeLine) :
  wpAny (model prog w) A (call (.ref C) rest) Q E ⟨h,g,d,t,os⟩:=by
 have f1:=tc_lookup
 have f2:=tc_bind (.ref C)
 have hT:(⟨h,g,d,t,os⟩:Shared).TypeIs (.ref C) "type":=⟨_,hC,rfl⟩
 refine wpAny_call (codeAny_of_tree ?_)
 show wpAny _ _ (callAny (.ref C) _) _ _ _
 repeat (any_goals (first|assumption|with_reducible refine wpAny_loadPart_at hC ?_|wp_step))
 refine⟨rfl,?_⟩
 refine codeAny_call_builtin_at (Code.quiet_builtin _ (by decide +kernel)) entry_typeCall (wpAny_check_type_call_sub hC (zao7 (hrest:=hrest) F T X hC hi hf fun h' e hm hz=>?_))
 exact hq h' e hm hz
end
section
variable {prog:Program}{w:World}{A:Around}{E:Value->Shared->Prop}{s:Shared}{env:Env}
variable {nm q:Str}{C N:Addr}{bs bm bmB:List Value}{hdct:Bool}{sn:List Str}{sub:List Value}{ab:Bool}{col:Option Bool}{dd:Option Addr}{k0 k1 k2 k3 k5:Option Value}{B newId initId:String}{K:zcu8}
theorem zx2 {M:Model}{x:Sem Value}{Q:Flow->Shared->Prop}(hbase:bm.contains (.type "BaseException")=true) (hh:A.handled=none)
  (h:wpAny M A x (fun v s₁=>∃ (e t:Addr) (dx:Option Addr),v=.ref e/\s₁.heap.get? C=some (excClassObj nm q C N bs bm hdct sn sub ab col dd k0 k1 k2 k3 k5 newId)/\s₁.heap.get? e=some { cls:=.ref C,dict:=dx,data:=.fields #[.ref t,.none,.none,.none,.bool false,.none] }/\E (.ref e) s₁) E s) :
  wpAny M A (raiseStmt env (some x) none) Q E s:=by
 have hcB:(Value.ref C :: bm).contains (.type "BaseException")=true:=by rw[List.contains_cons,hbase,Bool.or_true]
 unfold raiseStmt
 refine wpAny_bind (wpAny_mono h (fun v s₁ h₁=>?_) fun _ _ x=>x)
 obtain⟨e,t,dx,rfl,hC,he,hE⟩:=h₁
 obtain⟨hp,g,d,tk,os⟩:=s₁
 repeat (first|with_reducible refine wpAny_loadPart_at he ?_|with_reducible refine wpAny_loadPart_at hC ?_|(with_reducible refine wpAny_isSubtype_exc hC ?_;rw[hcB])|wp_step)
 exact wpAny_raiseNew_none hh hE
theorem zbk3 (F:ExcBaseFacts B newId initId bmB) {x:Str}{np cpos pos:Pos}{args:List Expr}{fI:Addr}{Q:Flow->Shared->Prop}
  (hbase:bm.contains (.type "BaseException")=true) (hh:A.handled=none) (hplain:(backTo cpos (starEach args env)).any (·.1)=false) (hi:zcy7 K (.ref C) "__init__"=some (some (.ref fI))) (hf:zcz2 K (.ref fI)=some (.type "function"))
  (h:wpAny (model prog w) A (eval (.Name x np) env) (fun f s₁=>f=.ref C/\wpAny (model prog w) A (evalArgs (.ref C) true (backTo cpos (starEach args env)) [])
   (fun a s₂=>a.kw=[]/\a.pos.length<=sizeLine/\s₂.heap.get? C=some (excClassObj nm q C N bs bm hdct sn sub ab col dd k0 k1 k2 k3 k5 newId)/\K.In s₂.heap/\OwnTail s₂.heap bmB bm /\
    ∀ h' e,Heap.MadeExcOf s₂.heap h' e (.ref C) a.pos->s₂.heap.objs.size<=e->wpAny (model prog w) (A.under (.builtin "type.__call__" ⟨.ref C :: a.pos,[]⟩)) (call (.ref fI) (.ref e :: a.pos))
     (fun r s'=>r=.none/\(∃ (t:Addr) (dx:Option Addr),s'.heap.get? e=some { cls:=.ref C,dict:=dx,data:=.fields #[.ref t,.none,.none,.none,.bool false,.none] })/\s'.heap.get? C=some (excClassObj nm q C N bs bm hdct sn sub ab col dd k0 k1 k2 k3 k5 newId)/\E (.ref e) s') E { s₂ with heap:=h' }) E s₁) E s) :
  wpAny (model prog w) A (exec (.Raise (some (.Call (.Name x np) args [] cpos)) none pos) env) Q E s:=by
 rw[arm_exec_Raise]
 first
  | refine wpAny_bind (wpAny_standAt (zx2 (C:=C) (nm:=nm) (q:=q) (N:=N) (bs:=bs) (bm:=bm) (hdct:=hdct) (sn:=sn) (sub:=sub) (ab:=ab) (col:=col) (dd:=dd) (k0:=k0) (k1:=k1) (k2:=k2) (k3:=k3) (k5:=k5) (newId:=newId) hbase hh (wpAny_bind (wpAny_mono (wpAny_Call_ofName (wpAny_mono h (fun f s₁ h₁=>?_) fun _ _ x=>x)) (fun v s₃ h₃=>wpAny_bind (wpAny_standAt (wpAny_pure h₃))) fun _ _ x=>x))))
  | (simp only[evalOpt,Option.map];refine wpAny_bind (wpAny_standAt (zx2 (C:=C) (nm:=nm) (q:=q) (N:=N) (bs:=bs) (bm:=bm) (hdct:=hdct) (sn:=sn) (sub:=sub) (ab:=ab) (col:=col) (dd:=dd) (k0:=k0) (k1:=k1) (k2:=k2) (k3:=k3) (k5:=k5) (newId:=newId) hbase hh (wpAny_bind (wpAny_mono (wpAny_Call_ofName (wpAny_mono h (fun f s₁ h₁=>?_) fun _ _ x=>x)) (fun v s₃ h₃=>wpAny_bind (wpAny_standAt (wpAny_pure h₃))) fun _ _ x=>x)))))
 obtain⟨rfl,h₁⟩:=h₁
 unfold callWith
 refine wpAny_bind (wpAny_holding (wpAny_mono h₁ (fun a s₂ h₂=>wpAny_bind (wpAny_standAt ?_)) fun _ _ x=>x))
 obtain⟨apos,akw⟩:=a
 obtain⟨hkw,hlen,hC,hX,T,h₂⟩:=h₂
 obtain rfl:akw=[]:=hkw
 obtain⟨hp,g,d,tk,os⟩:=s₂
 simp only[hplain]
 refine wpAny_bind (wpAny_keeperOf_exc hC ?_)
 refine wpAny_bind (zbt2 (hrest:=hlen) F T hX hC hi hf fun h' e hm hz=>wpAny_mono (h₂ h' e hm hz) (fun r s' hr=>⟨hr.1,wpAny_bind (wpAny_holding (wpAny_point (wpAny_pure ?_)))⟩) fun _ _ z=>z)
 obtain⟨_,⟨t,dx,ho⟩,hC',hE⟩:=hr
 exact⟨e,t,dx,rfl,hC',ho,hE⟩
end
section
open PySem.W
variable {prog:Program}{w:World}{A:Around}{E:Value->Shared->Prop}{s:Shared}{K:Frag}
theorem zcj2 {x C aH:Addr}{ox:Obj}{vs:Array Value}{name:Str}{v:Value}{cd:ClassData}{Q:Unit->Shared->Prop}(X:K.In s.heap) (hx:s.heap.get? x=some ox) (hc:ox.cls=.ref C) (hdx:ox.dict=none) (hd:ox.data=.fields vs)
  (hs:findIn K (.ref C) "__setattr__"=some (some (.builtin "object.__setattr__"))) (hcd:clsIn K C=some cd) (hmro:cd.mro=.ref C :: .ref aH :: bmV) (hh:cd.hasDict=true) (hn:findIn K (.ref C) name=some none)
  (hq:∀ h' tk',h'.get? x=some { ox with dict:=some s.heap.objs.size }->h'.Ns1 s.heap.objs.size (fun y=>if y=name then some v else none)->(∀ b o,b≠x->s.heap.get? b=some o->h'.get? b=some o)->Q () { s with heap:=h',toks:=tk' }) :
  wpAny (model prog w) A (setAttr (.ref x) name v) Q E s:=by
 have I:InstAt s.heap x ox C none:=⟨hx,hc,by unfold notCls;rw[hd],by rw[hdx];trivial⟩
 refine set_plain X I hs ?_
 have SF:=PySem.F.store_object
 have hm:Looks (model prog w) s.heap (mroOf (.ref C)) cd.mro:=(looks_clsIn X hcd).andThen .now
 have ty:=I.type (M:=model prog w)
 have sub:Looks (model prog w) s.heap (isInstance (.ref x) (.type "object")) true:=ty.andThen (looks_mroIn X (by unfold mroIn;rw[hcd,Option.bind_some,hmro];rfl))
 refine codeAny_call_builtin SF.slot.plain SF.entry (@check_slot (model prog w) _ _ { s with toks:=s.toks+1 } "object.__setattr__" "object" "__setattr__" (.ref x) [.str name s.toks,v] [] _ SF.kind SF.split sub (SF.args (.ref x) (.str name s.toks) v) ?_)
 rw[osa_eq,refuse_eq]
 refine wpAny_bind (wpAny_bind (ty.here (s:={ s with toks:=s.toks+1 }) (wpAny_bind (hm.here (s:={ s with toks:=s.toks+1 }) ?_))))
 rw[hmro,refuseLoop_ref,refuseLoop_ref,PySem.F.store_ValueError.passes]
 refine wpAny_pure (wpAny_bind (ty.here (s:={ s with toks:=s.toks+1 }) (wpAny_bind ((looks_findIn X hn).here (s:={ s with toks:=s.toks+1 }) (wpAny_bind (wpAny_pure ?_))))))
 have hxs:x≠s.heap.objs.size:=zcy6 (zcw6 hx)
 have hx₁:(s.heap.push { cls:=.type "dict",data:=.dict #[] }).get? x=some ox:=zcv0 _ hx
 show wpAny _ _ (Builtin.ObjectAttr.storeInOwnDict (.ref x) (.ref C) (.str name s.toks) name v false) _ _ _
 unfold Builtin.ObjectAttr.storeInOwnDict Builtin.ObjectAttr.ownDictForStores instanceDict
 refine wpAny_bind (wpAny_pure (wpAny_bind (wpAny_bind (wpAny_loadPart (s:={ s with toks:=s.toks+1 }) hx ?_))))
 rw[hc]
 refine wpAny_bind ((looks_clsIn X hcd).here (s:={ s with toks:=s.toks+1 }) ?_)
 rw[hh]
 dsimp only
 rw[hdx,if_neg (by decide)]
 dsimp only
 rw[if_neg (by simp[typeHasDict]),hd]
 dsimp only
 refine wpAny_bind (wpAny_alloc' ?_)
 refine wpAny_bind (wpAny_update' hx₁ ?_)
 refine wpAny_pure ?_
 have hgd:((s.heap.push { cls:=.type "dict",data:=.dict #[] }).update x fun o=>{ cls:=o.cls,dict:=some s.heap.objs.size,data:=o.data,slots:=o.slots }).get? s.heap.objs.size=some { cls:=.type "dict",data:=.dict #[] }:=
  (Heap.get?_update_ne _ _ _ _ hxs.symm).trans (Heap.get?_push_at rfl rfl)
 have hnd:((s.heap.push { cls:=.type "dict",data:=.dict #[] }).update x fun o=>{ cls:=o.cls,dict:=some s.heap.objs.size,data:=o.data,slots:=o.slots }).Ns s.heap.objs.size (fun _=>none):=
  ⟨_,#[],_,hgd,rfl,fun e he=>absurd he (by simp),fun _=>rfl⟩
 show wpAny _ _ (Builtin.ObjectAttr.storeInDict s.heap.objs.size (.str name s.toks) name v) _ _ _
 unfold Builtin.ObjectAttr.storeInDict Builtin.ObjectAttr.newKeyGuard
 refine wpAny_bind (wpAny_pure (wpAny_bind (wpAny_nsSet1 (Heap.Ns1.of_empty hnd) fun h' hn' hs=>?_)))
 obtain⟨oD,esD,epD,hoD,hdD,hcD⟩:=hn'.count (Within.cons name v Within.nil)
 refine wpAny_bind (wpAny_lookBehind hoD (by rw[hdD];exact pastItsLine_dict (zdb2 hcD (by rw[zcx0,zcz4,sizeLine_eq];omega))) ?_)
 refine wpAny_pure (hq h' _ ?_ hn' (fun b ob hbx hb=>?_))
 ·refine (hs.2 x hxs).trans (zcz8 _ hx₁ ?_)
  have hfr:=(Heap.get?_some_iff.mp hx).2
  obtain⟨oc,od,odt,osl⟩:=ox
  cases odt<;>first|rfl|exact hfr
 ·exact (hs.2 b (zcy6 (zcw6 hb))).trans ((Heap.get?_update_ne _ _ _ _ hbx).trans (zcv0 _ hb))
end
end L2
set_option maxHeartbeats 4000000
namespace L2
open PySem PySem.Spec PyProof.Rows
def ExNew (e:Addr) (cls:Value) (dx:Option Addr) (h:Heap):Prop:=∃ t:Addr,h.get? e=some { cls:=cls,dict:=dx,data:=.fields #[.ref t,.none,.none,.none,.bool false,.none] }
abbrev exN (e:Addr) (cls:Value) (dx:Option Addr):HO:=.ext (ExNew e cls dx)
theorem zcf3 {P:Program}{w:World}{H:Hp}{h:Heap}{e:Addr}{cls:Value}{dx:Option Addr}(x:ExNew e cls dx h):zk0 P w H h e (exN e cls dx):=by
 obtain⟨t,ht⟩:=id x
 exact⟨x,⟨_,ht⟩,fun h1 h2 ⟨t',e1⟩ k=>⟨t',k _ e1⟩⟩
structure IniK (K:zcu8) (C aH f:Addr) (fld:Str):Prop where
 ob:∃ (nm q:Str) (N:Addr) (bs:List Value) (sn:List Str) (sub:List Value) (ab:Bool) (col:Option Bool) (dd:Option Addr) (k0 k1 k2 k3 k5:Option Value),K.lookup C=some (excClassObj nm q C N bs (.ref aH :: bmV) true sn sub ab col dd k0 k1 k2 k3 k5 newV)
 tl:∀ h:Heap,K.In h->OwnTail h bmV (.ref aH :: bmV)
 init:zcy7 K (.ref C) "__init__"=some (some (.ref f))
 fn:zcz2 K (.ref f)=some (.type "function")
 sa:zcy7 K (.ref C) "__setattr__"=some (some (.builtin "object.__setattr__"))
 nf:zcy7 K (.ref C) fld=some none
section
variable {X:Cx}{K:zcu8}
@[irreducible] def rSetX (C:Addr) (fld:Str) (e:Addr) (y:V) (H:Hp) (R:Hp->Prop):Prop:=H e=some (exN e (.ref C) none)/\∀ d H',H d=none->d≠e->Chg e H H'->H' e=some (exN e (.ref C) (some d))->H' d=some (.xd [(fld,y)])->R H'
def sFldX (C:Addr) (fld:Str) (ta tv:TE):TS:=fun D σ H=>tv σ H fun y H1=>ta σ H1 fun x H2=>match x with
 | .ref e=>rSetX C fld e y H2 (fun H'=>D.nx σ H')
 | _=>False
theorem zcg6 {C:Addr}{fld:Str}{e:Addr}{y:V}{H:Hp}{R:Hp->Prop}(h:H e=some (exN e (.ref C) none)) (q:∀ d H',H d=none->d≠e->Chg e H H'->H' e=some (exN e (.ref C) (some d))->H' d=some (.xd [(fld,y)])->R H'):rSetX C fld e y H R:=by unfold rSetX;exact⟨h,q⟩
theorem psFldX {C aH f:Addr}{fld:Str}{o value:Expr}{ta tv:TE}{pos pos':Pos}(hK:X.K=K) (Z:IniK K C aH f fld) (ha:PE X o ta) (hv:PE X value tv) (hs:swapsWith value (some (.Attribute o fld pos')) pos.line X.env=pure false:=by rfl):PS X (.Assign [.Attribute o fld pos'] value pos) (sFldX C fld ta tv):=by
 subst hK
 intro pins s σ H D I h
 refine plainObj_wpAny_Assign_Attribute (thn (hv pins s σ H _ I h) fun u s1 ⟨y,H1,I1,ry,q⟩=>thn (ha pins s1 σ H1 _ I1 q) fun ov s2 ⟨x,H2,I2,rx,q2⟩=>?_) hs
 dsimp only at q2
 split at q2
 case h_2=>exact q2.elim
 rename_i e
 obtain rfl:ov=Value.ref e:=rx
 unfold rSetX at q2
 obtain⟨he,q2⟩:=q2
 obtain⟨⟨t,ht⟩,_,_⟩:=(show zk0 X.prog X.w H2 s2.heap e (exN e (.ref C) none) from I2.hok e _ he)
 obtain⟨nm,qn,N,bs,sn,sub,ab,col,dd,k0,k1,k2,k3,k5,lk⟩:=Z.ob
 have hcd:zcy5 X.K C=some { name:=nm,bases:=bs,mro:=Value.ref C :: .ref aH :: bmV,ns:=N,qualname:=qn,hasDict:=true,slotNames:=sn,subclasses:=sub,abstract:=ab,collection:=col }:=by
  unfold zcy5;rw[lk]
 refine zcj2 I2.kIn ht rfl rfl rfl Z.sa hcd rfl rfl Z.nf fun h' tk' hx' hn' hk=>?_
 have hf:H2 s2.heap.objs.size=none:=I2.hok.fresh (zcw9 _)
 have hne:s2.heap.objs.size≠e:=zdc0 (zcw6 ht)
 have e1:(h'.update e fun _=>{ cls:=.ref C,data:=.fields #[.ref t,.none,.none,.none,.bool false,.none] }).get? e=some { cls:=.ref C,data:=.fields #[.ref t,.none,.none,.none,.bool false,.none] }:=zcz8 _ hx' rfl
 have k1:∀ b u,s2.heap.get? b=some u->(h'.update e fun _=>{ cls:=.ref C,data:=.fields #[.ref t,.none,.none,.none,.bool false,.none] }).get? b=some u:=fun b u hb=>by
  by_cases hbe:b=e
  ·subst hbe
   rw[e1];exact ht.symm.trans hb
  ·rw[zcx7 _ _ (Ne.symm hbe)];exact hk b u hbe hb
 have I3:=I2.laid (a:=s2.heap.objs.size) (o:=.xd [(fld,y)]) (h':=h'.update e fun _=>{ cls:=.ref C,data:=.fields #[.ref t,.none,.none,.none,.bool false,.none] }) (t':=tk') k1 (zcw9 _)
  ⟨_,hn'.at (fun o q=>by rw[zcx7 _ _ (Ne.symm hne)];exact q),fun g=>by
   by_cases hg:g=fld
   ·subst hg
    have hb:(g==g)=true:=by simp
    show RelO (List.lookup g [(g,y)]) (if g=g then some u else none)
    rw[if_pos rfl,show List.lookup g [(g,y)]=some y by simp only[List.lookup,hb]];exact ry
   ·have hb:(g==fld)=false:=beq_eq_false_iff_ne.mpr hg
    show RelO (List.lookup g [(fld,y)]) (if g=fld then some u else none)
    rw[if_neg hg,show List.lookup g [(fld,y)]=none by simp only[List.lookup,hb]];exact True.intro⟩
 have heu:upd H2 s2.heap.objs.size (.xd [(fld,y)]) e=some (exN e (.ref C) none):=by rw[zc3 (Ne.symm hne)];exact he
 have I4:=I3.write (x:=e) (e:=e) (o:=exN e (.ref C) (some s2.heap.objs.size)) (h':=h') (t':=tk') (by rw[heu];exact True.intro) (.inl rfl) (fun b u hb z=>by
  have z:(h'.update e fun _=>{ cls:=.ref C,data:=.fields #[.ref t,.none,.none,.none,.bool false,.none] }).get? b=some u:=z
  rw[zcx7 _ _ (Ne.symm hb)] at z;exact z) ⟨_,hx'⟩ (zcf3 ⟨t,hx'⟩)
 exact⟨σ,_,I4,q2 _ _ hf hne (fun b o hb z=>by rw[zc3 hb,zc3 (za5 z hf)];exact z) zc7 (by rw[zc3 hne,zc7])⟩
@[irreducible] def zaf0 (C:Addr) (fld:Str):Sp:=fun vs H Q _=>∃ (e:Addr) (v:V),vs=[.ref e,v]/\H e=some (exN e (.ref C) none)/\∀ d H',H d=none->d≠e->Chg e H H'->H' e=some (exN e (.ref C) (some d))->H' d=some (.xd [(fld,v)])->Q .non H'
def hid (e:Addr) (H:Hp):Hp:=fun b=>if b=e then none else H b
theorem zad3 {e b:Addr}{H:Hp}(h:b≠e):hid e H b=H b:=by unfold hid;rw[if_neg h]
theorem zce7 {e:Addr}{H:Hp}:hid e H e=none:=by unfold hid;rw[if_pos rfl]
theorem hid_of {e b:Addr}{H:Hp}{o:HO}(h:hid e H b=some o):b≠e/\H b=some o:=by
 by_cases z:b=e
 ·subst z;rw[zce7] at h;cases h
 ·rw[zad3 z] at h;exact⟨z,h⟩
theorem zai3 {e b:Addr}{H:Hp}(h:H b=none):hid e H b=none:=by
 by_cases z:b=e
 ·subst z;exact zce7
 ·rw[zad3 z];exact h
section
variable {pins:List (Addr×Obj)}{σ:St}{H:Hp}{s:Shared}{e:Addr}{φ:Heap->Prop}
theorem HOk.hid {P:Program}{w:World}{h h':Heap}(x:HOk P w H h) (he:H e=some (.ext φ)) (k:∀ b u,b≠e->(∃ o,H b=some o)->h.get? b=some u->h'.get? b=some u):HOk P w (L2.hid e H) h':=fun a o ha=>by
 obtain⟨hne,ha⟩:=hid_of ha
 have n1:∀ b,H b=some (.own a)->b≠e:=fun b hb z=>by rw[z,he] at hb;cases hb
 refine (x a o ha).stay (fun b u hb hu=>?_) (fun b hb=>by rw[zad3 (n1 b hb)];exact hb) fun b xs hb=>by
  rw[zad3 fun z=>by rw[z,he] at hb;cases hb];exact hb
 rcases hb with rfl|hb
 ·exact k _ _ hne ⟨_,ha⟩ hu
 ·exact k _ _ (n1 b hb) ⟨_,hb⟩ hu
theorem Inv.hid (I:Inv X pins σ H s) (he:H e=some (.ext φ)):Inv X pins σ (L2.hid e H) s:=by
 refine⟨I.ok,I.os,I.bare,⟨I.base.keep,I.base.slot,fun b o h1 h2 h3=>zai3 (I.base.free b o h1 h2 h3),I.base.there,fun b xs q=>?_,fun b o u q=>?_,fun b ps q=>?_⟩,I.loc,I.cell,zai3 I.free,fun x c h=>zai3 (I.freeC x c h),fun p hp=>?_,I.hok.hid he fun _ _ _ _ h=>h,I.len⟩
 ·have z:=I.base.tups b xs q
  rw[zad3 fun y=>by rw[y,he] at z;cases z];exact z
 ·have z:=I.base.frzs b o u q
  rw[zad3 fun y=>by rw[y,he] at z;cases z];exact z
 ·obtain⟨more,z⟩:=I.base.tbls b ps q
  exact⟨more,by rw[zad3 fun y=>by rw[y,he] at z;cases z];exact z⟩
 ·obtain⟨a1,a2,a3,a4,a5⟩:=I.pin p hp
  exact⟨a1,zai3 a2,a3,a4,a5⟩
theorem zaa2.of_init {cls:Value}{dx:Option Addr}(I:Inv X pins σ H s) (he:H e=some (exN e cls dx)) (hen:∀ o,X.s₀.heap.get? e=some o->e∈X.ex):zaa2 X pins σ (L2.hid e H) (PySem.W.hideAll s.heap (e :: frs X.stack)) e cls dx s:=by
 obtain⟨⟨t,ht⟩,_,_⟩:=(show zk0 X.prog X.w H s.heap e (exN e cls dx) from I.hok e _ he)
 refine⟨I.hid he,I.hok.hid he fun b u hb hh hu=>zdc6 _ hu ?_,⟨fun b o hb=>PySem.W.of_hideAll _ hb,?_,?_,?_⟩,fun b o e0 n h1 h2=>?_,hen⟩
 ·intro hm
  obtain⟨o,hh⟩:=hh
  rcases zcw3.mp hm with z|hm
  ·exact hb z
  ·rw[I.stkFree b hm] at hh;cases hh
 ·exact PySem.W.hideAll_none _ zda8
 ·refine PySem.W.funFrames_hide I.stack fun env hv a hf=>?_
  exact zcz5 _ (List.mem_filterMap.mpr ⟨env,hv,hf⟩)
 ·exact⟨_,_,ht,rfl,rfl,rfl,by simp,.inl rfl⟩
 ·refine zdc6 _ (I.base.keep b o e0 n h1 h2) fun hm=>?_
  rcases zcw3.mp hm with rfl|hm
  ·exact h2 (hen _ e0)
  ·exact zad7 I e0 h1 hm
end
@[irreducible] def zx6 (C:Addr) (fld:Str) (E:XK) (v:V) (H:Hp):Prop:=∀ d H',H d=none->Same H H'->H' d=some (.xd [(fld,v)])->E (.ref C) (some d) H'
def zbp1 (C:Addr) (fld:Str) (E:XK) (t:TE):TS:=fun _ σ H=>t σ H fun v H1=>zx6 C fld E v H1
theorem zav1 {C:Addr}{fld:Str}{E:XK}{v:V}{H:Hp}(q:∀ d H',H d=none->Same H H'->H' d=some (.xd [(fld,v)])->E (.ref C) (some d) H'):zx6 C fld E v H:=by unfold zx6;exact q
theorem zbz3 {C aH f:Addr}{fld pn x:Str}{fd:FuncData}{k:Nat}{E:XK}{e₀:Expr}{te:TE}{np cpos pos:Pos}(Z:IniK X.K C aH f fld) (hm:X.mg x=some (.ref C)) (Fi:FnOk X.prog X.w X.K X.mg X.base CX0 k f fd ["self",pn] (zaf0 C fld)) (hb:zau3 X.K fd ["self",pn] []) (hr:Room (k+1) X.A) (hc:X.calm=true) (hout:XOut X E) (he0:PE X e₀ te)
  (hg:Gl X x:=by rfl) (hd:(x==("__debug__":Str))=false:=by decide) (he:starEach [e₀] X.env=(false,eval e₀ X.env) :: starEach [] X.env:=by rfl) (hpl:(backTo cpos (starEach [] X.env)).any (·.1)=false:=by rfl) :
  PS X (.Raise (some (.Call (.Name x np) [e₀] [] cpos)) none pos) (zbp1 C fld E te):=by
 intro pins s σ H D I h
 obtain⟨nm,qn,N,bs,sn,sub,ab,col,dd,k0,k1,k2,k3,k5,lk⟩:=Z.ob
 refine zbk3 (K:=X.K) (C:=C) (nm:=nm) (q:=qn) (N:=N) (bs:=bs) (bm:=.ref aH :: bmV) (hdct:=true) (sn:=sn) (sub:=sub) (ab:=ab) (col:=col) (dd:=dd) (k0:=k0) (k1:=k1) (k2:=k2) (k3:=k3) (k5:=k5) PySem.F.excBase_ValueError
  (by rw[List.contains_cons,show List.contains bmV (Value.type "BaseException")=true by decide +kernel,Bool.or_true]) (I.ok.hd hc) (by rw[he];show (false || (backTo cpos (starEach [] X.env)).any (·.1))=false;rw[hpl];rfl) Z.init Z.fn (zae8 I hg hm ⟨rfl,?_⟩ hd)
 have hA:=za0 he0 (za1) he cpos pins s σ H (fun vs H1=>∃ v,vs=[v]/\zx6 C fld E v H1) I (by
  show te σ H fun v H1=>∃ v',[v]=[v']/\zx6 C fld E v' H1
  have e:(fun (v:V) (H1:Hp)=>∃ v',[v]=[v']/\zx6 C fld E v' H1)=fun v H1=>zx6 C fld E v H1:=by
   funext v H1
   apply propext
   exact⟨fun ⟨v',e1,e2⟩=>by cases e1;exact e2,fun e2=>⟨v,rfl,e2⟩⟩
  rw[e];exact h)
 rw[he] at hA ⊢
 refine Calls.evalArgs_plain (thn hA fun us s2 ⟨vs,H1,I1,r,v,ev,q⟩=>?_)
 subst ev
 obtain⟨u,rfl,ru⟩:=r.one
 refine⟨rfl,by show 1<=sizeLine;decide,I1.kIn _ _ lk,I1.kIn,Z.tl _ I1.kIn,fun h' e m hz=>?_⟩
 obtain⟨t,ht,_,_⟩:=m.there
 have hfe:H1 e=none:=I1.hok.fresh hz
 have I2:=I1.laid (a:=e) (o:=exN e (.ref C) none) (h':=h') (t':=s2.toks) m.keeps hz (zcf3 ⟨t,ht⟩)
 have hsp:zaf0 C fld [.ref e,v] (upd H1 e (exN e (.ref C) none)) (fun w H'=>w=.non/\∃ d,H1 d=none/\d≠e/\Chg e (upd H1 e (exN e (.ref C) none)) H'/\H' e=some (exN e (.ref C) (some d))/\H' d=some (.xd [(fld,v)])) E:=by
  unfold zaf0
  refine⟨e,v,rfl,zc7,fun d H' hd hne hch h1 h2=>⟨rfl,d,?_,hne,hch,h1,h2⟩⟩
  rw[zc3 hne] at hd;exact hd
 refine wpAny_call (codeAny_mono (Fi.run _ X.stack _ _ ⟨[.ref e,u],[]⟩ [.ref e,u] [.ref e,v] _ _ (hr.make C [u] []) (I2.env0.make C [u] []) (hb _ [.ref e,u] I2.kIn rfl) (.cons rfl (.cons ru .nil)) hsp) fun r s' hq'=>?_)
 cases r with
 | error e=>exact False.elim hq'
 | ok fl=>
  cases fl with
  | ret u'=>
   obtain⟨v',H3,I3,rv,rfl,d,hd1,hd2,hch,h3,h4⟩:=I2.after hq'
   cases (show u'=Value.none from rv)
   obtain⟨⟨t',ht'⟩,_,_⟩:=(show zk0 X.prog X.w H3 s'.heap e (exN e (.ref C) (some d)) from I3.hok e _ h3)
   refine⟨rfl,⟨t',some d,ht'⟩,I3.kIn _ _ lk,?_⟩
   have hen:∀ o,X.s₀.heap.get? e=some o->e∈X.ex:=fun o z=>by
    apply Classical.byContradiction
    intro hx
    obtain⟨o',k⟩:=I1.base.there e o z hx
    rw[m.new] at k
    cases k
   unfold zx6 at q
   refine hout _ _ _ _ _ _ _ _ (zaa2.of_init I3 h3 hen) (q d _ hd1 (fun b o hb=>?_) (by rw[zad3 hd2];exact h4))
   have nb:=za5 hb hfe
   rw[zad3 nb]
   exact hch b o nb (by rw[zc3 nb];exact hb)
  | next=>exact False.elim hq'
  | brk=>exact False.elim hq'
  | cont=>exact False.elim hq'
end
end L2
set_option maxHeartbeats 4000000
namespace L2
open PySem PySem.Spec PyProof.Rows
def zcf6 (e D d:Addr) (h:Heap):Prop:=ExcIs e (.ref D) (some d) h/\∃ od,h.get? d=some od
section
open PySem.W PySem.Calls
theorem zbk5 {prog:Program}{w:World}{A:Around}{E:Value->Shared->Prop}{K:Frag}{D e dx:Addr}{h:Heap}{g d t os} {Q:Option Value->Shared->Prop}(X:K.In h) (x:zcf6 e D dx h) (k:ExcK K D)
  (hq:Q (some (.ref D)) ⟨h,g,d,t+1,os⟩):wpAny (model prog w) A (getAttr? (.ref e) "__class__") Q E ⟨h,g,d,t,os⟩:=by
 obtain⟨⟨oe,vs,he,hc,hdx,hd⟩,od,hod⟩:=x
 obtain⟨h1,h2,h3,h4,h5⟩:=k
 have L0:Looks (model prog w) h (typeOf (.ref e)) (.ref D):=hc▸(Looks.ld he).andThen .now
 have L1:=looks_findIn (M:=model prog w) X h1
 have L2:=looks_findIn (M:=model prog w) X h2
 have L3:=looks_findIn (M:=model prog w) X h3
 have hx:(onTheHeap (Value.ref D)&&Value.builtin "BaseException.__getattribute__"==Value.builtin "object.__getattribute__")=false:=by
  have z:(Value.builtin "BaseException.__getattribute__"==Value.builtin "object.__getattribute__")=false:=by decide +kernel
  rw[z];rfl
 have I:InstAt h e oe D (some od):=⟨he,hc,by unfold notCls;rw[hd],by rw[hdx];exact hod⟩
 have L4:Looks (model prog w) h (isInstance (.ref e) (.type "BaseException")) true:=L0.andThen (looks_subIn X h4)
 have FB:=PySem.F.attrBase_ValueError
 have f3:=FB.ga.bind (.ref e)
 have kd:builtinKind "BaseException.__getattribute__"=some .slot:=by decide +kernel
 have sid:splitId "BaseException.__getattribute__"=some ("BaseException","__getattribute__"):=by decide +kernel
 have aok:=PySem.F.args_bexc_ga (.ref e) (.str "__class__" t)
 have f5:=KF.type_class
 have f6:=PySem.F.slot_gs_get.lookup
 have f7:=PySem.F.slot_gs_set.lookup
 unfold getAttr? getAttrBy? getAttrBy
 refine wpAny_bind (wpAny_mkText (wpAny_bind (wpAny_attempt (wpAny_holding (wpAny_bind (L0.at (wpAny_bind (L1.at ?_))))))))
 dsimp only
 rw[if_neg (by rw[hx];decide)]
 unfold getAttrByItsOwn hookBefore
 repeat (any_goals (first|assumption|with_reducible refine L0.at ?_|with_reducible refine L1.at ?_|with_reducible refine L2.at ?_|with_reducible refine L3.at ?_|wp_step))
 refine codeAny_call_builtin FB.ga.plain PySem.F.entry_bexc_ga ?_
 simp only[checkBuiltinCall,kd,sid]
 refine wpAny_bind (L4.at ?_)
 repeat (any_goals (first|assumption|with_reducible refine L0.at ?_|with_reducible refine L1.at ?_|with_reducible refine L2.at ?_|with_reducible refine L3.at ?_|wp_step))
 refine class_get (ox:=oe) (od:=some od) X I h5 ?_
 repeat (any_goals (first|assumption|wp_step))
theorem zbu4 {K:Frag}{e D dx:Addr}(k:ExcK K D) (hcl:(clsIn K D).isSome=true):KitX K (.ref e) (.ref D) (zcf6 e D dx) where
 ty:=fun M h _ p=>by
  obtain⟨⟨oe,vs,he,hc,_⟩,_⟩:=p
  exact hc▸(Looks.ld he).andThen .now
 it:=fun M h X p=>by
  obtain⟨cd,hcd⟩:=zdb4.mp hcl
  unfold clsIn at hcd
  split at hcd
  ·rename_i ho
   intro A' Q' E' s' kk q
   unfold isType loadHead
   exact wpAny_bind (wpAny_loadPart (kk _ _ (X _ _ ho)) (wpAny_pure q))
  ·cases hcd
 ne:=fun h tp dd its n sl X htp=>by
  refine Bool.eq_false_iff.mpr fun q=>?_
  have z:D=tp:=Value.ref.inj (beq_iff_eq.mp q)
  subst z
  obtain⟨cd,hcd⟩:=zdb4.mp hcl
  unfold clsIn at hcd
  split at hcd
  ·rename_i ho
   cases (X _ _ ho).symm.trans htp
  ·cases hcd
 ca:=fun {prog w A E Q s} X p q=>by
  obtain⟨hh,g,d,t,os⟩:=s
  exact zbk5 X p k q
theorem zbz7 {prog:Program}{w:World}{A:Around}{E:Value->Shared->Prop}{K:Frag}{D e:Addr}{oe od:Obj}{vs:Array Value}{dx:Addr}{name:Str}{v:Value}{expr:Bool}{s:Shared}{Q:Value->Shared->Prop}(X:K.In s.heap) (he:s.heap.get? e=some oe) (hc:oe.cls=.ref D) (hdx:oe.dict=some dx) (hd:oe.data=.fields vs) (hod:s.heap.get? dx=some od) (k:ExcK K D)
  (hh:hasDictIn K D=true) (ha:findIn K (.ref D) name=some none) (hl:lookIn name od=some (some v)) (hv:handedIn v=true)
  (hq:Q v { s with toks:=s.toks+1 }):wpAny (model prog w) A (getAttr (.ref e) name expr) Q E s:=by
 obtain⟨h,g,d,t,os⟩:=s
 obtain⟨h1,h2,h3,h4,h5⟩:=k
 have L0:Looks (model prog w) h (typeOf (.ref e)) (.ref D):=hc▸(Looks.ld he).andThen .now
 have L1:=looks_findIn (M:=model prog w) X h1
 have L2:=looks_findIn (M:=model prog w) X h2
 have hx:(onTheHeap (Value.ref D)&&Value.builtin "BaseException.__getattribute__"==Value.builtin "object.__getattribute__")=false:=by
  have z:(Value.builtin "BaseException.__getattribute__"==Value.builtin "object.__getattribute__")=false:=by decide +kernel
  rw[z];rfl
 have I:InstAt h e oe D (some od):=⟨he,hc,by unfold notCls;rw[hd],by rw[hdx];exact hod⟩
 have L5:=looks_find (M:=model prog w) X I (findObj_own hh ha rfl hl)
 have L4:Looks (model prog w) h (isInstance (.ref e) (.type "BaseException")) true:=L0.andThen (looks_subIn X h4)
 have FB:=PySem.F.attrBase_ValueError
 have f3:=FB.ga.bind (.ref e)
 have hx0:(expr&&onTheHeap (Value.builtin "BaseException.__getattribute__"))=false:=by cases expr<;>rfl
 have kd:builtinKind "BaseException.__getattribute__"=some .slot:=by decide +kernel
 have sid:splitId "BaseException.__getattribute__"=some ("BaseException","__getattribute__"):=by decide +kernel
 have aok:=PySem.F.args_bexc_ga (.ref e) (.str name t)
 unfold getAttr getAttrBy
 refine wpAny_bind (wpAny_mkText (wpAny_holding (wpAny_bind (L0.at (wpAny_bind (L1.at ?_))))))
 dsimp only
 rw[if_neg (by rw[hx];decide)]
 unfold getAttrByItsOwn hookBefore
 repeat (any_goals (first|assumption|with_reducible refine L0.at ?_|with_reducible refine L1.at ?_|with_reducible refine L2.at ?_|wp_step))
 refine codeAny_call_builtin FB.ga.plain PySem.F.entry_bexc_ga ?_
 simp only[checkBuiltinCall,kd,sid]
 refine wpAny_bind (L4.at ?_)
 repeat (any_goals (first|assumption|with_reducible refine L0.at ?_|with_reducible refine L1.at ?_|with_reducible refine L2.at ?_|with_reducible refine L5.at ?_|wp_step))
 show wpAny _ _ (handedOut v) _ _ _
 rw[handedOut_of hv]
 exact wpAny_pure hq
end
section
variable {X:Cx}{K:zcu8}{H:Hp}{Q:VK}
@[irreducible] def zan8 (K:zcu8) (x c:V) (H:Hp) (Q:VK):Prop:=zay9 K x c H Q∨∃ (ea D d:Addr) (fs:List (Str×V)) (b:Bool),x=.ref ea/\H ea=some (excO ea (.ref D) (some d))/\H d=some (.xd fs)/\ExcK K D/\(zcy5 K D).isSome=true/\(∀ cv,RelV c cv->zcv5 K (.ref D) cv=some b)/\Q (.bl b) H
def zcd2 (K:zcu8):List V->Hp->VK->Prop:=fun xs H Q=>match xs with
 | [x,c]=>zan8 K x c H Q
 | _=>False
theorem zab8 (hK:X.K=K):zt2 X (.builtin "isinstance") (zcd2 K):=by
 subst hK
 intro pins s σ H xs us Q I r h
 unfold zcd2 at h
 split at h
 ·unfold zan8 at h
  rcases h with h|⟨ea,D,d,fs,b,rfl,h1,h0,h2,h3,h4,h5⟩
  ·exact cIsiX rfl pins s σ H _ us Q I r h
  ·obtain⟨u,w,rfl,r1,r2⟩:=zbu6 r
   cases r1
   obtain⟨p,_⟩:=I.hok ea _ h1
   obtain⟨_,⟨od,_,_,e0,_⟩,_⟩:=(show zk0 X.prog X.w H s.heap d (.xd fs) from I.hok d _ h0)
   exact zda1 (zbu4 h2 h3) I.kIn ⟨p,od,e0⟩ (h4 _ r2) (fun z=>nomatch z) fun tk=>⟨.bl b,H,I.tok _,rfl,h5⟩
 ·exact h.elim
theorem zbp2 {x c:V}(h:zay9 K x c H Q):zan8 K x c H Q:=by unfold zan8;exact .inl h
theorem zca1 {ea D d C:Addr}{fs:List (Str×V)}{b:Bool}(h1:H ea=some (excO ea (.ref D) (some d))) (h0:H d=some (.xd fs)) (h2:ExcK K D) (h3:(zcy5 K D).isSome=true) (e:zcv5 K (.ref D) (.ref C)=some b) (q:Q (.bl b) H):zan8 K (.ref ea) (.ref C) H Q:=by
 unfold zan8;exact .inr ⟨ea,D,d,fs,b,rfl,h1,h0,h2,h3,fun cv r=>by cases r;exact e,q⟩
theorem zby0 {ea D d:Addr}{fs:List (Str×V)}{n:String}{b:Bool}(h1:H ea=some (excO ea (.ref D) (some d))) (h0:H d=some (.xd fs)) (h2:ExcK K D) (h3:(zcy5 K D).isSome=true) (e:zcv5 K (.ref D) (.type n)=some b) (q:Q (.bl b) H):zan8 K (.ref ea) (.ty n) H Q:=by
 unfold zan8;exact .inr ⟨ea,D,d,fs,b,rfl,h1,h0,h2,h3,fun cv r=>by cases r;exact e,q⟩
@[irreducible] def rFldE (K:zcu8) (ea:Addr) (f:Str) (H:Hp) (Q:VK):Prop:=∃ (D d:Addr) (fs:List (Str×V)) (v:V),H ea=some (excO ea (.ref D) (some d))/\H d=some (.xd fs)/\fs.lookup f=some v/\ExcK K D/\zdd5 K D=true/\zcy7 K (.ref D) f=some none/\Q v H
def qFldE (K:zcu8) (te:TE) (f:Str):TE:=fun σ H Q=>te σ H fun x H1=>match x with
 | .ref ea=>rFldE K ea f H1 Q
 | _=>False
theorem peFldE {e:Expr}{te:TE}{f:Str}{pos:Pos}(hK:X.K=K) (he:PE X e te) (hb:attributeBase e f X.env (eval e X.env)=eval e X.env:=by rfl):PE X (.Attribute e f pos) (qFldE K te f):=by
 subst hK
 intro pins s σ H Q I h
 refine zci3 hb (thn (he pins s σ H _ I h) fun u s1 ⟨x,H1,I1,rx,q⟩=>?_)
 dsimp only at q
 split at q
 case h_2=>exact q.elim
 rename_i ea
 obtain rfl:u=Value.ref ea:=rx
 unfold rFldE at q
 obtain⟨D,d,fs,v,h1,h2,h3,h4,h5,h6,q⟩:=q
 obtain⟨⟨oe,vs,he,hc,hdx,hd⟩,_⟩:=I1.hok ea _ h1
 obtain⟨mA,n,r⟩:=(show zk0 X.prog X.w H1 s1.heap d (.xd fs) from I1.hok d _ h2)
 obtain⟨od,hod,hl⟩:=zax0 n
 obtain⟨u,hu,ru⟩:=RelO.some_of (v:=v) (o:=mA f) (by rw[← h3];exact r f)
 exact zbz7 I1.kIn he hc hdx hd hod h4 h5 h6 (by rw[hl,hu]) (zbl9 ru) ⟨v,H1,I1.tok _,ru,q⟩
theorem zch4 {ea D d:Addr}{f:Str}{fs:List (Str×V)}{v:V}(h1:H ea=some (excO ea (.ref D) (some d))) (h2:H d=some (.xd fs)) (h3:fs.lookup f=some v) (h4:ExcK K D) (h5:zdd5 K D=true) (h6:zcy7 K (.ref D) f=some none) (q:Q v H):rFldE K ea f H Q:=by
 unfold rFldE;exact⟨D,d,fs,v,h1,h2,h3,h4,h5,h6,q⟩
end
end L2
namespace L2
open PySem PySem.Spec PyProof.Rows
def IniF (K:zcu8) (qual:Str) (st:Stmt) (f:Addr) (pn:Str):Prop:=∃ fd,Fun K "__init__" qual st f fd/\zau3 K fd ["self",pn] []
def IniOk (P:Program) (w:World) (K:zcu8) (mg:Str->Option Value) (base:Heap) (C f:Addr) (fld:Str):Prop:=∃ pn fd,FnOk P w K mg base CX0 1 f fd ["self",pn] (zaf0 C fld)/\zau3 K fd ["self",pn] []
theorem zbs0 {K:zcu8}{aH:Addr}{h:Heap}(X:K.In h) (q:PySem.W.excIn K aH bmV newV=true):OwnTail h bmV (.ref aH :: bmV):=by
 refine PySem.W.tail_of_in X ?_
 unfold PySem.W.excIn at q
 split at q
 case h_2=>cases q
 rename_i dd cd sl ho
 split at q
 case h_2=>cases q
 simp only[zcw5,beq_iff_eq,Bool.not_eq_true'] at q
 obtain⟨⟨⟨⟨⟨q1,q2⟩,q3⟩,q4⟩,q5⟩,q6⟩:=q
 unfold PySem.W.tailIn
 dsimp only
 rw[ho]
 dsimp only
 rw[q5,q6]
 have e:PySem.W.tailIn K bmV bmV=true:=by unfold PySem.W.tailIn;rw[Bool.or_eq_true];exact .inl (by simp)
 rw[e]
 simp
theorem zbf3 {X:Cx}{C aH f:Addr}{fld x:Str}{E:XK}{e₀:Expr}{te:TE}{np cpos pos:Pos}(Z:IniK X.K C aH f fld) (hm:X.mg x=some (.ref C)) (O:IniOk X.prog X.w X.K X.mg X.base C f fld) (hr:Room 2 X.A) (hc:X.calm=true) (hout:XOut X E) (he0:PE X e₀ te)
  (hg:Gl X x:=by rfl) (hd:(x==("__debug__":Str))=false:=by decide) (he:starEach [e₀] X.env=(false,eval e₀ X.env) :: starEach [] X.env:=by rfl) (hpl:(backTo cpos (starEach [] X.env)).any (·.1)=false:=by rfl) :
  PS X (.Raise (some (.Call (.Name x np) [e₀] [] cpos)) none pos) (zbp1 C fld E te):=by
 obtain⟨pn,fd,Fi,hb⟩:=O
 exact zbz3 Z hm Fi hb hr hc hout he0 hg hd he hpl
end L2
set_option maxHeartbeats 2000000
namespace L2
open PySem PySem.Spec PyProof.Rows
def zbp3 (x0:Str) (names:List (Str×NameKind)):Prop:=names.filter (fun y=>y.2==.cell)=[(x0,.cell)]/\names.lookup x0=some .cell
theorem zbp3.only {x0:Str}{names:List (Str×NameKind)}(h:zbp3 x0 names):∀ y∈names,y.2=.cell->y.1=x0:=fun y hy hc=>by
 have:y∈names.filter (fun y=>y.2==.cell):=List.mem_filter.mpr ⟨hy,by rw[hc];rfl⟩
 rw[h.1] at this
 rw[zcz7.mp this]
section
variable {X:Cx}{pins:List (Addr×Obj)}{σ:St}{H:Hp}{s2:Shared}
end
end L2
set_option maxHeartbeats 1000000
namespace L2
open PySem PySem.Spec PyProof.Rows
section
variable {κ:Type}[DecidableEq κ]
def valV (kvs:List (κ×V)) (k:κ):Option V:=(kvs.find? fun kv=>decide (kv.1=k)).map (·.2)
def putK (kvs:List (κ×V)) (k:κ) (v:V):List (κ×V):=
 if (kvs.any fun kv=>decide (kv.1=k))=true then kvs.map (fun kv=>if kv.1=k then (kv.1,v) else kv) else kvs++[(k,v)]
theorem zac7 {p:κ×V}{r:List (κ×V)}{k:κ}(e:p.1=k):valV (p :: r) k=some p.2:=by simp[valV,zdb1,e]
theorem zad0 {p:κ×V}{r:List (κ×V)}{k:κ}(e:¬ p.1=k):valV (p :: r) k=valV r k:=by simp[valV,zdb1,e]
theorem zbe8 (k:κ):∀ kvs:List (κ×V),(kvs.any fun kv=>decide (kv.1=k))=(valV kvs k).isSome
 | []=>rfl
 | p :: r=>by
  rw[List.any_cons]
  by_cases e:p.1=k
  ·simp only[zac7 e,decide_eq_true e,Bool.true_or,Option.isSome_some]
  ·rw[zad0 e,decide_eq_false e,Bool.false_or];exact zbe8 k r
theorem zai8 (kvs:List (κ×V)) (k:κ) (v:V):(putK kvs k v).length<=kvs.length+1:=by
 unfold putK
 split
 ·rw[zcu6];omega
 ·rw[zcv9,zcx0,zcz4];omega
theorem RelO.isSome_eq {o:Option V}{u:Option Value}(r:RelO o u):o.isSome=u.isSome:=by
 cases o with
 | none=>cases u with
  | none=>rfl
  | some _=>exact (show False from r).elim
 | some _=>cases u with
  | none=>exact (show False from r).elim
  | some _=>rfl
theorem RelO.getD {o:Option V}{u:Option Value}{d:V}{d':Value}(r:RelO o u) (rd:RelV d d'):RelV (o.getD d) (u.getD d'):=by
 cases o with
 | none=>cases u with
  | none=>exact rd
  | some _=>exact (show False from r).elim
 | some _=>cases u with
  | none=>exact (show False from r).elim
  | some _=>exact r
theorem KV.val {kvs:List (κ×V)}{vs:List (κ×Value)}(r:KV kvs vs) (k:κ):RelO (valV kvs k) (valueAt vs k):=by
 unfold KV at r
 induction r with
 | nil=>exact True.intro
 | @cons p q ps qs h t ih=>
  obtain⟨h1,h2⟩:=h
  by_cases e:p.1=k
  ·have e':q.1=k:=h1.symm.trans e
   have b:valueAt (q :: qs) k=some q.2:=by simp[valueAt,zdb1,e']
   rw[zac7 e,b];exact h2
  ·have e':¬ q.1=k:=fun z=>e (h1.trans z)
   have b:valueAt (q :: qs) k=valueAt qs k:=by simp[valueAt,zdb1,e']
   rw[zad0 e,b];exact ih
theorem KV.any {kvs:List (κ×V)}{vs:List (κ×Value)}(r:KV kvs vs) (k:κ):(kvs.any fun kv=>decide (kv.1=k))=vs.any fun kv=>decide (kv.1=k):=by
 unfold KV at r
 induction r with
 | nil=>rfl
 | cons h t ih=>rw[List.any_cons,List.any_cons,ih,h.1]
theorem KV.repl {kvs:List (κ×V)}{vs:List (κ×Value)}(r:KV kvs vs) (k:κ) {y:V}{u:Value}(ry:RelV y u) :
  KV (kvs.map fun kv=>if kv.1=k then (kv.1,y) else kv) (vs.map fun kv=>if kv.1=k then (kv.1,u) else kv):=by
 unfold KV at r ⊢
 induction r with
 | nil=>exact .nil
 | @cons p q ps qs h t ih=>
  rw[zcy2,zcy2]
  refine .cons ?_ ih
  obtain⟨h1,h2⟩:=h
  by_cases e:p.1=k
  ·rw[if_pos e,if_pos (h1.symm.trans e)];exact⟨h1,ry⟩
  ·rw[if_neg e,if_neg (fun z=>e (h1.trans z))];exact⟨h1,h2⟩
theorem KV.put {kvs:List (κ×V)}{vs:List (κ×Value)}(r:KV kvs vs) (k:κ) {y:V}{u:Value}(ry:RelV y u):KV (putK kvs k y) (stored vs k u):=by
 unfold putK stored
 rw[r.any k]
 by_cases e:(vs.any fun kv=>decide (kv.1=k))=true
 ·rw[if_pos e,if_pos e];exact r.repl k ry
 ·rw[if_neg e,if_neg e];exact Paired.snoc r ⟨rfl,ry⟩
theorem KV.length {kvs:List (κ×V)}{vs:List (κ×Value)}(r:KV kvs vs):kvs.length=vs.length:=Paired.length r
end
theorem kV_is {P:Program}{w:World}{k:Key}{u:Value}(r:RelV (kV k) u):(zn9 P w).is k u=true:=by
 cases k with
 | inl i=>obtain⟨t,e⟩:=(show ∃ t,u=Value.int i t from r);subst e;exact zbc4 P w i t
 | inr x=>obtain⟨t,e⟩:=(show ∃ t,u=Value.str x t from r);subst e;exact zba4 P w x t
theorem zaw0 {P:Program}{w:World}:∀ {ks:List Key}{us:List Value},Vals (ks.map kV) us->ItemsAre (zn9 P w) ks us
 | [],_,r=>by rw[List.map_nil] at r;cases r;exact .nil
 | k :: ks,_,r=>by
  rw[zcy2] at r
  cases r with
  | cons h t=>exact .cons (kV_is h) (zaw0 t)
abbrev KT (H:Hp):List (List Key×V)->List (List Key×Addr×Value)->Prop:=Paired fun p q=>p.1=q.1/\H q.2.1=some (.tup (p.1.map kV))/\RelV p.2 q.2.2
theorem KT.val {H:Hp}{kvs:List (List Key×V)}{xs:List (List Key×Addr×Value)}(r:KT H kvs xs) (k:List Key):RelO (valV kvs k) ((atKey xs k).map (·.2)):=by
 induction r with
 | nil=>exact True.intro
 | @cons p q ps qs h t ih=>
  obtain⟨h1,_,h2⟩:=h
  by_cases e:p.1=k
  ·have e':q.1=k:=h1.symm.trans e
   have b:atKey (q :: qs) k=some q.2:=by simp[atKey,zdb1,e']
   rw[zac7 e,b];exact h2
  ·have e':¬ q.1=k:=fun z=>e (h1.trans z)
   have b:atKey (q :: qs) k=atKey qs k:=by simp[atKey,zdb1,e']
   rw[zad0 e,b];exact ih
theorem KT.repl {H:Hp}{kvs:List (List Key×V)}{xs:List (List Key×Addr×Value)}(r:KT H kvs xs) (k:List Key) {y:V}{u:Value}(ry:RelV y u) :
  KT H (kvs.map fun kv=>if kv.1=k then (kv.1,y) else kv) (xs.map (putAt k u)):=by
 induction r with
 | nil=>exact .nil
 | @cons p q ps qs h t ih=>
  rw[zcy2,zcy2]
  refine .cons ?_ ih
  obtain⟨h1,h2,h3⟩:=h
  unfold putAt
  by_cases e:p.1=k
  ·rw[if_pos e,if_pos (h1.symm.trans e)];exact⟨h1,h2,ry⟩
  ·rw[if_neg e,if_neg (fun z=>e (h1.trans z))];exact⟨h1,h2,h3⟩
theorem KT.put {H:Hp}{kvs:List (List Key×V)}{xs:List (List Key×Addr×Value)}(r:KT H kvs xs) (k:List Key) {b:Addr}{y:V}{u:Value}(hb:H b=some (.tup (k.map kV))) (ry:RelV y u) :
  KT H (putK kvs k y) (storedH xs k b u):=by
 have e:(kvs.any fun kv=>decide (kv.1=k))=(atKey xs k).isSome:=by
  rw[zbe8,(r.val k).isSome_eq,Option.isSome_map]
 unfold putK storedH
 rw[e]
 by_cases q:(atKey xs k).isSome=true
 ·rw[if_pos q,if_pos q];exact r.repl k ry
 ·rw[if_neg q,if_neg q];exact Paired.snoc r ⟨rfl,hb,ry⟩
theorem KT.keeps {H H':Hp}{kvs:List (List Key×V)}{xs:List (List Key×Addr×Value)}(r:KT H kvs xs) (ht:∀ b ys,H b=some (.tup ys)->H' b=some (.tup ys)):KT H' kvs xs:=
 Paired.mapP r fun _ _ z=>⟨z.1,ht _ _ z.2.1,z.2.2⟩
section
variable {P:Program}{w:World}{H:Hp}{h:Heap}{a:Addr}
theorem rd_of {u:HO}(ok:HOk P w H h) (e:Rd H a u):zk0 P w H h a u:=e.ok ok
theorem zbt6 {kvs:List (Key×V)}(ok:HOk P w H h) (e:Rd H a (.dK kvs)):kvs.length<=sizeLine/\(a==sysModules)=false/\∃ vs,KV kvs vs/\h.DictOf (zn9 P w) a vs:=
 show zk0 P w H h a (.dK kvs) from rd_of ok e
theorem zbt5 {kvs:List (Key×V)}(ok:HOk P w H h) (e:H a=some (.dK kvs)):kvs.length<=sizeLine/\(a==sysModules)=false/\∃ vs,KV kvs vs/\h.DictOf (zn9 P w) a vs:=zbt6 ok (.inl e)
theorem zbg9 {ks:List Key}(ok:HOk P w H h) (e:H a=some (.tup (ks.map kV))):(tupleKind (zn9 P w)).is h ks a:=by
 obtain⟨_,its,r,o,h1,h2,n,h3⟩:=(show zk0 P w H h a (.tup (ks.map kV)) from ok a _ e)
 exact⟨o,its.toArray,n,h1,h2,h3,by simpa using zaw0 r⟩
theorem zbo9 {kvs:List (List Key×V)}(ok:HOk P w H h) (e:Rd H a (.dT kvs)):kvs.length<=sizeLine/\(a==sysModules)=false /\
  ∃ xs,KT H kvs xs/\h.DictOfH (tupleKind (zn9 P w)) a xs:=by
 obtain⟨z,y,xs,r,o,es,ep,h1,h2,h3,h4,h5⟩:=(show zk0 P w H h a (.dT kvs) from rd_of ok e)
 refine⟨z,y,xs,r,o,es,ep,h1,h2,h3,h4,fun x hx=>?_,h5⟩
 have all:∀ {l:List (List Key×V)}{m:List (List Key×Addr×Value)},KT H l m->∀ x∈m,(tupleKind (zn9 P w)).is h x.1 x.2.1:=by
  intro l m q
  induction q with
  | nil=>intro x hx;exact nomatch hx
  | @cons p q ps qs hq t ih=>
   intro x hx
   rcases zcw3.mp hx with e|hx
   ·subst e
    exact zbg9 ok (by rw[← hq.1];exact hq.2.1)
   ·exact ih x hx
 exact all r x hx
theorem dt_of {kvs:List (List Key×V)}(ok:HOk P w H h) (e:H a=some (.dT kvs)):kvs.length<=sizeLine/\(a==sysModules)=false /\
  ∃ xs,KT H kvs xs/\h.DictOfH (tupleKind (zn9 P w)) a xs:=zbo9 ok (.inl e)
end
def DGet (H:Hp) (a:Addr) (y:V) (r:Option V):Prop:=
 (∃ kvs k,Rd H a (.dK kvs)/\y=kV k/\r=valV kvs k)∨∃ kvs k b,Rd H a (.dT kvs)/\y=.ref b/\H b=some (.tup (k.map kV))/\r=valV kvs k
def DPut (H:Hp) (a:Addr) (y v:V) (H':Hp):Prop:=
 (∃ kvs k,H a=some (.dK kvs)/\y=kV k/\kvs.length<sizeLine/\H'=upd H a (.dK (putK kvs k v))) ∨
 ∃ kvs k b,H a=some (.dT kvs)/\y=.ref b/\H b=some (.tup (k.map kV))/\kvs.length<sizeLine/\H'=upd H a (.dT (putK kvs k v))
theorem DGet.k {H:Hp}{a:Addr}{kvs:List (Key×V)}{k:Key}(e:H a=some (.dK kvs)):DGet H a (kV k) (valV kvs k):=.inl ⟨kvs,k,.inl e,rfl,rfl⟩
theorem DGet.t {H:Hp}{a b:Addr}{kvs:List (List Key×V)}{k:List Key}(e:H a=some (.dT kvs)) (eb:H b=some (.tup (k.map kV))):DGet H a (.ref b) (valV kvs k):=.inr ⟨kvs,k,b,.inl e,rfl,eb,rfl⟩
theorem DPut.k {H:Hp}{a:Addr}{kvs:List (Key×V)}{k:Key}{v:V}(e:H a=some (.dK kvs)) (hl:kvs.length<sizeLine):DPut H a (kV k) v (upd H a (.dK (putK kvs k v))):=.inl ⟨kvs,k,e,rfl,hl,rfl⟩
theorem DPut.t {H:Hp}{a b:Addr}{kvs:List (List Key×V)}{k:List Key}{v:V}(e:H a=some (.dT kvs)) (eb:H b=some (.tup (k.map kV))) (hl:kvs.length<sizeLine) :
  DPut H a (.ref b) v (upd H a (.dT (putK kvs k v))):=.inr ⟨kvs,k,b,e,rfl,eb,hl,rfl⟩
section
variable {X:Cx}{pins:List (Addr×Obj)}{σ:St}{H:Hp}{s:Shared}{a:Addr}{y v:V}{u r:Value}{o:Option V}{A:Around}{E:Value->Shared->Prop}
theorem Inv.big (I:Inv X pins σ H s):sysModules<s.heap.objs.size:=by
 have h:mainGlobals<s.heap.objs.size:=(I.mod.glob.keeps I.bk).lt
 exact Nat.lt_trans (by decide) h
theorem zbr9 {Q:Value->Shared->Prop}(hu:A.units+1<cLine) (I:Inv X pins σ H s) (g:DGet H a y (some v)) (ry:RelV y u) (h:∀ w' s',Inv X pins σ H s'->RelV v w'->Q w' s') :
  wpAny (model X.prog X.w) A (getItem (.ref a) u) Q E s:=by
 rcases g with ⟨kvs,k,e,ey,l⟩|⟨kvs,k,b,e,ey,eb,l⟩
 ·subst ey
  obtain⟨z,hd,vs,rel,dd⟩:=zbt6 I.hok e
  obtain⟨w',hw,rw'⟩:=RelO.some_of (v:=v) (o:=valueAt vs k) (by rw[l];exact rel.val k)
  exact wpAny_getItem_of (kV_is ry) dd.mapOf hw (h w' _ (I.tok _) rw')
 ·subst ey
  cases (show u=Value.ref b from ry)
  obtain⟨z,hd,xs,rel,dd⟩:=zbo9 I.hok e
  obtain⟨w',hw,rw'⟩:=RelO.some_of (v:=v) (o:=(atKey xs k).map (·.2)) (by rw[l];exact rel.val k)
  obtain⟨p,hp,hp2⟩:=zcv4.mp hw
  refine wpAny_getItem_heap (tupleKind_room_in1 hu) (zbg9 I.hok eb) dd hp ?_
  rw[hp2]
  exact h w' _ (I.tok _) rw'
theorem zbo6 {h':Heap}{t':Nat}{ob:HO}(I:Inv X pins σ H s) (mu:Mut (H a)) (hs:Heap.SameBut a s.heap h') (he:∃ q,h'.get? a=some q) (new:zk0 X.prog X.w (upd H a ob) h' a ob) :
  Inv X pins σ (upd H a ob) { s with heap:=h',toks:=t' }:=
 I.write (x:=a) (e:=a) mu (.inl rfl) (fun b q hb z=>(hs.2 b hb).trans z) he new
theorem dk_new {P:Program}{w:World}{H':Hp}{h':Heap}{kvs:List (Key×V)}{vs:List (Key×Value)}(z:kvs.length<=sizeLine) (hd:(a==sysModules)=false) (rel:KV kvs vs) (dd:h'.DictOf (zn9 P w) a vs) :
  zk0 P w H' h' a (.dK kvs):=⟨z,hd,vs,rel,dd⟩
theorem zbv5 {H':Hp}{Q:Unit->Shared->Prop}(hu:A.units+1<cLine) (I:Inv X pins σ H s) (g:DPut H a y v H') (ry:RelV y u) (rv:RelV v r) (h:∀ s',Inv X pins σ H' s'->Q () s') :
  wpAny (model X.prog X.w) A (setItem (.ref a) u r) Q E s:=by
 rcases g with ⟨kvs,k,e,ey,l,eH⟩|⟨kvs,k,b,e,ey,eb,l,eH⟩
 ·subst ey eH
  obtain⟨z,hd,vs,rel,dd⟩:=zbt5 I.hok e
  have hz:vs.length<=sizeLine:=by rw[← rel.length];exact z
  have hl:(putK kvs k v).length<=sizeLine:=by have:=zai8 kvs k v;omega
  refine wpAny_setItem_pairs (hsz:=hz) (kV_is ry) dd fun h' dd' hs=>h _ ?_
  have he:∃ q,h'.get? a=some q:=let ⟨q,_,_,hq,_⟩:=dd';⟨q,hq⟩
  exact zbo6 I (by rw[e];exact True.intro) hs he (dk_new hl hd (rel.put k rv) dd')
 ·subst ey eH
  cases (show u=Value.ref b from ry)
  obtain⟨z,hd,xs,rel,dd⟩:=dt_of I.hok e
  have hz:xs.length<=sizeLine:=by rw[← Paired.length rel];exact z
  have hl:(putK kvs k v).length<=sizeLine:=by have:=zai8 kvs k v;omega
  refine wpAny_setItem_heap (hsz:=hz) (tupleKind_room_in1 hu) (zbg9 I.hok eb) dd fun h' dd' hs=>h _ ?_
  obtain⟨q,es,ep,hq,h2,h3,h4,_,h5⟩:=dd'
  refine zbo6 I (by rw[e];exact True.intro) hs ⟨q,hq⟩ ⟨hl,hd,_,(rel.put k eb rv).keeps fun c ys ec=>?_,q,es,ep,hq,h2,h3,h4,h5⟩
  rw[zc3 (ne_of ec e (fun z=>nomatch z))]
  exact ec
end
section
variable {X:Cx}{pins:List (Addr×Obj)}{σ:St}{H:Hp}{s:Shared}{a:Addr}{kvs:List (Key×V)}{k:Key}{u:Value}{A:Around}{E:Value->Shared->Prop}
end
def NoSl (i:Expr):Prop:=∀ ov iv,subscripted i false ov iv=operate [ov,iv] (getItem ov iv)
theorem zck1 {prog:Program}{w:World}{A:Around}{E:Value->Shared->Prop}{s:Shared}{env:Env}{value slice:Expr}{pos:Pos}{T id:String}{Q:Value->Shared->Prop}
  (hl:typeLookup (.type T) "__getitem__"=pure (some (.builtin id))) (hs:NoSl slice)
  (h:wpAny (model prog w) A (eval value env) (fun o s₁=>wpAny (model prog w) A (eval slice env) (fun i s₂=>s₂.TypeIs o T/\wpAny (model prog w) A (getItem o i) Q E s₂) E s₁) E s) :
  wpAny (model prog w) A (eval (.Subscript value slice pos) env) Q E s:=by
 refine Subscript_ (wpAny_mono h (fun o s₁ h₁=>wpAny_mono h₁ (fun i s₂ h₂=>?_) fun _ _ x=>x) fun _ _ x=>x)
 obtain⟨hT,h₂⟩:=h₂
 unfold subscriptTail
 refine wpAny_bind ?_
 rw[getitemInPython_of_ne hT.not_modules]
 refine wpAny_bind (wpAny_specialOf hT hl ?_)
 have fin:wpAny (model prog w) A (subscripted slice false o i) (fun r s₃=>wpAny (model prog w) A (letTemporaryGo value o r >>= fun _=>pure r) Q E s₃) E s₂:=by
  rw[hs o i]
  exact wpAny_operating (wpAny_mono h₂ (fun r s₃ h₃=>wpAny_bind (wpAny_letTemporaryGo (wpAny_pure h₃))) fun _ _ x=>x)
 first
  | exact wpAny_pure (wpAny_bind fin)
  | exact wpAny_bind (wpAny_pure (wpAny_bind fin))
  | exact wpAny_bind fin
theorem zbd4 {X:Cx}{pins:List (Addr×Obj)}{σ:St}{H:Hp}{s:Shared}{a:Addr}{y:V}{o:Option V}(I:Inv X pins σ H s) (g:DGet H a y o):s.TypeIs (.ref a) "dict":=by
 rcases g with ⟨kvs,k,e,_,_⟩|⟨kvs,k,b,e,_,_,_⟩
 ·obtain⟨_,_,vs,_,dd⟩:=zbt6 I.hok e
  exact dd.typeIs
 ·obtain⟨_,_,xs,_,dd⟩:=zbo9 I.hok e
  exact dd.typeIs
def tDGet (td ty:TE):TE:=fun σ H Q=>td σ H fun x H1=>ty σ H1 fun y H2=>∃ a v,x=.ref a/\DGet H2 a y (some v)/\Q v H2
def sDPut (td ty tv:TE):TS:=fun D σ H=>tv σ H fun v H1=>td σ H1 fun x H2=>ty σ H2 fun y H3=>∃ a H4,x=.ref a/\DPut H3 a y v H4/\D.nx σ H4
section
variable {X:Cx}{o i e value:Expr}{pos pos' tpos:Pos}{td ty tv:TE}
theorem zcj9 (hu:X.A.units+1<cLine) (ho:PE X o td) (hi:PE X i ty) (hs:NoSl i):PE X (.Subscript o i pos) (tDGet td ty):=by
 intro pins s σ H Q I h
 refine zck1 PySem.F.slot_dict_getitem.lookup hs (thn (ho pins s σ H _ I h) fun u s1 ⟨x,H1,I1,rx,q1⟩=>thn (hi pins s1 σ H1 _ I1 q1) fun iv s2 ⟨y,H2,I2,ry,a,v,ex,g,q2⟩=>?_)
 subst ex
 obtain rfl:u=Value.ref a:=rx
 exact⟨zbd4 I2 g,zbr9 hu I2 g ry fun w' s3 I3 rw'=>⟨v,H2,I3,rw',q2⟩⟩
theorem zcf8 (hu:X.A.units+1<cLine) (ho:PE X o td) (hi:PE X i ty) (hv:PE X value tv) (hs:swapsWith value (some (.Subscript o i pos')) pos.line X.env=pure false) :
  PS X (.Assign [.Subscript o i pos'] value pos) (sDPut td ty tv):=by
 intro pins s σ H D I h
 refine wpAny_Assign_Subscript (thn (hv pins s σ H _ I h) fun r s1 ⟨v,H1,I1,rv,q1⟩=>thn (ho pins s1 σ H1 _ I1 q1) fun u s2 ⟨x,H2,I2,rx,q2⟩=>thn (hi pins s2 σ H2 _ I2 q2) fun iv s3 ⟨y,H3,I3,ry,a,H4,ex,g,q3⟩=>?_) hs
 subst ex
 obtain rfl:u=Value.ref a:=rx
 exact zbv5 hu I3 g ry rv fun s4 I4=>⟨σ,H4,I4,q3⟩
end
theorem zbx7 {P:Program}{w:World}{H:Hp}(h:Heap) (hb:sysModules<h.objs.size):zk0 P w H (h.push { cls:=.type "dict",data:=.dict #[] }) h.objs.size (.dK []):=
 ⟨zcz3 _,beq_eq_false_iff_ne.mpr (Ne.symm (zcy6 hb)),[],.nil,Heap.DictOf.new h⟩
theorem zbz4 {P:Program}{w:World}{H:Hp}(h:Heap) (hb:sysModules<h.objs.size):zk0 P w H (h.push { cls:=.type "dict",data:=.dict #[] }) h.objs.size (.dT []):=
 ⟨zcz3 _,beq_eq_false_iff_ne.mpr (Ne.symm (zcy6 hb)),[],.nil,_,#[],0,zcx2 _ rfl,⟨rfl,rfl,rfl⟩,rfl,rfl,List.nodup_nil⟩
def tDNewK:TE:=fun _ H Q=>∀ p,H p=none->Q (.ref p) (upd H p (.dK []))
def tDNewT:TE:=fun _ H Q=>∀ p,H p=none->Q (.ref p) (upd H p (.dT []))
section
variable {X:Cx}{pos:Pos}
theorem zcc0:PE X (.Dict [] [] pos) tDNewK:=fun pins s σ H Q I h=>
 wpAny_Dict_empty ⟨.ref s.heap.objs.size,_,I.laid (a:=s.heap.objs.size) (o:=.dK []) (t':=s.toks) (fun _ _ q=>zcv0 _ q) (zcw9 _) (zbx7 s.heap I.big),rfl,h _ (I.hok.fresh (zcw9 _))⟩
theorem zcc2:PE X (.Dict [] [] pos) tDNewT:=fun pins s σ H Q I h=>
 wpAny_Dict_empty ⟨.ref s.heap.objs.size,_,I.laid (a:=s.heap.objs.size) (o:=.dT []) (t':=s.toks) (fun _ _ q=>zcv0 _ q) (zcw9 _) (zbz4 s.heap I.big),rfl,h _ (I.hok.fresh (zcw9 _))⟩
end
structure M1 (X:Cx) (o:Expr) (m:Str) (apos:Pos) (e:Expr) (cpos:Pos):Prop where
 base:attributeBase o m X.env (eval o X.env)=eval o X.env
 few:((backTo cpos (starEach [e] X.env)).all (fun x=>!x.1)&&(backToKw cpos (keywordEach [] X.env)).all (fun x=>x.1.isSome)
  && decide (([e]:List Expr).length+([]:List Keyword).length+(if ([]:List Keyword).isEmpty then 0 else 1)<30))=true
 line:(apos.endLine==cpos.line)=true
 trees:backTo cpos (starEach [e] X.env)=[(false,eval e X.env)]
structure M2 (X:Cx) (o:Expr) (m:Str) (apos:Pos) (e f:Expr) (cpos:Pos):Prop where
 base:attributeBase o m X.env (eval o X.env)=eval o X.env
 few:((backTo cpos (starEach [e,f] X.env)).all (fun x=>!x.1)&&(backToKw cpos (keywordEach [] X.env)).all (fun x=>x.1.isSome)
  && decide (([e,f]:List Expr).length+([]:List Keyword).length+(if ([]:List Keyword).isEmpty then 0 else 1)<30))=true
 line:(apos.endLine==cpos.line)=true
 trees:backTo cpos (starEach [e,f] X.env)=[(false,eval e X.env),(false,eval f X.env)]
def IsD (H:Hp) (a:Addr):Prop:=(∃ kvs,Rd H a (.dK kvs))∨∃ kvs,Rd H a (.dT kvs)
theorem isD_at {X:Cx}{pins:List (Addr×Obj)}{σ:St}{H:Hp}{s:Shared}{a:Addr}(I:Inv X pins σ H s) (d:IsD H a) :
  s.TypeIs (.ref a) "dict"/\(∀ b,Value.ref a=.ref b->∃ ob,s.heap.get? b=some ob/\ob.dict=none)/\(a==sysModules)=false:=by
 rcases d with ⟨kvs,e⟩|⟨kvs,e⟩
 ·obtain⟨_,hd,vs,_,dd⟩:=zbt6 I.hok e
  refine⟨dd.typeIs,fun b q=>?_,hd⟩
  cases q
  obtain⟨ob,_,_,h1,h2,_⟩:=dd
  exact⟨ob,h1,h2.2.1⟩
 ·obtain⟨_,hd,xs,_,dd⟩:=zbo9 I.hok e
  refine⟨dd.typeIs,fun b q=>?_,hd⟩
  cases q
  obtain⟨ob,_,_,h1,h2,_⟩:=dd
  exact⟨ob,h1,h2.2.1⟩
section
variable {X:Cx}{pins:List (Addr×Obj)}{σ:St}{H:Hp}{s:Shared}{a:Addr}{y d:V}{u r:Value}{o:Option V}{A:Around}{E:Value->Shared->Prop}
theorem d_get2 {Q:Value->Shared->Prop}(hu:A.units+1<cLine) (I:Inv X pins σ H s) (g:DGet H a y o) (ry:RelV y u) (rd:RelV d r) (h:∀ w' s',Inv X pins σ H s'->RelV (o.getD d) w'->Q w' s') :
  wpAny (model X.prog X.w) A (call (.builtin "dict.get") [.ref a,u,r]) Q E s:=by
 rcases g with ⟨kvs,k,e,ey,l⟩|⟨kvs,k,b,e,ey,eb,l⟩
 ·subst ey
  obtain⟨z,hd,vs,rel,dd⟩:=zbt6 I.hok e
  refine call_meetsIn PySem.F.slot_dict_get dd.typeIs PySem.F.entry_dict_get (PySem.F.args_dict_get_3 _ _ _) (meets_dict_get_default (zn9 X.prog X.w) a (kV_is ry) hd r) ⟨_,dd.mapOf,h _ _ (I.tok _) ?_⟩
  rw[l]
  exact (rel.val k).getD rd
 ·subst ey
  cases (show u=Value.ref b from ry)
  obtain⟨z,hd,xs,rel,dd⟩:=zbo9 I.hok e
  refine call_meetsIn PySem.F.slot_dict_get dd.typeIs PySem.F.entry_dict_get (PySem.F.args_dict_get_3 _ _ _) (meetsH_dict_get_default (tupleKind (zn9 X.prog X.w)) a b hd r) ⟨tupleKind_room_in1 hu,k,xs,zbg9 I.hok eb,dd,h _ _ (I.tok _) ?_⟩
  rw[l]
  exact (rel.val k).getD rd
end
def zbw4 (td ty tx:TE):TE:=fun σ H Q=>td σ H fun x H1=>∃ a,x=.ref a/\IsD H1 a/\ty σ H1 fun y H2=>tx σ H2 fun z H3=>∃ o,DGet H3 a y o/\Q (o.getD z) H3
section
variable {X:Cx}{o e f:Expr}{apos cpos:Pos}{td ty tx:TE}
theorem zby6 (hu:X.A.units+1<cLine) (ho:PE X o td) (he:PE X e ty) (hf:PE X f tx) (m:M2 X o "get" apos e f cpos):PE X (.Call (.Attribute o "get" apos) [e,f] [] cpos) (zbw4 td ty tx):=by
 intro pins s σ H Q I h
 refine wpAny_Call_method m.base m.few m.line PySem.F.plainAttrs_dict PySem.F.slot_dict_get PySem.F.type_dict_get (thn (ho pins s σ H _ I h) fun u s1 ⟨x,H1,I1,rx,a,ex,d,q1⟩=>?_)
 subst ex
 obtain rfl:u=Value.ref a:=rx
 obtain⟨t1,t2,_⟩:=isD_at I1 d
 refine⟨t1,t2,?_⟩
 rw[m.trees]
 refine Calls.callWith_builtin rfl (Calls.evalArgs_plain (Calls.spliced_cons (thn (he pins s1 σ H1 _ I1 q1) fun iv s2 ⟨y,H2,I2,ry,q2⟩=>
  Calls.spliced_cons (thn (hf pins s2 σ H2 _ I2 q2) fun fv s3 ⟨z,H3,I3,rz,ov,g,q3⟩=>Calls.spliced_nil ?_))))
 exact d_get2 hu I3 g ry rz fun w' s4 I4 rw'=>⟨_,H3,I4,rw',q3⟩
end
section
variable {X:Cx}{pins:List (Addr×Obj)}{σ:St}{H:Hp}{s:Shared}{a:Addr}{kvs:List (Key×V)}{A:Around}{E:Value->Shared->Prop}
end
section
variable {X:Cx}{pins:List (Addr×Obj)}{σ:St}{H:Hp}{s:Shared}{a:Addr}{y:V}{u:Value}{A:Around}{E:Value->Shared->Prop}
end
end L2
namespace L2
open PySem PySem.Spec PyProof.Rows
section
variable {κ:Type}[DecidableEq κ]
end
end L2
set_option maxHeartbeats 2000000
namespace L2
open PySem PySem.Spec PyProof.Rows
def RawD (h:Heap) (d:Addr) (es:Array DictEntry) (ep:Nat):Prop:=∃ o,h.get? d=some o/\o.ExactDict/\o.data=.dict es ep
theorem RawD.is {s:Shared}{d:Addr}{es:Array DictEntry}{ep:Nat}(x:RawD s.heap d es ep):s.TypeIs (.ref d) "dict":=let ⟨o,a,b,_⟩:=x;⟨o,a,b.1⟩
theorem RawD.lt {h:Heap}{d:Addr}{es:Array DictEntry}{ep:Nat}(x:RawD h d es ep):d<h.objs.size:=let ⟨_,a,_⟩:=x;zcw6 a
theorem RawD.to {h h':Heap}{d:Addr}{es:Array DictEntry}{ep:Nat}(x:RawD h d es ep) (k:∀ o,h.get? d=some o->h'.get? d=some o):RawD h' d es ep:=let ⟨o,a,r⟩:=x;⟨o,k _ a,r⟩
section
variable {prog:Program}{w:World}{A:Around}{E:Value->Shared->Prop}{s:Shared}{d it:Addr}{es:Array DictEntry}{ep:Nat}
theorem zcb1 {Q:Value->Shared->Prop}(lo:(d==sysModules)=false) (x:RawD s.heap d es ep)
  (q:Q (.ref s.heap.objs.size) { s with heap:=s.heap.push { cls:=.type "dict_keyiterator",data:=.fields #[.ref d,.int 0 0,.int es.size 0,.int ep 0] } }) :
  wpAny (model prog w) A (pyIter (.ref d)) Q E s:=by
 obtain⟨o,x1,x2,x3⟩:=id x
 have tt:=x.is
 refine wpAny_pyIter_slot tt F.slot_dict_iter (wpAny_call_entry F.slot_dict_iter tt F.entry_dict_iter ?_ (F.args_dict_iter_1 _))
 unfold Builtin.«dict.__iter__» Builtin.Dict.dictSlotNone
 refine wpAny_bind (wpAny_bind (wpAny_notOrdered_dict tt ?_))
 show wpAny (model prog w) _ (pure (Value.ref d)) _ _ s
 refine wpAny_pure (?_:_)
 show wpAny (model prog w) _ (Builtin.Dict.showsAll d >>= _) _ _ s
 unfold Builtin.Dict.showsAll
 rw[if_neg (fun z=>zcw2 (lo.symm.trans z))]
 refine wpAny_bind (wpAny_pure (wpAny_bind (wpAny_dictEntries x1 x3 (wpAny_bind (wpAny_dictEpoch x1 x3 ?_)))))
 exact wpAny_bind (wpAny_newObj_type (wpAny_pure ⟨_,rfl,"dict_keyiterator",_,⟨_,zcx2 _ rfl,rfl⟩,F.slot_dict_keyiterator_next.lookup,by simpa [rawInt] using q⟩))
theorem zbz8 {i:Nat}{Q:Option Value->Shared->Prop}(y:s.heap.IsKeyIter it d i es.size ep) (x:RawD s.heap d es ep) (hi:i<es.size)
  (q:∀ h',h'.IsKeyIter it d (i+1) es.size ep->Heap.SameBut it s.heap h'->Q (some es[i].key) { s with heap:=h' }) :
  wpAny (model prog w) A (pyNext (.ref it)) Q E s:=by
 obtain⟨o,y1,y2,y3⟩:=id y
 obtain⟨od,x1,x2,x3⟩:=id x
 have own:Builtin.Dict_items.ownsTuple "dict_keyiterator"=false:=by decide
 unfold pyNext
 refine wpAny_bind (wpAny_attempt (wpAny_callSpecial?_slot (name:=Str.ofString "__next__") y.typeIs F.slot_dict_keyiterator_next (wpAny_call_entry F.slot_dict_keyiterator_next y.typeIs F.entry_dict_keyiterator_next ?_ (F.args_dict_keyiterator_next_1 _))))
 refine wpAny_bind (wpAny_pure (wpAny_bind (wpAny_bind ?_)))
 first|refine wpAny_bind (wpAny_typeNameOfWhole_keyiter y.typeIs (wpAny_pure ?_))|refine wpAny_bind (wpAny_typeNameOf_keyiter y.typeIs (wpAny_pure ?_))
 refine wpAny_bind (wpAny_fieldsOf y1 y3 ?_)
 simp only[own,zdc3,if_false]
 show wpAny (model prog w) _ (if (Value.ref d==Value.none)=true then _ else _) _ _ s
 rw[if_neg (show ¬ (Value.ref d==Value.none)=true from zcw2)]
 refine wpAny_bind (wpAny_pure (wpAny_bind (wpAny_dictEntries x1 x3 ?_)))
 rw[if_neg (by simp)]
 refine wpAny_bind (wpAny_pure (wpAny_bind (wpAny_dictEpoch x1 x3 ?_)))
 rw[if_neg (by simp)]
 refine wpAny_pure (?_:_)
 simp only[show ¬ ((i:Int)<0) from by omega,if_false,zdc4,Array.getElem?_eq_getElem hi]
 refine wpAny_bind (?_:_)
 first|refine wpAny_bind (wpAny_typeNameOfWhole_keyiter y.typeIs (wpAny_pure ?_))|refine wpAny_bind (wpAny_typeNameOf_keyiter y.typeIs (wpAny_pure ?_))
 refine wpAny_bind (wpAny_isOneOf_keyiter y.typeIs ?_)
 show wpAny (model prog w) _ (setField (.ref it) 1 (rawInt ((i:Int)+1)) >>= _) _ _ s
 refine wpAny_bind (wpAny_setField y1 y3 (by simp) ?_)
 have y':(s.heap.update it (Obj.mapFields (·.setIfInBounds 1 (rawInt ((i:Int)+1))))).IsKeyIter it d (i+1) es.size ep:=
  ⟨_,zcz8 _ y1 (Obj.isFreed_of_fields (Obj.data_mapFields y3 _)),(Obj.cls_mapFields ..).trans y2,by rw[Obj.data_mapFields y3];simp[rawInt]⟩
 refine wpAny_bind (wpAny_holding (wpAny_bind (wpAny_isOneOf_keyiter (s:={ s with heap:=s.heap.update it (Obj.mapFields (·.setIfInBounds 1 (rawInt ((i:Int)+1)))) }) y'.typeIs ?_)))
 show wpAny (model prog w) _ (pure es[i].key) _ _ _
 exact wpAny_pure (wpAny_pure ⟨_,rfl,wpAny_pure (q _ y' (Heap.SameBut.update ..))⟩)
theorem zcf7 {i:Nat}{Q:Option Value->Shared->Prop}(hh:A.handled=none) (y:s.heap.IsKeyIter it d i es.size ep) (x:RawD s.heap d es ep) (hi:es.size<=i)
  (q:∀ h',Heap.ExtBut it s.heap h'->Q none { s with heap:=h' }) :
  wpAny (model prog w) A (pyNext (.ref it)) Q E s:=by
 obtain⟨o,y1,y2,y3⟩:=id y
 obtain⟨od,x1,x2,x3⟩:=id x
 have own:Builtin.Dict_items.ownsTuple "dict_keyiterator"=false:=by decide
 unfold pyNext
 refine wpAny_bind (wpAny_attempt (wpAny_callSpecial?_slot (name:=Str.ofString "__next__") y.typeIs F.slot_dict_keyiterator_next (wpAny_call_entry F.slot_dict_keyiterator_next y.typeIs F.entry_dict_keyiterator_next ?_ (F.args_dict_keyiterator_next_1 _))))
 refine wpAny_bind (wpAny_pure (wpAny_bind (wpAny_bind ?_)))
 first|refine wpAny_bind (wpAny_typeNameOfWhole_keyiter y.typeIs (wpAny_pure ?_))|refine wpAny_bind (wpAny_typeNameOf_keyiter y.typeIs (wpAny_pure ?_))
 refine wpAny_bind (wpAny_fieldsOf y1 y3 ?_)
 simp only[own,zdc3,if_false]
 show wpAny (model prog w) _ (if (Value.ref d==Value.none)=true then _ else _) _ _ s
 rw[if_neg (show ¬ (Value.ref d==Value.none)=true from zcw2)]
 refine wpAny_bind (wpAny_pure (wpAny_bind (wpAny_dictEntries x1 x3 ?_)))
 rw[if_neg (by simp)]
 refine wpAny_bind (wpAny_pure (wpAny_bind (wpAny_dictEpoch x1 x3 ?_)))
 rw[if_neg (by simp)]
 refine wpAny_pure (?_:_)
 simp only[show ¬ ((i:Int)<0) from by omega,if_false,zdc4,Array.getElem?_eq_none hi]
 refine wpAny_bind (?_:_)
 first|refine wpAny_bind (wpAny_typeNameOfWhole_keyiter y.typeIs (wpAny_pure ?_))|refine wpAny_bind (wpAny_typeNameOf_keyiter y.typeIs (wpAny_pure ?_))
 show wpAny (model prog w) _ (setField (.ref it) 0 .none >>= _) _ _ s
 refine wpAny_bind (wpAny_setField y1 y3 (by simp) ?_)
 show wpAny (model prog w) _ (newExc (.type "StopIteration") [] >>= _) _ _ _
 refine wpAny_bind (?_:_)
 unfold newExc newTuple
 refine wpAny_bind (wpAny_newObj_type ?_ (zcz3 _))
 refine wpAny_bind (m:=firstArgMember _ _) (wpAny_of_eq (a:=Value.none) (by first|rfl|(unfold firstArgMember;rfl)) ?_)
 refine wpAny_newObj_type ?_ (by size_fits)
 unfold raiseNew
 refine wpAny_bind (wpAny_handled ?_)
 have hn:A.in1.handled=none:=hh
 rw[hn]
 refine wpAny_bind (wpAny_pure (wpAny_throw (?_:_)))
 refine wpAny_bind (wpAny_isInstance (b:=true) (T:="StopIteration") ⟨_,zcx2 _ rfl,rfl⟩ isSubtype_stop ?_)
 exact wpAny_pure (q _ (((Heap.SameBut.update ..).extBut.push _).push _))
theorem zca5 (hh:A.handled=none) (I:Addr) (ne:d≠I) :
  Walks prog w A I [I,d] [I] es.size (fun i v=>∃ e,es[i]?=some e/\v=e.key) (fun i h=>h.IsKeyIter I d i es.size ep/\RawD h d es ep) where
 sub:=by intro b z;simp at z;simp[z]
 frame:=fun i h h' st k=>⟨st.1.at (k I (by simp)),st.2.to (k d (by simp))⟩
 item:=fun i s Q E hi st q=>zbz8 st.1 st.2 hi fun h' y' hs=>q _ h' s.toks ⟨es[i],by simp[hi],rfl⟩ ⟨y',st.2.to fun o e=>hs.extBut d o ne e⟩ fun b o hb e=>hs.extBut b o (fun z=>hb (by simp[z])) e
 done:=fun s Q E st q=>zcf7 hh st.1 st.2 (zcw9 _) fun h' he=>q h' s.toks fun b o hb e=>he b o (fun z=>hb (by simp[z])) e
 self:=fun i s Q E st q=>wpAny_pyIter_keyiter st.1 q
theorem zcl2 (lo:(d==sysModules)=false):PySem.W.KdlSrc prog w "dict" d d es.size (fun i v=>∃ e,es[i]?=some e/\v=e.key) (fun h=>RawD h d es ep) where
 type:=fun s x=>x.is
 there:=fun h x=>⟨x.lt,x.lt⟩
 keep:=fun h h' x k=>x.to fun o e=>k d (Or.inl rfl) o e
 notList:=rfl
 notTuple:=rfl
 hint:=fun A E s Q x q=>PySem.W.kdl_hint_dict x.is q
 iter:=fun A s hh x=>⟨_,_,(fun E Q q=>zcb1 lo x q),zca5 hh _ (zcy6 x.lt),⟨⟨_,zcx2 _ rfl,rfl,rfl⟩,x.to fun o e=>zcv0 _ e⟩⟩
end
end L2
set_option maxHeartbeats 2000000
namespace L2
open PySem PySem.Spec PyProof.Rows PySem.W
section
variable {lt:Nat->Nat->Bool}{n:Nat}
def KW {α:Type}(lt:Nat->Nat->Bool) (n:Nat) (Q:α->Prop):KasT α->Prop
 | .ret a=>Q a
 | .ask i j k=>i<n/\j<n/\KW lt n Q (k (lt i j))
theorem KW.bd {α β:Type}{f:α->KasT β}{Q:β->Prop}:∀ {t:KasT α},KW lt n (fun a=>KW lt n Q (f a)) t->KW lt n Q (t.bind f)
 | .ret _,h=>h
 | .ask _ _ k,⟨h1,h2,h3⟩=>⟨h1,h2,KW.bd (t:=k _) h3⟩
theorem KW.mono {α:Type}{Q Q':α->Prop}(hq:∀ a,Q a->Q' a):∀ {t:KasT α},KW lt n Q t->KW lt n Q' t
 | .ret a,h=>hq a h
 | .ask _ _ k,⟨h1,h2,h3⟩=>⟨h1,h2,KW.mono hq (t:=k _) h3⟩
theorem KW.wp {α:Type}{cmp:Nat->Nat->(Bool->Shared->Prop)->Shared->Prop}{s:Shared}{Q:α->Prop}(hc:∀ i j C,i<n->j<n->C (lt i j) s->cmp i j C s):∀ {t:KasT α},KW lt n Q t->t.kasWp cmp (fun a s'=>s'=s/\Q a) s
 | .ret a,h=>⟨rfl,h⟩
 | .ask i j k,⟨h1,h2,h3⟩=>hc i j _ h1 h2 (KW.wp hc (t:=k _) h3)
def Pm (n:Nat) (p:Array Nat):Prop:=p.toList.Perm (List.range n)
theorem Pm.low {p:Array Nat}(h:Pm n p) (hn:0<n) (i:Nat):p.getD i 0<n:=by
 unfold Array.getD
 split
 ·rename_i hi
  exact zda2.mp (h.mem_iff.mp (Array.getElem_mem_toList hi))
 ·exact hn
theorem Pm.rev {p:Array Nat}(h:Pm n p) (i j:Nat):Pm n (kas_rev p i j):=(Array.perm_iff_toList_perm.mp (mirror_perm p i j _)).trans h
theorem Pm.bub {p:Array Nat}(h:Pm n p) (i j:Nat):Pm n (bubble p i j):=(Array.perm_iff_toList_perm.mp (bubble_perm p i j)).trans h
end
section
variable {prog:Program}{w:World}{A:Around}{E:Value->Shared->Prop}{s:Shared}
def midH (h:Heap) (a:Addr) (vs:List Value):Heap:=((h.update a (Obj.mapSeq fun _=>#[])).push (seqObj "tuple" vs.toArray 0)).push (seqObj "list" #[] 0)
theorem zbs8 {h:Heap}{a b:Addr}{vs:List Value}{o:Obj}(ne:b≠a) (e:h.get? b=some o):(midH h a vs).get? b=some o:=
 zcv0 _ (zcv0 _ ((Heap.get?_update_ne _ _ _ _ ne).trans e))
theorem zaq2 {h:Heap}{a b:Addr}{vs:List Value}{out:Array Value}{o:Obj}(ne:b≠a) (e:h.get? b=some o):(sortedHeap h a vs out).get? b=some o:=
 (Heap.get?_update_ne _ _ _ _ ne).trans (zbs8 ne e)
theorem zbm6 {h:Heap}{a:Addr}{vs xs:List Value}{n:Nat}(e:h.get? a=some (seqObj "list" xs.toArray n)):∃ c,(midH h a vs).get? a=some (seqObj "list" #[] c)/\(h.update a (Obj.mapSeq fun _=>#[])).get? a=some (seqObj "list" #[] c):=
 ⟨_,zcv0 _ (zcv0 _ (get?_update_seq e fun _=>#[])),get?_update_seq e fun _=>#[]⟩
theorem zaw2 {h:Heap}{a:Addr}{vs xs:List Value}{n:Nat}{out:Array Value}(e:h.get? a=some (seqObj "list" xs.toArray n)):∃ c,(sortedHeap h a vs out).get? a=some (seqObj "list" out c):=by
 obtain⟨c,h1,_⟩:=zbm6 (vs:=vs) e
 exact⟨_,get?_update_seq h1 fun _=>out⟩
theorem zcg0 {a:Addr}{vs:List Value}{n:Nat}{κ:SortKind}{lt:Nat->Nat->Bool}{R:Array Nat->Prop}{P:PySem.Fin->Shared->Prop}(ho:s.heap.get? a=some (seqObj "list" vs.toArray n)) (h2:2<=vs.length) (h64:vs.length<64)
  (hk:∀ Q:SortKind->Shared->Prop,Q κ { s with heap:=midH s.heap a vs }->wpAny (model prog w) A (keyKind' vs.toArray) Q E { s with heap:=midH s.heap a vs })
  (hc:∀ i j (C:Bool->Shared->Prop),i<vs.length->j<vs.length->C (lt i j) { s with heap:=midH s.heap a vs }->wpAny (model prog w) A (keyLt' κ (vs.getD i Value.none) (vs.getD j Value.none)) C (fun _ _=>False) { s with heap:=midH s.heap a vs })
  (kw:KW lt vs.length R (kas_sort vs.length))
  (h:∀ p:Array Nat,p.size=vs.length->R p->P (.done (.ret .none)) { s with heap:=sortedHeap s.heap a vs (List.toArray (p.toList.map fun i=>vs.getD i Value.none)) }) :
  wpAny (model prog w) A (Builtin.«list.sort» ⟨[.ref a],[]⟩) P E s:=by
 obtain⟨c,m1,m2⟩:=zbm6 (vs:=vs) ho
 have zs:¬ vs.toArray.size<2:=by rw[zcv8];omega
 have zl:vs.length<=sizeLine:=by rw[sizeLine_eq];omega
 rw[list_sort_plain]
 refine wpAny_bind (listItems_at ho rfl (wpAny_bind (listUpdate_at ho rfl ?_ (by rw[zcv8];exact zl) (zcz3 _))))
 refine wpAny_bind (seqEpoch_at m2 rfl (wpAny_bind (wpAny_newTuple ?_ zl)))
 refine wpAny_bind (wpAny_newList ?_ (zcz3 _))
 refine wpAny_holding (?_:_)
 show wpAny (model prog w) A _ P E { s with heap:=midH s.heap a vs }
 dsimp only
 rw[if_neg zs,if_neg zs]
 refine wpAny_bind (hk _ ?_)
 have run:=kat_run (prog:=prog) (w:=w) (A:=A) (E:=E) (κ:=κ) (ks:=vs) (vs:=vs) (s:={ s with heap:=midH s.heap a vs }) (Q:=fun st' s'=>s'={ s with heap:=midH s.heap a vs }/\∃ p:Array Nat,p.size=vs.length/\R p/\arrOf st'=p.map (kas_item (vs.toArray.zip vs.toArray))/\failedOf st'=none)
  rfl h2 h64 (fun p st' s' b1 b2 b3 b4=>⟨b4.1,p,b1,b4.2,b2,b3⟩) (KW.wp (cmp:=kas_ask prog w A κ vs) (fun i j C li lj hC=>hc i j C li lj hC) kw)
 refine wpAny_bind (wpAny_mono run ?_ fun _ _ e=>e)
 rintro⟨⟨⟩,st'⟩ s' ⟨rfl,p,pz,pR,har,hf⟩
 have out:=kat_snds rfl har
 dsimp only
 rw[out]
 refine wpAny_bind (seqEpoch_at m1 rfl (wpAny_bind (listUpdate_at m1 rfl ?_ (zcz3 _) ?_)))
 ·rw[hf]
  simp only[bne_self_eq_false,zdc3,if_false]
  exact wpAny_pure (h p pz pR)
 ·rw[zcv8,zcu6,Array.length_toList,pz]
  omega
theorem zca4 {a:Addr}{vs:List Value}{n:Nat}{P:PySem.Fin->Shared->Prop}(ho:s.heap.get? a=some (seqObj "list" vs.toArray n)) (h2:vs.length<2)
  (h:P (.done (.ret .none)) { s with heap:=sortedHeap s.heap a vs vs.toArray }):wpAny (model prog w) A (Builtin.«list.sort» ⟨[.ref a],[]⟩) P E s:=by
 obtain⟨c,m1,m2⟩:=zbm6 (vs:=vs) ho
 have zs:vs.toArray.size<2:=by rw[zcv8];omega
 have zl:vs.length<=sizeLine:=by rw[sizeLine_eq];omega
 rw[list_sort_plain]
 refine wpAny_bind (listItems_at ho rfl (wpAny_bind (listUpdate_at ho rfl ?_ (by rw[zcv8];exact zl) (zcz3 _))))
 refine wpAny_bind (seqEpoch_at m2 rfl (wpAny_bind (wpAny_newTuple ?_ zl)))
 refine wpAny_bind (wpAny_newList ?_ (zcz3 _))
 refine wpAny_holding (?_:_)
 show wpAny (model prog w) A _ P E { s with heap:=midH s.heap a vs }
 dsimp only
 rw[if_pos zs,if_pos zs]
 refine wpAny_bind (wpAny_pure (?_:_))
 rw[StateT.run_pure]
 refine wpAny_bind (wpAny_pure (?_:_))
 dsimp only
 have e:(vs.toArray.zip vs.toArray).map (·.2)=vs.toArray:=by
  apply Array.toList_inj.mp
  simp[List.map_snd_zip]
 show wpAny (model prog w) A (seqEpoch a >>= _) P E _
 refine wpAny_bind (seqEpoch_at m1 rfl (wpAny_bind (listUpdate_at m1 rfl ?_ (zcz3 _) ?_)))
 ·simp only[bne_self_eq_false,zdc3,if_false]
  show wpAny (model prog w) A (ret Value.none) P E { s with heap:=sortedHeap s.heap a vs ((vs.toArray.zip vs.toArray).map (·.2)) }
  rw[e]
  exact wpAny_pure h
 ·show ((vs.toArray.zip vs.toArray).map (·.2)).size<=_
  rw[e,zcv8];omega
end
end L2
set_option maxHeartbeats 2000000
namespace L2
open PySem PySem.Spec PyProof.Rows PySem.W
def ltP (x y:Int×Int):Bool:=if (x.1==y.1)=true then (if (x.2==y.2)=true then false else decide (x.2<y.2)) else decide (x.1<y.1)
def TupI (h:Heap) (v:Value) (x:Int×Int):Prop:=∃ a o t u n,v=.ref a/\h.get? a=some o/\o.cls=.type "tuple"/\o.data=.seq #[.int x.1 t,.int x.2 u] n
theorem TupI.to {h h':Heap}{v:Value}{x:Int×Int}(z:TupI h v x) (k:∀ b o,h.get? b=some o->h'.get? b=some o):TupI h' v x:=
 let ⟨a,o,t,u,n,e,e1,r⟩:=z;⟨a,o,t,u,n,e,k _ _ e1,r⟩
section
variable {prog:Program}{w:World}{A:Around}{E:Value->Shared->Prop}{s:Shared}
theorem zcj0 {v v':Value}{x y:Int×Int}{C:Bool->Shared->Prop}(hv:TupI s.heap v x) (hv':TupI s.heap v' y) (h:C (ltP x y) s):wpAny (model prog w) A (keyLt' (tuples' true) v v') C E s:=by
 obtain⟨a,o,t,u,n,rfl,a1,a2,a3⟩:=hv
 obtain⟨b,o',t',u',n',rfl,b1,b2,b3⟩:=hv'
 refine kat_lt a1 a3 b1 b3 ?_
 show KatLex prog w A true false C [(.int x.1 t,.int y.1 t'),(.int x.2 u,.int y.2 u')] 0 s
 unfold ltP at h
 refine kat_cons (wpAny_eqBool_int (kat_go (fun e=>?_) fun e=>?_))
 ·rw[if_pos e] at h
  refine kat_yes (kat_cons (wpAny_eqBool_int (kat_go (fun e2=>?_) fun e2=>?_)))
  ·rw[if_pos e2] at h
   exact kat_yes (kat_nil h)
  ·rw[if_neg (by rw[e2];exact zcw2)] at h
   exact kat_no (kat_one _ _ (wpAny_lt_int h))
 ·rw[if_neg (by rw[e];exact zcw2)] at h
  exact kat_no (oneLt_int h)
theorem zbm9 {h:Heap}:∀ {vs:List Value},(∀ v∈vs,∃ x,TupI h v x)->∃ fs,KatTups h vs fs/\fs.length=vs.length/\∀ f∈fs,∃ n t,f=Value.int n t
 | [],_=>⟨[],.nil,rfl,fun _ z=>nomatch z⟩
 | v :: vs,H=>by
  obtain⟨fs,a1,a2,a3⟩:=zbm9 (vs:=vs) fun u hu=>H u (.tail _ hu)
  obtain⟨x,a,o,t,u,n,rfl,b1,b2,b3⟩:=H v (.head _)
  refine⟨.int x.1 t :: fs,KatTups.cons b1 b2 b3 rfl a1,congrArg (·+1) a2,fun f hf=>?_⟩
  rcases zcw3.mp hf with rfl|hf
  ·exact⟨_,_,rfl⟩
  ·exact a3 f hf
theorem zbq2 {vs:List Value}{Q:SortKind->Shared->Prop}(H:∀ v∈vs,∃ x,TupI s.heap v x) (h2:2<=vs.length) (h:Q (tuples' true) s):wpAny (model prog w) A (keyKind' vs.toArray) Q E s:=by
 obtain⟨fs,a1,a2,a3⟩:=zbm9 H
 refine kat_kind (T:=.type "int") a1 (by omega) (fun v hv=>?_) rfl h
 obtain⟨n,t,rfl⟩:=a3 v hv
 exact Looks.of_pure rfl
end
end L2
set_option maxHeartbeats 2000000
namespace L2
open PySem PySem.Spec PyProof.Rows PySem.W
section
variable {X:Cx}{K:zcu8}
@[irreducible] def rDG (a:Addr) (y:V) (H:Hp) (Q:VK):Prop:=∃ v,DGet H a y (some v)/\Q v H
def rDGV (x y:V) (H:Hp) (Q:VK):Prop:=match x with
 | .ref a=>rDG a y H Q
 | _=>False
def tDG (td ty:TE):TE:=fun σ H Q=>td σ H fun x H1=>ty σ H1 fun y H2=>rDGV x y H2 Q
theorem tDG_eq (td ty:TE):tDG td ty=tDGet td ty:=by
 funext σ H Q
 unfold tDG tDGet
 congr 1;funext x H1;congr 1;funext y H2
 unfold rDGV
 apply propext
 cases x<;>first
  | (simp only[V.ref.injEq];unfold rDG;exact⟨fun ⟨v,g,q⟩=>⟨_,v,rfl,g,q⟩,fun ⟨a,v,e,g,q⟩=>⟨v,e▸g,q⟩⟩)
  | exact⟨fun z=>z.elim,fun ⟨a,v,e,_⟩=>nomatch e⟩
theorem peDGet {o i:Expr}{td ty:TE}{pos:Pos}(hu:X.A.units+40<cLine) (ho:PE X o td) (hi:PE X i ty) (hs:NoSl i:=by exact fun _ _=>rfl):PE X (.Subscript o i pos) (tDG td ty):=tDG_eq td ty▸zcj9 (by omega) ho hi hs
theorem dgT_rd {a b:Addr}{H:Hp}{Q:VK}{kvs:List (List Key×V)}{k:List Key}{v:V}(e:H a=some (.dT kvs)) (eb:H b=some (.tup (k.map kV))) (ev:valV kvs k=some v) (q:Q v H):rDG a (.ref b) H Q:=by
 unfold rDG
 exact⟨v,ev▸DGet.t e eb,q⟩
@[irreducible] def rIsD (a:Addr) (H:Hp) (P:Prop):Prop:=IsD H a/\P
@[irreducible] def rDG2 (a:Addr) (y z:V) (H:Hp) (Q:VK):Prop:=∃ o,DGet H a y o/\Q (o.getD z) H
def rDG2V (x:V) (H:Hp) (P:Addr->Prop):Prop:=match x with
 | .ref a=>rIsD a H (P a)
 | _=>False
def tDG2 (td ty tx:TE):TE:=fun σ H Q=>td σ H fun x H1=>rDG2V x H1 fun a=>ty σ H1 fun y H2=>tx σ H2 fun z H3=>rDG2 a y z H3 Q
theorem zch5 (td ty tx:TE):tDG2 td ty tx=zbw4 td ty tx:=by
 funext σ H Q
 unfold tDG2 zbw4
 congr 1;funext x H1
 unfold rDG2V rIsD rDG2
 apply propext
 cases x<;>first
  | (simp only[V.ref.injEq];exact⟨fun z=>⟨_,rfl,z⟩,fun ⟨a,e,z⟩=>e▸z⟩)
  | exact⟨fun z=>z.elim,fun ⟨a,e,_⟩=>nomatch e⟩
theorem zbh2 {o e f:Expr}{td ty tx:TE}{apos cpos:Pos}(hu:X.A.units+40<cLine) (ho:PE X o td) (he:PE X e ty) (hf:PE X f tx)
  (m1:attributeBase o "get" X.env (eval o X.env)=eval o X.env:=by rfl)
  (m2:((backTo cpos (starEach [e,f] X.env)).all (fun x=>!x.1)&&(backToKw cpos (keywordEach [] X.env)).all (fun x=>x.1.isSome)&&decide (([e,f]:List Expr).length+([]:List Keyword).length+(if ([]:List Keyword).isEmpty then 0 else 1)<30))=true:=by rfl)
  (m3:(apos.endLine==cpos.line)=true:=by rfl) (m4:backTo cpos (starEach [e,f] X.env)=[(false,eval e X.env),(false,eval f X.env)]:=by rfl):PE X (.Call (.Attribute o "get" apos) [e,f] [] cpos) (tDG2 td ty tx):=
 zch5 td ty tx▸zby6 (by omega) ho he hf ⟨m1,m2,m3,m4⟩
theorem zch7 {a:Addr}{H:Hp}{P:Prop}{kvs:List (List Key×V)}(e:H a=some (.dT kvs)) (p:P):rIsD a H P:=by unfold rIsD;exact⟨.inr ⟨kvs,.inl e⟩,p⟩
theorem zcl3 {a b:Addr}{z:V}{H:Hp}{Q:VK}{kvs:List (List Key×V)}{k:List Key}(e:H a=some (.dT kvs)) (eb:H b=some (.tup (k.map kV))) (q:Q ((valV kvs k).getD z) H):rDG2 a (.ref b) z H Q:=by
 unfold rDG2
 exact⟨_,DGet.t e eb,q⟩
@[irreducible] def rDP (a:Addr) (y v:V) (H:Hp) (N:Hp->Prop):Prop:=∃ H',DPut H a y v H'/\N H'
def rDPV (x y v:V) (H:Hp) (N:Hp->Prop):Prop:=match x with
 | .ref a=>rDP a y v H N
 | _=>False
def sDP (td ty tv:TE):TS:=fun D σ H=>tv σ H fun v H1=>td σ H1 fun x H2=>ty σ H2 fun y H3=>rDPV x y v H3 (D.nx σ)
theorem sDP_eq (td ty tv:TE):sDP td ty tv=sDPut td ty tv:=by
 funext D σ H
 unfold sDP sDPut
 congr 1;funext v H1;congr 1;funext x H2;congr 1;funext y H3
 unfold rDPV
 apply propext
 cases x<;>first
  | (simp only[V.ref.injEq];unfold rDP;exact⟨fun ⟨H',g,q⟩=>⟨_,H',rfl,g,q⟩,fun ⟨a,H',e,g,q⟩=>⟨H',e▸g,q⟩⟩)
  | exact⟨fun z=>z.elim,fun ⟨a,v,e,_⟩=>nomatch e⟩
theorem psDPut {o i value:Expr}{td ty tv:TE}{pos pos':Pos}(hu:X.A.units+40<cLine) (ho:PE X o td) (hi:PE X i ty) (hv:PE X value tv) (hs:swapsWith value (some (.Subscript o i pos')) pos.line X.env=pure false:=by rfl) :
  PS X (.Assign [.Subscript o i pos'] value pos) (sDP td ty tv):=sDP_eq td ty tv▸zcf8 (by omega) ho hi hv hs
theorem dpT_rd {a b:Addr}{v:V}{H:Hp}{N:Hp->Prop}{kvs:List (List Key×V)}{k:List Key}(e:H a=some (.dT kvs)) (eb:H b=some (.tup (k.map kV))) (hl:kvs.length<sizeLine) (q:∀ H',Chg a H H'->H' a=some (.dT (putK kvs k v))->N H'):rDP a (.ref b) v H N:=by
 unfold rDP
 exact⟨_,DPut.t e eb hl,q _ Chg.upd zc7⟩
def pK (x:Int×Int):List Key:=[.inl x.1,.inl x.2]
theorem zaz8 {α β:Type}{R:α->β->Prop}:∀ {as:List α}{bs:List β},Paired R as bs->∀ (i:Nat) (a:α) (b:β),as[i]?=some a->bs[i]?=some b->R a b:=by
 intro as bs h
 induction h with
 | nil=>intro i a b e;simp at e
 | cons h1 _ ih=>
  intro i a b e1 e2
  cases i with
  | zero=>simp at e1 e2;subst e1;subst e2;exact h1
  | succ j=>simp at e1 e2;exact ih j a b e1 e2
theorem zax3 {α β:Type}{R:α->β->Prop}:∀ {as:List α}{bs:List β},as.length=bs.length->(∀ (i:Nat) (a:α) (b:β),as[i]?=some a->bs[i]?=some b->R a b)->Paired R as bs
 | [],[],_,_=>.nil
 | a :: as,b :: bs,hl,h=>.cons (h 0 a b rfl rfl) (zax3 (Nat.succ.inj hl) fun i x y e1 e2=>h (i+1) x y (by simpa using e1) (by simpa using e2))
end
end L2
set_option maxHeartbeats 2000000
namespace L2
open PySem PySem.Spec PyProof.Rows PySem.W
structure Ord (lt:Nat->Nat->Bool):Prop where
 as:∀ i j,lt i j=true->lt j i=false
 tr:∀ i j k,lt j i=false->lt k j=false->lt k i=false
section
variable {lt:Nat->Nat->Bool}{n:Nat}
def gp (p:Array Nat) (i:Nat):Nat:=p.getD i 0
theorem zbo2 {p q:Array Nat}{i j:Nat}(h:p[i]?=q[j]?):gp p i=gp q j:=by
 unfold gp
 rw[Array.getD_eq_getD_getElem?,Array.getD_eq_getD_getElem?,h]
theorem zab1 {p:Array Nat}{i j:Nat}(hj:j<=p.size) (k:Nat):gp (kas_rev p i j) k=if i<=k/\k<j then gp p (i+j - 1 - k) else gp p k:=by
 have h:=getElem?_mirror_all (xs:=p) (i:=i) hj k
 split
 ·rename_i c;rw[if_pos c] at h;exact zbo2 h
 ·rename_i c;rw[if_neg c] at h;exact zbo2 h
theorem zcc8 {p:Array Nat}{k l:Nat}(hk:k<p.size) (hl:l<=k) (i:Nat):gp (bubble p k (k - l)) i=if i=l then gp p k else if l<i/\i<=k then gp p (i - 1) else gp p i:=by
 have h:=getElem?_bubble hk (k - l) (by omega) i
 rw[show k - (k - l)=l by omega] at h
 split
 ·rename_i c;rw[if_pos c] at h;exact zbo2 h
 ·rename_i c
  rw[if_neg c] at h
  split
  ·rename_i c2;rw[if_pos c2] at h;exact zbo2 h
  ·rename_i c2;rw[if_neg c2] at h;exact zbo2 h
def Up (lt:Nat->Nat->Bool) (p:Array Nat) (k:Nat):Prop:=∀ i j,i<=j->j<k->lt (gp p j) (gp p i)=false
def Dn (lt:Nat->Nat->Bool) (p:Array Nat) (k:Nat):Prop:=∀ i j,i<=j->j<k->lt (gp p i) (gp p j)=false
theorem Ord.rf (O:Ord lt) (i:Nat):lt i i=false:=by
 cases h:lt i i with
 | false=>rfl
 | true=>exact absurd (O.as _ _ h) (by rw[h];exact fun w=>nomatch w)
theorem Up.snoc (O:Ord lt) {p:Array Nat}{k:Nat}(u:Up lt p k) (hk:1<=k) (h:lt (gp p k) (gp p (k - 1))=false):Up lt p (k+1):=fun i j hij hj=>by
 by_cases e:j=k
 ·subst e
  by_cases e2:i=j
  ·subst e2;exact O.rf _
  ·exact O.tr _ _ _ (u i (j - 1) (by omega) (by omega)) h
 ·exact u i j hij (by omega)
theorem Dn.snoc (O:Ord lt) {p:Array Nat}{k:Nat}(u:Dn lt p k) (hk:1<=k) (h:lt (gp p (k - 1)) (gp p k)=false):Dn lt p (k+1):=fun i j hij hj=>by
 by_cases e:j=k
 ·subst e
  by_cases e2:i=j
  ·subst e2;exact O.rf _
  ·exact O.tr _ _ _ h (u i (j - 1) (by omega) (by omega))
 ·exact u i j hij (by omega)
theorem Pm.size {p:Array Nat}(h:Pm n p):p.size=n:=by have:=h.length_eq;rw[Array.length_toList,zcy3] at this;exact this
theorem zbr6 (O:Ord lt) (hn:0<n) {p:Array Nat}(h:Pm n p):∀ f m,1<=m->Up lt p m->KW lt n (fun r=>m<=r/\r<=m+f/\Up lt p r/\(r<m+f->lt (gp p r) (gp p (r - 1))=true)) (kas_asc p f m)
 | 0,m,_,u=>⟨zcw9 _,zcw9 _,u,fun z=>absurd z (zdc9 _)⟩
 | f+1,m,hm,u=>by
  refine⟨h.low hn _,h.low hn _,?_⟩
  dsimp only
  cases e:lt (p.getD m 0) (p.getD (m - 1) 0) with
  | true=>rw[if_pos rfl];exact⟨zcw9 _,zda4 _ _,u,fun _=>e⟩
  | false=>
   rw[if_neg (by decide)]
   exact KW.mono (fun r hr=>⟨by omega,by omega,hr.2.2.1,fun z=>hr.2.2.2 (by omega)⟩) (zbr6 O hn h f (m+1) (by omega) (u.snoc O hm e))
def Al (lt:Nat->Nat->Bool) (p:Array Nat) (m q:Nat):Prop:=∀ i j,m - (q+1)<=i->i<=j->j<m->lt (gp p j) (gp p i)=false
theorem Dn.al_rev (O:Ord lt) {p:Array Nat}{m q:Nat}(hm:m<=p.size) (hq:q+1<=m) (d:Dn lt p m) (al:Al lt p m q):Dn lt (kas_rev p (m - (q+1)) m) m:=fun i j hij hj=>by
 rw[zab1 hm,zab1 hm]
 by_cases ci:m - (q+1)<=i/\i<m
 ·rw[if_pos ci,if_pos ⟨by omega,hj⟩]
  exact al _ _ (by omega) (by omega) (by omega)
 ·rw[if_neg ci]
  split
  ·exact d i _ (by omega) (by omega)
  ·exact d i j hij hj
theorem zas9 (O:Ord lt) (hn:0<n):∀ f (p:Array Nat) m q,Pm n p->m+f<=n->q+1<=m->Dn lt p m->Al lt p m q->KW lt n (fun r=>Pm n r.1/\m<=r.2.1/\r.2.1<=m+f/\r.2.2+1<=r.2.1/\Dn lt r.1 r.2.1/\Al lt r.1 r.2.1 r.2.2) (kas_desc f p m q)
 | 0,p,m,q,h,hf,hq,d,al=>⟨h,zcw9 _,zcw9 _,hq,d,al⟩
 | f+1,p,m,q,h,hf,hq,d,al=>by
  have hz:=h.size
  refine⟨h.low hn _,h.low hn _,?_⟩
  dsimp only
  cases e:lt (p.getD m 0) (p.getD (m - 1) 0) with
  | true=>
   rw[if_pos rfl]
   have al0:∀ p':Array Nat,Al lt p' (m+1) 0:=fun p' i j h1 h2 h3=>by
    have:i=j:=by omega
    subst this;exact O.rf _
   split
   ·rename_i q0
    refine KW.mono (fun r hr=>⟨hr.1,by omega,by omega,hr.2.2.2⟩) (zas9 O hn f _ (m+1) 0 (h.rev _ _) (by omega) (by omega) ?_ (al0 _))
    refine (d.al_rev O (by omega) hq al).snoc O (by omega) ?_
    rw[zab1 (by omega),zab1 (by omega),if_pos (by omega),if_neg (by omega),show m - (q+1)+m - 1 - (m - 1)=m - (q+1) by omega]
    exact O.tr _ _ _ (O.as _ _ e) (d _ _ (by omega) (by omega))
   ·exact KW.mono (fun r hr=>⟨hr.1,by omega,by omega,hr.2.2.2⟩) (zas9 O hn f p (m+1) 0 h (by omega) (by omega) (d.snoc O (by omega) (O.as _ _ e)) (al0 _))
  | false=>
   rw[if_neg (by decide)]
   refine⟨h.low hn _,h.low hn _,?_⟩
   dsimp only
   cases e2:lt (p.getD (m - 1) 0) (p.getD m 0) with
   | true=>rw[if_pos rfl];exact⟨h,zcw9 _,zda4 _ _,hq,d,al⟩
   | false=>
    rw[if_neg (by decide)]
    refine KW.mono (fun r hr=>⟨hr.1,by omega,by omega,hr.2.2.2⟩) (zas9 O hn f p (m+1) (q+1) h (by omega) (by omega) (d.snoc O (by omega) e2) ?_)
    intro i j h1 h2 h3
    by_cases ej:j=m
    ·subst ej
     by_cases ei:i=j
     ·subst ei;exact O.rf _
     ·exact O.tr _ _ _ (al i (j - 1) (by omega) (by omega) (by omega)) e
    ·exact al i j (by omega) h2 (by omega)
theorem Dn.rev {p:Array Nat}{m:Nat}(hm:m<=p.size) (d:Dn lt p m):Up lt (kas_rev p 0 m) m:=fun i j hij hj=>by
 rw[zab1 hm,zab1 hm,if_pos (by omega),if_pos (by omega)]
 exact d _ _ (by omega) (by omega)
theorem zbq8 (O:Ord lt) (hn:0<n) {m:Nat}{p:Array Nat}(h:Pm n p) (hm:m<=n) (m1:1<=m) (d:Dn lt p m):KW lt n (fun x=>Pm n x.2/\1<=x.1/\x.1<=n/\Up lt x.2 x.1) (kas_tail3 m n p):=
 KW.bd (KW.mono (fun r hr=>⟨h.rev 0 m,by omega,by omega,hr.2.2.1⟩) (zbr6 O hn (h.rev 0 m) (n - m) m m1 (d.rev (by rw[h.size];exact hm))))
theorem zbw0 (O:Ord lt) (hn:0<n) {m:Nat}{p:Array Nat}(h:Pm n p) (hm:m+1<=n) (d:Dn lt p (m+1)):KW lt n (fun x=>Pm n x.2/\1<=x.1/\x.1<=n/\Up lt x.2 x.1) (kas_descPart m n p):=by
 refine KW.bd (KW.mono (fun r hr=>?_) (zas9 O hn (n - (m+1)) p (m+1) 0 h (by omega) (by omega) d fun i j h1 h2 h3=>?_))
 ·obtain⟨r1,r2,r3,r4,r5,r6⟩:=hr
  split
  ·exact zbq8 O hn (r1.rev _ _) (by omega) (by omega) (r5.al_rev O (by rw[Pm.size r1];omega) r4 r6)
  ·exact zbq8 O hn r1 (by omega) (by omega) r5
 ·have:i=j:=by omega
  subst this;exact O.rf _
theorem zbz1 (O:Ord lt) (hn:0<n) {p:Array Nat}(h:Pm n p):KW lt n (fun x=>Pm n x.2/\1<=x.1/\x.1<=n/\Up lt x.2 x.1) (kas_count n p):=by
 have u1:Up lt p 1:=fun i j h1 h2=>by
  have:i=j:=by omega
  subst this;exact O.rf _
 refine KW.bd (KW.mono (fun r hr=>?_) (zbr6 O hn h (n - 1) 1 (zcw9 _) u1))
 obtain⟨r1,r2,r3,r4⟩:=hr
 by_cases c:(r==n)=true
 ·rw[if_pos c]
  exact⟨h,r1,by omega,r3⟩
 ·rw[if_neg c]
  have rn:r<n:=by
   have:r≠n:=fun z=>c (by rw[z];exact beq_self_eq_true n)
   omega
  by_cases c2:r>1
  ·rw[if_pos c2]
   refine⟨h.low hn _,h.low hn _,?_⟩
   dsimp only
   cases e:lt (p.getD 0 0) (p.getD (r - 1) 0) with
   | true=>rw[if_pos rfl];exact⟨h,r1,by omega,r3⟩
   | false=>
    rw[if_neg (by decide)]
    have hz:r<=p.size:=by rw[Pm.size h];omega
    have st:=r4 (by omega)
    refine zbw0 O hn (h.rev 0 r) (by omega) (Dn.snoc O (fun i j hij hj=>?_) (by omega) ?_)
    ·rw[zab1 hz,zab1 hz,if_pos (by omega),if_pos (by omega)]
     exact r3 _ _ (by omega) (by omega)
    ·rw[zab1 hz,zab1 hz,if_pos (by omega),if_neg (by omega),show 0+r - 1 - (r - 1)=0 by omega]
     exact O.tr _ _ _ (O.as _ _ st) e
  ·rw[if_neg c2]
   have r0:r=1:=by omega
   subst r0
   have st:=r4 (by omega)
   exact zbw0 O hn h (by omega) (Dn.snoc O (fun i j hij hj=>by
    have:i=j:=by omega
    subst this;exact O.rf _) (zcw9 _) (O.as _ _ st))
theorem zar3 (O:Ord lt) (hn:0<n) {p:Array Nat}(h:Pm n p) (k:Nat) (u:Up lt p k):∀ f l r,l<=r->r<=k->r<=l+f->(∀ i,i<l->lt (gp p k) (gp p i)=false)->(∀ i,r<=i->i<k->lt (gp p k) (gp p i)=true) ->
  KW lt n (fun x=>x<=k/\(∀ i,i<x->lt (gp p k) (gp p i)=false)/\∀ i,x<=i->i<k->lt (gp p k) (gp p i)=true) (kas_place p k f l r)
 | 0,l,r,h1,h2,h3,a,b=>by
  have:r=l:=by omega
  subst this
  exact⟨h2,a,b⟩
 | f+1,l,r,h1,h2,h3,a,b=>by
  unfold kas_place
  by_cases c:l≥r
  ·rw[if_pos c]
   have:r=l:=by omega
   subst this
   exact⟨h2,a,b⟩
  ·rw[if_neg c]
   refine⟨h.low hn _,h.low hn _,?_⟩
   dsimp only
   cases e:lt (p.getD k 0) (p.getD ((l+r) / 2) 0) with
   | true=>
    rw[if_pos rfl]
    refine zar3 O hn h k u f l ((l+r) / 2) (by omega) (by omega) (by omega) a fun i hi hk=>?_
    cases e2:lt (gp p k) (gp p i) with
    | true=>rfl
    | false=>
     have:=O.tr _ _ _ (u ((l+r) / 2) i hi hk) (show lt (gp p k) (gp p i)=false from e2)
     rw[show lt (gp p k) (gp p ((l+r) / 2))=true from e] at this
     cases this
   | false=>
    rw[if_neg (by decide)]
    refine zar3 O hn h k u f ((l+r) / 2+1) r (by omega) h2 (by omega) (fun i hi=>?_) b
    exact O.tr _ _ _ (u i ((l+r) / 2) (by omega) (by omega)) e
theorem up_bub (O:Ord lt) {p:Array Nat}{k l:Nat}(hk:k<p.size) (u:Up lt p k) (hl:l<=k) (a:∀ i,i<l->lt (gp p k) (gp p i)=false) (b:∀ i,l<=i->i<k->lt (gp p k) (gp p i)=true):Up lt (bubble p k (k - l)) (k+1):=fun i j hij hj=>by
 rw[zcc8 hk hl,zcc8 hk hl]
 by_cases ci:i=l
 ·rw[if_pos ci]
  by_cases cj:j=l
  ·rw[if_pos cj];exact O.rf _
  ·rw[if_neg cj,if_pos (by omega)]
   exact O.as _ _ (b (j - 1) (by omega) (by omega))
 ·rw[if_neg ci]
  by_cases cj:j=l
  ·rw[if_pos cj,if_neg (by omega)]
   exact a i (by omega)
  ·rw[if_neg cj]
   by_cases di:l<i/\i<=k
   ·rw[if_pos di,if_pos (by omega)]
    exact u _ _ (by omega) (by omega)
   ·rw[if_neg di]
    by_cases dj:l<j/\j<=k
    ·rw[if_pos dj]
     exact u _ _ (by omega) (by omega)
    ·rw[if_neg dj]
     exact u _ _ hij (by omega)
theorem zcd7 (O:Ord lt) (hn:0<n):∀ f (p:Array Nat) k,Pm n p->k+f=n->Up lt p k->KW lt n (fun p'=>Pm n p'/\Up lt p' n) (kas_bin f p k)
 | 0,p,k,h,e,u=>by
  have:k=n:=by omega
  subst this
  exact⟨h,u⟩
 | f+1,p,k,h,e,u=>by
  refine KW.bd (KW.mono (fun l hl=>?_) (zar3 O hn h k u k 0 k (zcz3 _) (zcw9 _) (by omega) (fun i hi=>absurd hi (Nat.not_lt_zero _)) fun i h1 h2=>absurd h2 (by omega)))
  exact zcd7 O hn f _ (k+1) (h.bub _ _) (by omega) (up_bub O (by rw[Pm.size h];omega) u hl.1 hl.2.1 hl.2.2)
theorem zci7 (O:Ord lt) (hn:0<n):KW lt n (fun p=>Pm n p/\Up lt p n) (kas_sort n):=by
 have h0:Pm n (List.toArray (List.range n)):=List.Perm.refl _
 refine KW.bd (KW.mono (fun r hr=>?_) (zbz1 O hn h0))
 obtain⟨r1,r2,r3,r4⟩:=hr
 by_cases c:r.1<n
 ·rw[if_pos c,show max r.1 1=r.1 by omega]
  exact zcd7 O hn _ _ _ r1 (by omega) r4
 ·rw[if_neg c]
  have e:r.1=n:=by omega
  exact⟨r1,e▸r4⟩
end
end L2
set_option maxHeartbeats 2000000
namespace L2
open PySem PySem.Spec PyProof.Rows PySem.W
theorem zat5 {x y:Int×Int}:ltP x y=true↔x.1<y.1∨(x.1=y.1/\x.2<y.2):=by
 unfold ltP
 by_cases e:x.1=y.1
 ·rw[if_pos (beq_iff_eq.mpr e)]
  by_cases e2:x.2=y.2
  ·rw[if_pos (beq_iff_eq.mpr e2)]
   exact⟨(fun h=>by cases h),fun h=>by omega⟩
  ·rw[if_neg (fun h=>e2 (beq_iff_eq.mp h)),decide_eq_true_iff]
   exact⟨fun h=>.inr ⟨e,h⟩,fun h=>by omega⟩
 ·rw[if_neg (fun h=>e (beq_iff_eq.mp h)),decide_eq_true_iff]
  exact⟨fun h=>.inl h,fun h=>by omega⟩
theorem zal3 {x y:Int×Int}:ltP x y=false↔¬ (x.1<y.1∨(x.1=y.1/\x.2<y.2)):=by
 rw[← zat5]
 cases ltP x y<;>simp
theorem ord_P (xs:Nat->Int×Int):Ord (fun i j=>ltP (xs i) (xs j)) where
 as:=fun i j h=>by
  have h:=zat5.mp h
  exact zal3.mpr (by omega)
 tr:=fun i j k h1 h2=>by
  have h1:=zal3.mp h1
  have h2:=zal3.mp h2
  exact zal3.mpr (by omega)
section
variable {prog:Program}{w:World}{A:Around}{E:Value->Shared->Prop}{s:Shared}
theorem zbq7 {D:Addr}{vs:List Value}{xs:Nat->Int×Int}{P:PySem.Fin->Shared->Prop}(ho:s.heap.get? D=some (seqObj "list" vs.toArray 0)) (h64:vs.length<64)
  (H:∀ i,i<vs.length->TupI s.heap (vs.getD i Value.none) (xs i))
  (h:∀ (p:List Nat) (c:Nat) (hF:Heap),p.Perm (List.range vs.length)->p.Pairwise (fun i j=>ltP (xs j) (xs i)=false)->(∀ b o,b≠D->s.heap.get? b=some o->hF.get? b=some o)->hF.get? D=some (seqObj "list" (List.toArray (p.map fun i=>vs.getD i Value.none)) c)->P (.done (.ret .none)) { s with heap:=hF }) :
  wpAny (model prog w) A (Builtin.«list.sort» ⟨[.ref D],[]⟩) P E s:=by
 by_cases h2:vs.length<2
 ·refine zca4 ho h2 ?_
  obtain⟨c,hc⟩:=zaw2 (vs:=vs) (out:=vs.toArray) ho
  refine h (List.range vs.length) c _ (List.Perm.refl _) ?_ (fun b o ne e=>zaq2 ne e) ?_
  ·have:vs.length=0∨vs.length=1:=by omega
   rcases this with e|e<;>rw[e]
   ·exact List.Pairwise.nil
   ·exact List.pairwise_singleton _ _
  ·rw[hc]
   have e:(List.range vs.length).map (fun i=>vs.getD i Value.none)=vs:=by
    apply zdd7 (by simp)
    intro i h1 h2
    simp at h1 h2
    simp[h2]
   rw[e]
 ·have old:∀ v,v∈vs->∃ i,i<vs.length/\vs.getD i Value.none=v:=fun v hv=>by
   obtain⟨i,hi,e⟩:=List.mem_iff_getElem.mp hv
   exact⟨i,hi,by simp[hi,e]⟩
  have nD:∀ {v:Value}{x:Int×Int},TupI s.heap v x->TupI (midH s.heap D vs) v x:=fun {v x} z=>by
   obtain⟨a,o,t,u,n,e,e1,e2,e3⟩:=z
   refine⟨a,o,t,u,n,e,zbs8 (fun q=>?_) e1,e2,e3⟩
   rw[q,ho] at e1
   cases e1
   have e2':Value.type "list"=Value.type "tuple":=e2
   exact absurd e2' (by decide)
  refine zcg0 (κ:=tuples' true) (lt:=fun i j=>ltP (xs i) (xs j)) ho (by omega) h64 (fun Q q=>zbq2 (s:={ s with heap:=midH s.heap D vs }) (fun v hv=>?_) (by omega) q) (fun i j C li lj q=>zcj0 (s:={ s with heap:=midH s.heap D vs }) (nD (H i li)) (nD (H j lj)) q) (zci7 (ord_P xs) (by omega)) fun p pz pR=>?_
  ·obtain⟨i,hi,rfl⟩:=old v hv
   exact⟨_,nD (H i hi)⟩
  ·obtain⟨c,hc⟩:=zaw2 (vs:=vs) (out:=List.toArray (p.toList.map fun i=>vs.getD i Value.none)) ho
   refine h p.toList c _ pR.1 ?_ (fun b o ne e=>zaq2 ne e) hc
   rw[List.pairwise_iff_getElem]
   intro i j hi hj hij
   rw[Array.length_toList] at hi hj
   have:=pR.2 i j (Nat.le_of_lt hij) (by omega)
   unfold gp at this
   simpa [Array.getD,hi,hj] using this
theorem zbd5 {d:Addr}{es:Array DictEntry}{ep:Nat}{xs:Nat->Int×Int}{Q:Value->Shared->Prop}(lo:(d==sysModules)=false) (hh:A.handled=none) (x:RawD s.heap d es ep) (h64:es.size<64)
  (H:∀ i e,es[i]?=some e->TupI s.heap e.key (xs i))
  (h:∀ (h1 hF:Heap) (tk c:Nat) (p:List Nat) (vs:List Value),(∀ b o,s.heap.get? b=some o->h1.get? b=some o)->(∀ b o,h1.get? b=some o->hF.get? b=some o)->p.Perm (List.range es.size)->p.Pairwise (fun i j=>ltP (xs j) (xs i)=false)->vs=es.toList.map (·.key) ->
   hF.get? h1.objs.size=some (seqObj "list" (List.toArray (p.map fun i=>vs.getD i Value.none)) c)->Q (.ref h1.objs.size) { s with heap:=hF,toks:=tk }) :
  wpAny (model prog w) A (call (.builtin "sorted") [.ref d]) Q E s:=by
 have zl:es.size<=sizeLine:=by rw[sizeLine_eq];omega
 refine Calls.call_function_entry kind_sorted plain_sorted entry_sorted (args_sorted1 _) ?_
 unfold Builtin.«sorted»
 refine wpAny_bind (m:=checkCount "sorted" 1 1 _) (wpAny_pure (wpAny_bind (kdu_collect (A:=A.in1) (zcl2 lo) hh x zl fun h1 tk acc k1 it=>?_)))
 have len:acc.toList.length=es.size:=by rw[Array.length_toList];exact it.1
 have ev:acc.toList=es.toList.map (·.key):=by
  apply zdd7 (by rw[len,zcu6,Array.length_toList])
  intro i a1 a2
  rw[Array.length_toList] at a1
  obtain⟨e,e1,e2⟩:=it.2 i acc[i] (by simp[a1])
  simp only[Array.getElem_toList,List.getElem_map]
  rw[e2]
  obtain⟨q1,q2⟩:=Array.getElem?_eq_some_iff.mp e1
  rw[← q2]
 refine wpAny_bind (wpAny_newList ?_ (by rw[len];exact zl))
 have hD:(h1.push (seqObj "list" acc.toList.toArray 0)).get? h1.objs.size=some (seqObj "list" acc.toList.toArray 0):=zcx2 _ rfl
 show wpAny (model prog w) _ _ _ _ { s with heap:=h1.push (seqObj "list" acc.toList.toArray 0),toks:=tk }
 refine wpAny_bind (wpAny_holding (wpAny_call_entry slot_list_sort ⟨_,hD,rfl⟩ entry_list_sort (zbq7 (xs:=xs) (s:={ s with heap:=h1.push (seqObj "list" acc.toList.toArray 0),toks:=tk }) hD (by rw[len];exact h64) (fun i hi=>?_) fun p c hF pp po kF eF=>⟨_,rfl,?_⟩) (args_list_sort _)))
 ·rw[len] at hi
  have z:=(H i es[i] (by simp[hi])).to k1
  have e:acc.toList.getD i Value.none=es[i].key:=by rw[ev];simp[hi]
  rw[e]
  exact z.to fun b o q=>zcv0 _ q
 ·refine wpAny_pure ⟨_,rfl,h h1 hF tk c p acc.toList k1 (fun b o e=>kF b o (zcy6 (zcw6 e)) (zcv0 _ e)) (by rw[← len];exact pp) po ev eF⟩
end
section
variable {X:Cx}{K:zcu8}
def OrdK (ks:List (Int×Int)):Prop:=ks.Nodup/\ks.Pairwise (fun x y=>ltP x y=true)
@[irreducible] def rSoO (a:Addr) (H:Hp) (Q:VK):Prop:=∃ kvs:List ((Int×Int)×V),H a=some (.dT (kvs.map fun z=>(pK z.1,z.2)))/\kvs.length<64 /\
 ∀ p H' (bs:List Addr) (ks:List (Int×Int)),H p=none->Same H H'->ks.Perm (kvs.map (·.1))->OrdK ks->Paired (fun b x=>H' b=some (.tup [.int x.1,.int x.2])) bs ks->H' p=some (.lst (bs.map V.ref))->Q (.ref p) H'
def rSoOM:List V->Hp->VK->Prop:=fun xs H Q=>match xs with
 | [.ref p]=>rSoO p H Q
 | _=>False
theorem soO_rd {a:Addr}{H:Hp}{Q:VK}{kvs:List ((Int×Int)×V)}(h:H a=some (.dT (kvs.map fun z=>(pK z.1,z.2)))) (hl:kvs.length<64)
  (q:∀ p H' (bs:List Addr) (ks:List (Int×Int)),H p=none->Same H H'->ks.Perm (kvs.map (·.1))->OrdK ks->Paired (fun b x=>H' b=some (.tup [.int x.1,.int x.2])) bs ks->H' p=some (.lst (bs.map V.ref))->Q (.ref p) H'):rSoO a H Q:=by unfold rSoO;exact⟨kvs,h,hl,q⟩
theorem zck3 {ks:List (Int×Int)}(nd:ks.Nodup) (h:ks.Pairwise (fun x y=>ltP y x=false)):OrdK ks:=by
 refine⟨nd,?_⟩
 refine List.Pairwise.imp (fun {x y} z=>?_) (List.Pairwise.and nd h)
 have z2:=zal3.mp z.2
 refine zat5.mpr ?_
 have ne:¬ (x.1=y.1/\x.2=y.2):=fun w=>z.1 (Prod.ext w.1 w.2)
 omega
theorem cSortO (hc:X.calm=true):zt2 X (.builtin "sorted") rSoOM:=fun pins s σ H xs us Q I r h=>by
 unfold rSoOM at h
 split at h
 ·rename_i p
  unfold rSoO at h
  obtain⟨kvs,h1,h2,h3⟩:=h
  obtain⟨u1,rfl,rx⟩:=zao3 r
  cases rx
  obtain⟨zl,lo,ys,kt,o,es,ep,e1,e2,e3,e4,e5⟩:=dt_of I.hok h1
  have lk:ys.length=kvs.length:=by have:=Paired.length kt;rw[zcu6] at this;exact this.symm
  have le:es.size=kvs.length:=by rw[← Array.length_toList,e4,zcu6,lk]
  have at_:∀ i,(hi:i<kvs.length)->∃ b v,ys[i]?=some (pK kvs[i].1,b,v)/\H b=some (.tup [.int kvs[i].1.1,.int kvs[i].1.2]):=fun i hi=>by
   have hy:i<ys.length:=lk▸hi
   have z:=zaz8 kt i (pK kvs[i].1,kvs[i].2) ys[i] (by simp[hi]) (by simp[hy])
   refine⟨ys[i].2.1,ys[i].2.2,?_,z.2.1⟩
   rw[zcu7 hy]
   have z1:pK kvs[i].1=ys[i].1:=z.1
   rw[z1]
  have ke:∀ i e,es[i]?=some e->∃ hi:i<kvs.length,∃ b v,ys[i]?=some (pK kvs[i].1,b,v)/\e.key=.ref b/\H b=some (.tup [.int kvs[i].1.1,.int kvs[i].1.2]):=fun i e q=>by
   obtain⟨q1,q2⟩:=Array.getElem?_eq_some_iff.mp q
   have hi:i<kvs.length:=le▸q1
   obtain⟨b,v,y1,y2⟩:=at_ i hi
   refine⟨hi,b,v,y1,?_,y2⟩
   rw[← Array.getElem?_toList,e4,zcu9,y1] at q
   simp only[Option.map_some,Option.some.injEq] at q
   rw[← q];rfl
  refine zbd5 (xs:=fun i=>((kvs.map (·.1))[i]?).getD (0,0)) lo (I.ok.hd hc) (d:=p) (es:=es) (ep:=ep) ⟨o,e1,e2,e3⟩ (by omega) (fun i e q=>?_) fun h' hF tk c pm vs k1 kF pp po ev eF=>?_
  ·obtain⟨hi,b,v,_,q2,q3⟩:=ke i e q
   obtain⟨_,its,rv,ob,b1,b2,n,b3⟩:=(show zk0 X.prog X.w H s.heap b (.tup [.int kvs[i].1.1,.int kvs[i].1.2]) from I.hok b _ q3)
   obtain⟨v1,v2,rfl,w1,w2⟩:=zbu6 rv
   obtain⟨t1,rfl⟩:=w1
   obtain⟨t2,rfl⟩:=w2
   have ex:((kvs.map (·.1))[i]?).getD (0,0)=kvs[i].1:=by simp[hi]
   rw[ex,q2]
   exact⟨b,ob,t1,t2,n,rfl,b1,b2,b3⟩
  ·have hp:p<s.heap.objs.size:=zcw6 e1
   have I1:Inv X pins σ H { s with heap:=h',toks:=tk }:=I.kept k1
   have fr:H h'.objs.size=none:=I1.fresh
   let as:List Addr:=pm.map fun i=>((ys[i]?).map (·.2.1)).getD 0
   have mem:∀ i,i∈pm->i<kvs.length:=fun i hi=>by have:=zda2.mp (pp.mem_iff.mp hi);omega
   have vals:(pm.map fun i=>vs.getD i Value.none)=as.map Value.ref:=by
    rw[zcy1]
    refine zcx5 fun i hi=>?_
    have hi':=mem i hi
    have hes:i<es.size:=by omega
    obtain⟨_,b,v,y1,y2,_⟩:=ke i es[i] (by simp[hes])
    rw[ev]
    simp[hes,y1,y2]
   have rl:Vals (as.map V.ref) (as.map Value.ref):=by
    generalize as=l
    induction l with
    | nil=>exact .nil
    | cons a l ih=>exact .cons rfl ih
   have lz:as.length<=sizeLine:=by
    show (pm.map _).length<=_
    rw[zcu6,pp.length_eq,zcy3,sizeLine_eq];omega
   refine⟨.ref _,_,I1.laid (h':=hF) (t':=tk) (o:=.lst (as.map V.ref)) kF (zcw9 _) ?_,rfl,h3 _ _ as (pm.map fun i=>((kvs.map (·.1))[i]?).getD (0,0)) fr (Same.upd fr) ?_ (zck3 ?_ ?_) ?_ zc7⟩
   ·exact⟨by rw[zcu6];exact lz,as.map Value.ref,c,rl,by rw[eF,vals]⟩
   ·have e:(List.range kvs.length).map (fun i=>((kvs.map (·.1))[i]?).getD (0,0))=kvs.map (·.1):=by
     apply zdd7 (by simp)
     intro i a1 a2
     simp at a1
     simp[a1]
    have q:=(show pm.Perm (List.range kvs.length) from le▸pp).map fun i=>((kvs.map (·.1))[i]?).getD (0,0)
    rw[e] at q
    exact q
   ·have e:(List.range kvs.length).map (fun i=>((kvs.map (·.1))[i]?).getD (0,0))=kvs.map (·.1):=by
     apply zdd7 (by simp)
     intro i a1 a2
     simp at a1
     simp[a1]
    have q:=(show pm.Perm (List.range kvs.length) from le▸pp).map fun i=>((kvs.map (·.1))[i]?).getD (0,0)
    rw[e] at q
    refine q.nodup_iff.mpr ?_
    have nk:((kvs.map fun z=>(pK z.1,z.2)).map (·.1)).Nodup:=by
     have:(kvs.map fun z=>(pK z.1,z.2)).map (·.1)=ys.map (·.1):=by
      apply zdd7 (by rw[zcu6,zcu6,zcu6,lk])
      intro i a1 a2
      rw[zcu6,zcu6] at a1
      obtain⟨b,v,y1,_⟩:=at_ i a1
      have hy:i<ys.length:=lk▸a1
      rw[zcu7 hy] at y1
      simp only[List.getElem_map]
      rw[Option.some.inj y1]
     rw[this];exact e5.2
    rw[zcy1] at nk
    have:(kvs.map (Prod.fst∘fun z=>(pK z.1,z.2)))=(kvs.map (·.1)).map pK:=by rw[zcy1];rfl
    rw[this] at nk
    exact List.Pairwise.of_map pK (fun a b h e=>h (by rw[e])) nk
   ·rw[List.pairwise_map]
    exact po
   ·refine zax3 (by rw[zcu6,zcu6]) fun i a x q1 q2=>?_
    rw[zcu9] at q1 q2
    obtain⟨j,j1,j2⟩:=zcv4.mp q1
    rw[j1] at q2
    have hj:=mem j (zcv1 j1)
    obtain⟨b,v,y1,y2⟩:=at_ j hj
    rw[y1] at j2
    have j3:b=a:=j2
    have ex:kvs[j].1=x:=by simpa [hj] using q2
    rw[← j3,← ex]
    exact (Same.upd fr) b _ y2
 ·exact h.elim
end
end L2
set_option maxHeartbeats 4000000
namespace L2
open PySem PySem.Spec PyProof.Rows
section
variable {X:Cx}{K:zcu8}{H:Hp}{Q:VK}
def ExA (H:Hp) (e D:Addr):Prop:=H e=some (excO e (.ref D) none)∨∃ d fs,H e=some (excO e (.ref D) (some d))/\H d=some (.xd fs)
theorem ExA.same {H H':Hp}{e D:Addr}(x:ExA H e D) (s:Same H H'):ExA H' e D:=by
 rcases x with x|⟨d,fs,x,y⟩
 ·exact .inl (s _ _ x)
 ·exact .inr ⟨d,fs,s _ _ x,s _ _ y⟩
end
section
variable {X:Cx}{pins:List (Addr×Obj)}{σ:St}{H:Hp}{s:Shared}
end
end L2
set_option maxHeartbeats 4000000
namespace L2
open PySem PySem.Spec PyProof.Rows
mutual
inductive ShV (H:Hp):V->PyData->Prop
 | non:ShV H .non .none
 | bl (b:Bool):ShV H (.bl b) (.bool b)
 | int (i:Int):ShV H (.int i) (.int i)
 | str (x:Str):ShV H (.str x) (.str x)
 | lst {a:Addr}{xs:List V}{ds:List PyData}:H a=some (.lst xs)->ShL H xs ds->ShV H (.ref a) (.list ds)
 | tup {a:Addr}{xs:List V}{ds:List PyData}:H a=some (.tup xs)->ShL H xs ds->ShV H (.ref a) (.tuple ds)
inductive ShL (H:Hp):List V->List PyData->Prop
 | nil:ShL H [] []
 | cons {x:V}{d:PyData}{xs:List V}{ds:List PyData}:ShV H x d->ShL H xs ds->ShL H (x :: xs) (d :: ds)
end
section
variable {X:Cx}{pins:List (Addr×Obj)}{σ:St}{H H':Hp}{s:Shared}{Q:VK}
mutual
theorem ShV.same {v:V}{d:PyData}(h:ShV H v d) (k:Same H H'):ShV H' v d:=match h with
 | .non=>.non
 | .bl b=>.bl b
 | .int i=>.int i
 | .str x=>.str x
 | .lst e l=>.lst (k _ _ e) (l.same k)
 | .tup e l=>.tup (k _ _ e) (l.same k)
theorem ShL.same {xs:List V}{ds:List PyData}(h:ShL H xs ds) (k:Same H H'):ShL H' xs ds:=match h with
 | .nil=>.nil
 | .cons a b=>.cons (a.same k) (b.same k)
end
theorem ShL.len {xs:List V}{ds:List PyData}(h:ShL H xs ds):xs.length=ds.length:=match h with
 | .nil=>rfl
 | .cons _ b=>by rw[zcx0,zcx0,b.len]
mutual
theorem ShV.reads (I:Inv X pins σ H s) {v:V}{d:PyData}{u:Value}(h:ShV H v d) (r:RelV v u):∃ as,Reads s.heap u d as:=match h with
 | .non=>by cases (show u=Value.none from r);exact⟨_,.none⟩
 | .bl b=>by cases (show u=Value.bool b from r);exact⟨_,.bool b⟩
 | .int i=>by obtain⟨t,q⟩:=(show ∃ t,u=Value.int i t from r);cases q;exact⟨_,.int i t⟩
 | .str x=>by obtain⟨t,q⟩:=(show ∃ t,u=Value.str x t from r);cases q;exact⟨_,.str x t⟩
 | .lst (a:=a) (xs:=xs) e l=>by
  cases (show u=Value.ref a from r)
  obtain⟨_,us,n,rv,h1⟩:=(show zk0 X.prog X.w H s.heap a (.lst xs) from I.hok a _ e)
  obtain⟨as,ra⟩:=l.reads I rv
  exact⟨_,.list h1 rfl rfl (by simpa using ra)⟩
 | .tup (a:=a) (xs:=xs) e l=>by
  cases (show u=Value.ref a from r)
  obtain⟨_,us,rv,o,h1,h2,n,h3⟩:=(show zk0 X.prog X.w H s.heap a (.tup xs) from I.hok a _ e)
  obtain⟨as,ra⟩:=l.reads I rv
  exact⟨_,.tuple h1 h2 h3 (by simpa using ra)⟩
theorem ShL.reads (I:Inv X pins σ H s) {xs:List V}{ds:List PyData}{us:List Value}(h:ShL H xs ds) (r:Vals xs us):∃ as,ReadsAll s.heap us ds as:=match h,r with
 | .nil,.nil=>⟨_,.nil⟩
 | .cons a b,.cons r1 r2=>by
  obtain⟨as,ra⟩:=a.reads I r1
  obtain⟨bs,rb⟩:=b.reads I r2
  exact⟨_,.cons ra rb⟩
end
structure zv4 (d:PyData) (k m:Nat):Prop where
 ok:d.showable=true
 nd:d.hasDict=false
 dp:d.depth<=k
 ln:d.shown.length<=m
theorem zv4.up {d:PyData}{k m k' m':Nat}(h:zv4 d k m) (h1:k<=k') (h2:m<=m'):zv4 d k' m':=⟨h.ok,h.nd,zdb2 h.dp h1,zdb2 h.ln h2⟩
theorem zar8 {k m:Nat}:∀ {ds:List PyData},(∀ d∈ds,zv4 d k m)->PyData.showableAll ds=true/\PyData.hasDictAll ds=false/\PyData.depthAll ds<=k/\piled (PyData.shownAll ds)<=ds.length*(m+2)
 | [],_=>⟨rfl,rfl,zcz3 _,by simp[PyData.shownAll,piled]⟩
 | d :: ds,h=>by
  have h0:=h d (.head _)
  obtain⟨a1,a2,a3,a4⟩:=zar8 (ds:=ds) fun x hx=>h x (.tail _ hx)
  refine⟨by simp[PyData.showableAll,h0.ok,a1],by simp[PyData.hasDictAll,h0.nd,a2],?_,?_⟩
  ·have:=h0.dp
   simp only[PyData.depthAll]
   omega
  ·have:=h0.ln
   simp only[PyData.shownAll,piled_cons,zcx0,Nat.succ_mul]
   omega
theorem zam3:∀ (ts:List Str) (k:Nat) (acc:Str),(textFrom k acc ts).length<=acc.length+piled ts
 | [],_,acc=>by simp[textFrom,piled]
 | t :: ts,k,acc=>by
  have ih:=zam3 ts (k+1) (acc++(if k>0 then ", " else "":String)++t)
  have e:(acc++(if k>0 then ", " else "":String)++t).length=acc.length+(if k>0 then 2 else 0)+t.length:=by
   rw[strLen_append,strLen_append]
   congr 2
   split<;>rfl
  rw[piled_cons]
  show (textFrom (k+1) _ ts).length<=_
  rw[e] at ih
  have e2:(if k>0 then 2 else 0)<=2:=by split<;>omega
  omega
theorem zv4.list {ds:List PyData}{k m:Nat}(h:∀ d∈ds,zv4 d k m):zv4 (.list ds) (k+1) (ds.length*(m+2)+2):=by
 obtain⟨a1,a2,a3,a4⟩:=zar8 h
 refine⟨by simpa [PyData.showable] using a1,by simpa [PyData.hasDict] using a2,by simp only[PyData.depth];omega,?_⟩
 have:=zam3 (PyData.shownAll ds) 0 "["
 have e1:((("[":String):Str)).length=1:=rfl
 have e2:((("]":String):Str)).length=1:=rfl
 simp only[PyData.shown,listText,strLen_append]
 omega
theorem zv4.tuple {ds:List PyData}{k m:Nat}(h:∀ d∈ds,zv4 d k m):zv4 (.tuple ds) (k+1) (ds.length*(m+2)+4):=by
 obtain⟨a1,a2,a3,a4⟩:=zar8 h
 refine⟨by simpa [PyData.showable] using a1,by simpa [PyData.hasDict] using a2,by simp only[PyData.depth];omega,?_⟩
 have e1:((("(":String):Str)).length=1:=rfl
 have e3:((if (PyData.shownAll ds).length==1 then ",)" else ")":String):Str).length<=2:=by split<;>decide
 have e4:(Str.join ", " (PyData.shownAll ds)).length<=piled (PyData.shownAll ds):=by
  by_cases z:PyData.shownAll ds=[]
  ·rw[z];decide
  ·have:=join_length_add _ z;omega
 simp only[PyData.shown,tupleText,strLen_append]
 omega
theorem zv4.int {i:Int}(h:-(10 ^ 100)<=i) (h':i<=10 ^ 100):zv4 (.int i) 0 1921:=by
 have hl:i.natAbs.log2<1920:=by
  by_cases z:i.natAbs=0
  ·rw[z];decide
  ·rw[Nat.log2_lt z]
   have h1:i.natAbs<=10 ^ 100:=by omega
   exact Nat.lt_of_le_of_lt h1 (by decide +kernel)
 exact⟨by simpa [PyData.showable] using hl,rfl,by simp[PyData.depth],by simpa only [PyData.shown] using PyProof.Rows.int_text_len_1921 hl⟩
theorem zv4.non:zv4 .none 0 4:=⟨rfl,rfl,by simp[PyData.depth],by decide⟩
theorem ShL.of {xs:List V}(f:V->PyData) (h:∀ x∈xs,ShV H x (f x)):ShL H xs (xs.map f):=by
 induction xs with
 | nil=>exact .nil
 | cons x xs ih=>exact .cons (h x (.head _)) (ih fun y hy=>h y (.tail _ hy))
end
end L2
set_option maxHeartbeats 4000000
namespace L2
open PySem PySem.Spec PyProof.Rows
mutual
def sml:PyData->Bool
 | .none | .bool _ | .int _ | .str _=>true
 | .list xs | .tuple xs=>decide (xs.length<=1000)&&zap2 xs
 | .dict _=>false
def zap2:List PyData->Bool
 | []=>true
 | x :: xs=>sml x&&zap2 xs
end
theorem zy4:∀ {ds:List PyData},(∀ d∈ds,sml d=true)->zap2 ds=true
 | [],_=>rfl
 | d :: ds,h=>by simp[zap2,h d (.head _),zy4 fun x hx=>h x (.tail _ hx)]
theorem zaf7:∀ {ds:List PyData},zap2 ds=true->∀ d∈ds,sml d=true
 | [],_,d,h=>by cases h
 | x :: ds,h,d,hd=>by
  simp only[zap2,zcw5] at h
  rcases zcw3.mp hd with rfl|hd
  ·exact h.1
  ·exact zaf7 h.2 d hd
section
variable {H H':Hp}{K:zcu8}{Q:VK}
theorem ShL.idx:∀ {xs:List V}{ds:List PyData},xs.length=ds.length->(∀ (i:Nat) x d,xs[i]?=some x->ds[i]?=some d->ShV H x d)->ShL H xs ds
 | [],[],_,_=>.nil
 | [],_ :: _,h,_=>by simp at h
 | _ :: _,[],h,_=>by simp at h
 | x :: xs,d :: ds,h,k=>.cons (k 0 x d rfl rfl) (ShL.idx (by simpa using h) fun i y e h1 h2=>k (i+1) y e (by simpa using h1) (by simpa using h2))
theorem ShL.get:∀ {xs:List V}{ds:List PyData}(_:ShL H xs ds) (i:Nat) (x:V),xs[i]?=some x->∃ d,ds[i]?=some d/\ShV H x d
 | _,_,.nil,i,x,e=>by simp at e
 | _,_,.cons a b,0,x,e=>by cases (show some _=some x from e);exact⟨_,rfl,a⟩
 | _,_,.cons a b,i+1,x,e=>by
  obtain⟨d,e1,e2⟩:=ShL.get b i x (by simpa using e)
  exact⟨d,by simpa using e1,e2⟩
theorem ShL.ex {P:PyData->Prop}:∀ {xs:List V},(∀ x∈xs,∃ d,ShV H x d/\P d)->∃ ds,ShL H xs ds/\∀ d∈ds,P d
 | [],_=>⟨[],.nil,fun _ h=>by cases h⟩
 | x :: xs,h=>by
  obtain⟨d,h1,h2⟩:=h x (.head _)
  obtain⟨ds,h3,h4⟩:=ShL.ex (xs:=xs) fun y hy=>h y (.tail _ hy)
  refine⟨d :: ds,.cons h1 h3,fun e he=>?_⟩
  rcases zcw3.mp he with rfl|he
  ·exact h2
  ·exact h4 e he
def Rda (H:Hp) (v:V) (k m:Nat):Prop:=∃ d,ShV H v d/\sml d=true/\zv4 d k m
theorem Rda.same {v:V}{k m:Nat}(h:Rda H v k m) (s:Same H H'):Rda H' v k m:=by obtain⟨d,h1,h2,h3⟩:=h;exact⟨d,h1.same s,h2,h3⟩
theorem Rda.up {v:V}{k m k' m':Nat}(h:Rda H v k m) (h1:k<=k':=by omega) (h2:m<=m':=by omega):Rda H v k' m':=by obtain⟨d,a,b,c⟩:=h;exact⟨d,a,b,c.up h1 h2⟩
theorem Rda.int {i:Int}(h:-(10 ^ 100)<=i) (h':i<=10 ^ 100):Rda H (.int i) 0 1921:=⟨_,.int i,rfl,zv4.int h h'⟩
theorem Rda.non:Rda H .non 0 1921:=⟨_,.non,rfl,zv4.non.up (by omega) (by omega)⟩
theorem Rda.lst {a:Addr}{xs:List V}{k m:Nat}(e:H a=some (.lst xs)) (l:xs.length<=1000) (h:∀ x∈xs,Rda H x k m):Rda H (.ref a) (k+1) (xs.length*(m+2)+4):=by
 obtain⟨ds,h1,h2⟩:=ShL.ex (P:=fun d=>sml d=true/\zv4 d k m) h
 have hl:=h1.len
 refine⟨.list ds,.lst e h1,?_,?_⟩
 ·simp only[sml,zcw5,decide_eq_true_eq]
  exact⟨by omega,zy4 fun d hd=>(h2 d hd).1⟩
 ·have:=zv4.list (ds:=ds) (k:=k) (m:=m) fun d hd=>(h2 d hd).2
  rw[hl]
  exact this.up (zcw9 _) (by omega)
theorem Rda.tup {a:Addr}{xs:List V}{k m:Nat}(e:H a=some (.tup xs)) (l:xs.length<=1000) (h:∀ x∈xs,Rda H x k m):Rda H (.ref a) (k+1) (xs.length*(m+2)+4):=by
 obtain⟨ds,h1,h2⟩:=ShL.ex (P:=fun d=>sml d=true/\zv4 d k m) h
 have hl:=h1.len
 refine⟨.tuple ds,.tup e h1,?_,?_⟩
 ·simp only[sml,zcw5,decide_eq_true_eq]
  exact⟨by omega,zy4 fun d hd=>(h2 d hd).1⟩
 ·have:=zv4.tuple (ds:=ds) (k:=k) (m:=m) fun d hd=>(h2 d hd).2
  rw[hl]
  exact this
def isD (n:String):PyData->Bool
 | .none=>false
 | .bool _=>n=="bool" || n=="int"
 | .int _=>n=="int"
 | .str _=>n=="str"
 | .list _=>n=="list"
 | .tuple _=>n=="tuple"
 | .dict _=>n=="dict"
theorem zw7 {v:V}{d:PyData}{n:String}(h:ShV H v d) (hn:n="int"∨n="bool"∨n="list"∨n="tuple") (q:Q (.bl (isD n d)) H):zaa0 K v (.ty n) H Q:=by
 rcases hn with rfl|rfl|rfl|rfl<;>cases h
 all_goals first
  | exact zcl1 q (by rfl)
  | exact zba6 q (by rfl)
  | exact zbc2 q (by rfl)
  | exact zcg2 q (by rfl)
  | (rename_i e l;exact zas0 e q (by rfl))
  | (rename_i e l;exact zas8 e q (by rfl))
end
end L2
set_option maxHeartbeats 4000000
namespace L2
open PySem PySem.Spec PyProof.Rows
section
variable {X:Cx}{K:zcu8}{H:Hp}{Q:VK}
end
end L2
set_option maxHeartbeats 4000000
namespace L2
open PySem PySem.Spec PyProof.Rows PySem.W
section
variable {X:Cx}{K:zcu8}{H:Hp}{Q:VK}
@[irreducible] def rDNE (H:Hp) (Q:VK):Prop:=(∀ p H',H p=none->Same H H'->H' p=some (.dT [])->Q (.ref p) H')∨∀ p H',H p=none->Same H H'->H' p=some (.dK [])->Q (.ref p) H'
def tDNE:TE:=fun _ H Q=>rDNE H Q
theorem zci1 {pos:Pos}:PE X (.Dict [] [] pos) tDNE:=fun pins s σ H Q I h=>by
 unfold tDNE rDNE at h
 rcases h with h|h
 ·exact zcc2 (pos:=pos) pins s σ H Q I fun p hp=>h p _ hp (Same.upd hp) zc7
 ·exact zcc0 (pos:=pos) pins s σ H Q I fun p hp=>h p _ hp (Same.upd hp) zc7
theorem dnT_rd (q:∀ p H',H p=none->Same H H'->H' p=some (.dT [])->Q (.ref p) H'):rDNE H Q:=by unfold rDNE;exact .inl q
theorem dnK_rd (q:∀ p H',H p=none->Same H H'->H' p=some (.dK [])->Q (.ref p) H'):rDNE H Q:=by unfold rDNE;exact .inr q
theorem zbw2 {a:Addr}{P:Prop}{kvs:List (Key×V)}(e:H a=some (.dK kvs)) (p:P):rIsD a H P:=by unfold rIsD;exact⟨.inl ⟨kvs,.inl e⟩,p⟩
theorem zbp6 {a:Addr}{i:Int}{z:V}{kvs:List (Key×V)}(e:H a=some (.dK kvs)) (q:Q ((valV kvs (.inl i)).getD z) H):rDG2 a (.int i) z H Q:=by
 unfold rDG2
 exact⟨_,DGet.k (k:=.inl i) e,q⟩
theorem dpK_rd {a:Addr}{i:Int}{v:V}{N:Hp->Prop}{kvs:List (Key×V)}(e:H a=some (.dK kvs)) (hl:kvs.length<sizeLine) (q:∀ H',Chg a H H'->H' a=some (.dK (putK kvs (.inl i) v))->N H'):rDP a (.int i) v H N:=by
 unfold rDP
 exact⟨_,DPut.k (k:=.inl i) e hl,q _ Chg.upd zc7⟩
def dI (kv:List (Int×Int)):List (Key×V):=kv.map fun z=>(.inl z.1,.int z.2)
def valI (kv:List (Int×Int)) (i:Int):Option Int:=(kv.find? fun z=>decide (z.1=i)).map (·.2)
theorem zbt3 (i:Int):∀ kv:List (Int×Int),valV (dI kv) (.inl i)=(valI kv i).map V.int
 | []=>rfl
 | z :: kv=>by
  by_cases e:z.1=i
  ·show valV (((.inl z.1:Key),V.int z.2) :: dI kv) (.inl i)=_
   rw[zac7 (by exact congrArg Sum.inl e)]
   unfold valI
   rw[zdb1,decide_eq_true e];rfl
  ·show valV (((.inl z.1:Key),V.int z.2) :: dI kv) (.inl i)=_
   rw[zad0 (by exact fun q=>e (Sum.inl.inj q)),zbt3 i kv]
   unfold valI
   rw[zdb1,decide_eq_false e]
def eqDI (ka kb:List (Int×Int)):Bool:=ka.length==kb.length&&ka.all fun z=>valI kb z.1==some z.2
theorem zbd6 {A:Around}{s:Shared}{kb:List (Int×Int)}{ws:List (Key×Value)}(rb:KV (dI kb) ws):∀ {ka:List (Int×Int)}{vs:List (Key×Value)},KV (dI ka) vs->KeqHits A s ws vs (ka.all fun z=>valI kb z.1==some z.2)
 | [],vs,r=>by
  unfold KV dI at r
  cases r
  exact .nil
 | z :: ka,vs,r=>by
  unfold KV dI at r
  rw[zcy2] at r
  cases r with
  | @cons p q ps qs h t=>
   obtain⟨h1,h2⟩:=h
   obtain⟨k,v⟩:=q
   cases (show (Sum.inl z.1:Key)=k from h1)
   have val:=rb.val (.inl z.1)
   rw[zbt3] at val
   rw[List.all_cons]
   cases e:valI kb z.1 with
   | none=>
    rw[e] at val
    have:valueAt ws (.inl z.1)=none:=by
     cases w:valueAt ws (.inl z.1) with
     | none=>rfl
     | some y=>rw[w] at val;exact val.elim
    have f:((none:Option Int)==some z.2)=false:=rfl
    rw[f,zdd6]
    exact .miss this
   | some n=>
    rw[e] at val
    obtain⟨y,ey,ry⟩:∃ y,valueAt ws (.inl z.1)=some y/\RelV (.int n) y:=by
     cases w:valueAt ws (.inl z.1) with
     | none=>rw[w] at val;exact val.elim
     | some y=>rw[w] at val;exact⟨y,rfl,val⟩
    have q:=zbs1 (A:=A) (s:=s) (show RelV (.int z.2) v from h2) ry rfl rfl
    have e2:eqV (.int z.2) (.int n)=(some n==some z.2):=by
     by_cases d:z.2=n
     ·subst d;simp[eqV]
     ·have d':¬ n=z.2:=fun x=>d x.symm
      show (z.2==n)=(some n==some z.2)
      rw[beq_eq_false_iff_ne.mpr d]
      exact (beq_eq_false_iff_ne.mpr fun x=>d' (Option.some.inj x)).symm
    rw[e2] at q
    exact .hit ey q (zbd6 rb t)
@[irreducible] def rEqX (K:zcu8) (x y:V) (H:Hp) (Q:VK):Prop:=
 (∃ a b n c,x=.ref a/\y=.ref b/\n<=40/\EqR K H n (.ref a) (.ref b) c/\Q (.bl c) H) ∨
 (∃ a b ka kb,x=.ref a/\y=.ref b/\H a=some (.dK (dI ka))/\H b=some (.dK (dI kb))/\Q (.bl (eqDI ka kb)) H) ∨
 ∃ d e,ShV H x d/\ShV H y e/\d.canLay0=true/\e.canLay0=true/\d.depth<=40/\Q (.bl (PyData.eqv d e)) H
def zbq1 (K:zcu8):R2:=fun x y H Q=>match x,y with
 | .int i,.int j=>Q (.bl (decide (i=j))) H
 | .bl i,.bl j=>Q (.bl (decide (i=j))) H
 | .str i,.str j=>Q (.bl (decide (i=j))) H
 | x,y=>rEqX K x y H Q
def rNeXM (K:zcu8):R2:=fun x y H Q=>zbq1 K x y H fun v H'=>match v with
 | .bl b=>Q (.bl (!b)) H'
 | _=>False
theorem oEqX (hu:X.A.units+40<cLine):OpR X (compareOp .Eq) (zbq1 X.K):=by
 intro pins s σ H x y v u Q I rx ry h
 unfold zbq1 at h
 split at h
 ·exact zbe2 pins s σ H _ _ v u Q I rx ry ⟨rfl,by rw[zs7 (f:=V.int) fun a b e=>V.int.inj e];exact h⟩
 ·exact zbe2 pins s σ H _ _ v u Q I rx ry ⟨rfl,by rw[zs7 (f:=V.bl) fun a b e=>V.bl.inj e];exact h⟩
 ·exact zbe2 pins s σ H _ _ v u Q I rx ry ⟨rfl,by rw[zs7 (f:=V.str) fun a b e=>V.str.inj e];exact h⟩
 ·unfold rEqX at h
  rcases h with ⟨a,b,n,c,rfl,rfl,hn,h1,h2⟩|⟨a,b,ka,kb,rfl,rfl,ea,eb,h⟩|⟨d,e,hd,he,cd,ce,dd,h⟩
  ·cases rx
   cases ry
   exact EqR.rc I h1 (A:=X.A) (by omega) _ _ _ _ ⟨.bl c,H,I,rfl,h2⟩
  ·cases rx
   cases ry
   obtain⟨_,sa,vs,ra,da⟩:=zbt5 I.hok ea
   obtain⟨_,sb,ws,rb,db⟩:=zbt5 I.hok eb
   refine keq_eq sa sb da db (by omega) (fun _=>zbd6 rb ra) ⟨.bl (eqDI ka kb),H,I,?_,h⟩
   have la:vs.length=ka.length:=by rw[← ra.length];unfold dI;rw[zcu6]
   have lb:ws.length=kb.length:=by rw[← rb.length];unfold dI;rw[zcu6]
   rw[la,lb]
   rfl
  ·obtain⟨as,r1⟩:=hd.reads I rx
   obtain⟨bs,r2⟩:=he.reads I ry
   exact SeqAt.compareEq_reads r1 r2 cd ce (by have:=Nat.min_le_left d.depth e.depth;omega) ⟨.bl (PyData.eqv d e),H,I,rfl,h⟩
theorem oNeX (hu:X.A.units+40<cLine):OpR X (compareOp .NotEq) (rNeXM X.K):=by
 intro pins s σ H x y v u Q I rx ry h
 unfold rNeXM zbq1 at h
 split at h
 ·exact zba3 pins s σ H _ _ v u Q I rx ry ⟨rfl,by rw[zs7 (f:=V.int) fun a b e=>V.int.inj e];exact h⟩
 ·exact zba3 pins s σ H _ _ v u Q I rx ry ⟨rfl,by rw[zs7 (f:=V.bl) fun a b e=>V.bl.inj e];exact h⟩
 ·exact zba3 pins s σ H _ _ v u Q I rx ry ⟨rfl,by rw[zs7 (f:=V.str) fun a b e=>V.str.inj e];exact h⟩
 ·unfold rEqX at h
  rcases h with ⟨a,b,n,c,rfl,rfl,hn,h1,h2⟩|⟨a,b,ka,kb,rfl,rfl,ea,eb,h⟩|⟨d,e,hd,he,cd,ce,dd,h⟩
  ·cases rx
   cases ry
   exact EqR.rcNe I h1 (A:=X.A) (by omega) _ _ _ _ ⟨.bl (!c),H,I,rfl,h2⟩
  ·cases rx
   cases ry
   obtain⟨_,sa,vs,ra,da⟩:=zbt5 I.hok ea
   obtain⟨_,sb,ws,rb,db⟩:=zbt5 I.hok eb
   refine keq_ne sa sb da db (by omega) (fun _=>zbd6 rb ra) ⟨.bl (!eqDI ka kb),H,I,?_,h⟩
   have la:vs.length=ka.length:=by rw[← ra.length];unfold dI;rw[zcu6]
   have lb:ws.length=kb.length:=by rw[← rb.length];unfold dI;rw[zcu6]
   rw[la,lb]
   rfl
  ·obtain⟨as,r1⟩:=hd.reads I rx
   obtain⟨bs,r2⟩:=he.reads I ry
   exact SeqAt.compareNe_reads r1 r2 cd ce (by have:=Nat.min_le_left d.depth e.depth;omega) ⟨.bl (!PyData.eqv d e),H,I,rfl,h⟩
theorem eqD_rd {a b:Addr}{ka kb:List (Int×Int)}(ea:H a=some (.dK (dI ka))) (eb:H b=some (.dK (dI kb))) (q:Q (.bl (eqDI ka kb)) H):rEqX K (.ref a) (.ref b) H Q:=by unfold rEqX;exact .inr (.inl ⟨a,b,ka,kb,rfl,rfl,ea,eb,q⟩)
end
end L2
set_option maxHeartbeats 4000000
namespace L2
open PySem PySem.Spec PyProof.Rows PySem.W
theorem zbs5 (l b:Addr) (x y:Int×Int) (t u t' u':Tok) (n n2:Nat) (dd dd2:Option Addr) (sl sl2:Array (Option Value)) :
  Meets (Builtin.«tuple.__lt__» ⟨[.ref l,.ref b],[]⟩)
   (fun A R s=>s.heap.get? l=some { cls:=.type "tuple",dict:=dd,data:=.seq #[.int x.1 t,.int x.2 u] n,slots:=sl }/\s.heap.get? b=some { cls:=.type "tuple",dict:=dd2,data:=.seq #[.int y.1 t',.int y.2 u'] n2,slots:=sl2 } /\
    R (.ok (.ret (.bool (ltP x y)))) s):=
 .of_wp fun prog w A R s h=>by
  obtain⟨hp,g,d,tk,os⟩:=s;obtain⟨hl,hb,h⟩:=h
  have f2:=AutoSeq1.sub_tuple_tuple
  wp_walk using wpAny_loadPart' hl,wpAny_loadPart' hb,wpAny_forIn_list _ (fun rest b s'=>b.1=none/\s'=⟨hp,g,d,tk,os⟩/\(rest=[(.int x.1 t,.int y.1 t'),(.int x.2 u,.int y.2 u')]∨(x.1=y.1/\rest=[(.int x.2 u,.int y.2 u')])∨(x.1=y.1/\x.2=y.2/\rest=[]))) _
  case turn=>
   rintro⟨p,q⟩ rest b s' ⟨hb',rfl,hz⟩
   rcases hz with hz|⟨e0,hz⟩|⟨_,_,hz⟩
   ·cases hz
    refine wpAny_bind (wpAny_eqBool_int ?_)
    cases e:(x.1==y.1)
    ·have h':R (Except.ok (Flow.ret (Value.bool (decide (x.1<y.1))))) ⟨hp,g,d,tk,os⟩:=by
      unfold ltP at h
      rw[if_neg (by rw[e];exact zcw2)] at h
      exact h
     simp only[Bool.not_false,if_true]
     refine wpAny_bind (wpAny_rule ?_)
     refine wpAny_bind ((lt_int (Q:=_) ?_:wpAny _ _ (compareOp .Lt _ _) _ _ _))
     wp_walk
     exact⟨_,rfl,h'⟩
    ·wp_walk
     exact⟨rfl,rfl,.inr (.inl ⟨by simpa using e,rfl⟩)⟩
   ·cases hz
    refine wpAny_bind (wpAny_eqBool_int ?_)
    cases e:(x.2==y.2)
    ·have h':R (Except.ok (Flow.ret (Value.bool (decide (x.2<y.2))))) ⟨hp,g,d,tk,os⟩:=by
      unfold ltP at h
      rw[if_pos (by rw[e0];exact beq_self_eq_true _),if_neg (by rw[e];exact zcw2)] at h
      exact h
     simp only[Bool.not_false,if_true]
     refine wpAny_bind (wpAny_rule ?_)
     refine wpAny_bind ((lt_int (Q:=_) ?_:wpAny _ _ (compareOp .Lt _ _) _ _ _))
     wp_walk
     exact⟨_,rfl,h'⟩
    ·wp_walk
     exact⟨rfl,rfl,.inr (.inr ⟨e0,by simpa using e,rfl⟩)⟩
   ·cases hz
  case fin=>
   rintro⟨b1,b2⟩ s' ⟨hb',rfl,hz⟩
   simp only at hb'
   subst hb'
   rcases hz with hz|⟨e0,hz⟩|⟨e0,e1,hz⟩
   ·cases hz
   ·cases hz
   ·have h':R (Except.ok (Flow.ret (Value.bool false))) ⟨hp,g,d,tk,os⟩:=by
     unfold ltP at h
     rw[if_pos (by rw[e0];exact beq_self_eq_true _),if_pos (by rw[e1];exact beq_self_eq_true _)] at h
     exact h
    wp_walk
    exact⟨_,rfl,h'⟩
  exact⟨rfl,rfl,.inl rfl⟩
section
variable {prog:Program}{w:World}{A:Around}{E:Value->Shared->Prop}{s:Shared}
theorem zbz9 {v v':Value}{x y:Int×Int}{Q:Value->Shared->Prop}(ha:TupI s.heap v x) (hb:TupI s.heap v' y) (hu:A.units<cLine) (h:Q (.bool (ltP x y)) s):wpAny (model prog w) A (compareOp .Lt v v') Q E s:=by
 obtain⟨a,⟨cls,dd,data,sl⟩,t,u,n,rfl,ho,hc,hd⟩:=ha
 obtain⟨b,⟨cls2,dd2,data2,sl2⟩,t',u',n2,rfl,ho2,hc2,hd2⟩:=hb
 simp only at hc hd hc2 hd2
 subst hc hd hc2 hd2
 exact richCompare_meets_room (op:=.Lt) ⟨_,ho,rfl⟩ ⟨_,ho2,rfl⟩ F.slot_tuple_lt F.entry_tuple_lt (F.args_tuple_lt_2 _ _) (zbs5 a b x y t u t' u' n n2 dd dd2 sl sl2)
  ⟨ho,ho2,show Value.bool (ltP x y)≠Value.notImplemented/\Q (.bool (ltP x y)) s from ⟨(fun x=>nomatch x),h⟩⟩ hu
end
section
variable {X:Cx}{K:zcu8}{H:Hp}{Q:VK}
def pV (x:Int×Int):List V:=[.int x.1,.int x.2]
@[irreducible] def rLtA (a b:Addr) (H:Hp) (Q:VK):Prop:=∃ x y:Int×Int,H a=some (.tup (pV x))/\H b=some (.tup (pV y))/\Q (.bl (ltP x y)) H
def rLtXM:R2:=fun x y H Q=>match x,y with
 | .int i,.int j=>Q (.bl (decide (i<j))) H
 | .ref a,.ref b=>rLtA a b H Q
 | _,_=>False
theorem zbw9 {pins:List (Addr×Obj)}{σ:St}{H:Hp}{s:Shared}{a:Addr}{x:Int×Int}(I:Inv X pins σ H s) (h:H a=some (.tup (pV x))):TupI s.heap (.ref a) x:=by
 obtain⟨_,its,rv,o,h1,h2,n,h3⟩:=(show zk0 X.prog X.w H s.heap a (.tup (pV x)) from I.hok a _ h)
 unfold pV at rv
 cases rv with
 | cons r1 rv=>
  cases rv with
  | cons r2 rv=>
   cases rv
   obtain⟨t,rfl⟩:=r1
   obtain⟨u,rfl⟩:=r2
   exact⟨a,o,t,u,n,rfl,h1,h2,h3⟩
theorem oLtX (hu:X.A.units+40<cLine):OpR X (compareOp .Lt) rLtXM:=by
 intro pins s σ H x y v u Q I rx ry h
 unfold rLtXM at h
 split at h
 ·exact op_lt pins s σ H _ _ v u Q I rx ry ⟨_,_,rfl,rfl,h⟩
 ·unfold rLtA at h
  obtain⟨x,y,ea,eb,h⟩:=h
  cases rx
  cases ry
  exact zbz9 (zbw9 I ea) (zbw9 I eb) (by omega) ⟨.bl (ltP x y),H,I,rfl,h⟩
 ·exact h.elim
theorem ltP_rd {a b:Addr}{x y:Int×Int}(ha:H a=some (.tup (pV x))) (hb:H b=some (.tup (pV y))) (q:Q (.bl (ltP x y)) H):rLtA a b H Q:=by unfold rLtA;exact⟨x,y,ha,hb,q⟩
@[irreducible] def rSlX (K:zcu8) (a:Addr) (lo hi:Option Int) (H:Hp) (Q:VK):Prop:=(∃ xs,SqL K H a xs/\∀ p H',H p=none->Same H H'->H' p=some (.lst (cutV xs lo hi))->Q (.ref p) H') ∨
 ∃ xs,SqT K H a xs/\¬ (HT.sIx xs.length 0 lo=0/\HT.sIx xs.length xs.length hi=xs.length)/\∀ p H',H p=none->Same H H'->H' p=some (.tup (cutV xs lo hi))->Q (.ref p) H'
def rSlXM (K:zcu8):V->Option Int->Option Int->Hp->VK->Prop:=fun x lo hi H Q=>match x with
 | .ref a=>rSlX K a lo hi H Q
 | _=>False
theorem slX:SlR X (rSlXM X.K):=by
 intro pins s σ H x v vl vu lo hi sl Q I rx hs pl pu h
 unfold rSlXM at h
 split at h
 ·unfold rSlX at h
  rcases h with ⟨xs,h1,q⟩|⟨xs,h1,h2,q⟩
  ·exact zbq3 pins s σ H _ v vl vu lo hi sl Q I rx hs pl pu ⟨_,xs,rfl,h1,fun p hp=>q p _ hp (Same.upd hp) zc7⟩
  ·exact sl_tup pins s σ H _ v vl vu lo hi sl Q I rx hs pl pu ⟨_,xs,rfl,h1,h2,fun p hp=>q p _ hp (Same.upd hp) zc7⟩
 ·exact h.elim
theorem zbt4 {a:Addr}{xs:List V}{lo hi:Option Int}(h:SqL K H a xs) (q:∀ p H',H p=none->Same H H'->H' p=some (.lst (cutV xs lo hi))->Q (.ref p) H'):rSlX K a lo hi H Q:=by unfold rSlX;exact .inl ⟨xs,h,q⟩
theorem zcd8 {a:Addr}{x y z:V}(h:H a=some (.tup [x,y,z])) (q:∀ p H',H p=none->Same H H'->H' p=some (.tup [x,y])->Q (.ref p) H'):rSlX K a none (some 2) H Q:=by
 unfold rSlX
 exact .inr ⟨[x,y,z],SqT.of h,(by decide:¬ (HT.sIx 3 0 none=0/\HT.sIx 3 3 (some 2)=3)),q⟩
theorem zbb2 (hK:X.K=K) (hu:X.A.units+40<cLine):OpR X (compareOp .Eq) (zbq1 K):=by subst hK;exact oEqX hu
theorem oNeXK (hK:X.K=K) (hu:X.A.units+40<cLine):OpR X (compareOp .NotEq) (rNeXM K):=by subst hK;exact oNeX hu
theorem slXK (hK:X.K=K):SlR X (rSlXM K):=by subst hK;exact slX
theorem Wk.zipN {a b:Addr}{xs ys:List V}{n:Nat}{H1:Hp}(h:SqL K H1 a xs) (h':SqL K H1 b ys) (hx:n<=xs.length) (hy:n<=ys.length) (hn:xs.length=n∨ys.length=n):Wk (Itz K a b) n H1 fun i v H=>∃ p x y,v=.ref p/\H p=some (.tup [x,y])/\xs[i]?=some x/\ys[i]?=some y:=
 ⟨fun i H s hi=>⟨xs,ys,xs[i],ys[i],s.seq h,s.seq h',by simp,by simp⟩,fun H s=>⟨xs,ys,s.seq h,s.seq h',by omega⟩,fun i H v H' s _ y=>by
  obtain⟨p,x,y,rfl,y1,y2,y3,y4,y5⟩:=y
  exact⟨y2,p,x,y,rfl,y3,y4 xs (s.seq h),y5 ys (s.seq h')⟩⟩
end
end L2
set_option maxHeartbeats 4000000
namespace L2
open PySem PySem.Spec PyProof.Rows PySem.W
section
variable {X:Cx}
end
section
variable {X:Cx}{K:zcu8}{H:Hp}{Q:VK}
end
end L2
set_option maxHeartbeats 2000000
namespace L2
open PySem PySem.Spec PyProof.Rows
section
variable {X:Cx}{K:zcu8}
@[irreducible] def rInsA (p:Addr) (v:V) (H:Hp) (Q:VK):Prop:=∃ xs,H p=some (.lst xs)/\xs.length<sizeLine/\∀ H',Chg p H H'->H' p=some (.lst (v :: xs))->Q .non H'
def rInsM:Addr->List V->Hp->VK->Prop:=fun p vs H Q=>match vs with
 | [.int i,v]=>i=0/\rInsA p v H Q
 | _=>False
theorem zcg4:MtA X "list.insert" rInsM:=fun pins s σ H p xs us Q I r h=>by
 unfold rInsM at h
 split at h
 ·rename_i i v
  obtain⟨rfl,h⟩:=h
  unfold rInsA at h
  obtain⟨ys,hH,hz,q⟩:=h
  obtain⟨u,u2,rfl,⟨t,rfl⟩,ru⟩:=r.two
  obtain⟨z,its,n,r,hl,e⟩:=I.lstM hH
  refine call_meets F.slot_list_insert ⟨_,e,rfl⟩ F.entry_list_insert (F.args_list_insert_3 _ _ _) (PySem.AutoSeq1.list_insert_list_int_val_1 p its.toArray n 0 t u2 (by decide) (by rw[zcv8];omega)) ⟨e,?_⟩
  refine⟨.non,_,I.lset (its':=u2 :: its) hH e ?_ (.cons ru r) ?_,rfl,q _ Chg.upd zc7⟩
  ·apply Array.toList_inj.mp
   simp
  ·rw[zcx0]
   omega
 ·exact h.elim
theorem zbj8 {o e e2:Expr}{to:TE}{t:TA}{apos cpos:Pos}(hK:X.K=K) (ho:PE X o to) (ha:PA X [e,e2] t) (hbase:attributeBase o "insert" X.env (eval o X.env)=eval o X.env:=by rfl)
  (hfew:((backTo cpos (starEach [e,e2] X.env)).all (fun x=>!x.1)&&(backToKw cpos (keywordEach [] X.env)).all (fun x=>x.1.isSome)
   && decide ([e,e2].length+([]:List Keyword).length+(if ([]:List Keyword).isEmpty then 0 else 1)<30))=true:=by rfl)
  (hline:(apos.endLine==cpos.line)=true:=by rfl) (hs:starEach [e,e2] X.env=(false,eval e X.env) :: starEach [e2] X.env:=by rfl) (hplain:(backTo cpos (starEach [e2] X.env)).any (·.1)=false:=by rfl):PE X (.Call (.Attribute o "insert" apos) [e,e2] [] cpos) (qBM K rInsM to t):=by
 subst hK
 exact peBM PySem.F.slot_list_insert PySem.F.type_list_insert zcg4 ho ha hbase hfew hline hs hplain
theorem ins_rd {p:Addr}{v:V}{H:Hp}{Q:VK}{xs:List V}(h:H p=some (.lst xs)) (hz:xs.length<sizeLine) (q:∀ H',Chg p H H'->H' p=some (.lst (v :: xs))->Q .non H'):rInsA p v H Q:=by unfold rInsA;exact⟨xs,h,hz,q⟩
end
end L2
set_option maxHeartbeats 1000000
namespace G
open PySem L2
def top (i:Nat):Stmt:=PySem.Challenge.pw_hostfields_k73_mixes_held_against_one_an.main.body.getD i (.Pass ⟨0,0,0,0⟩)
abbrev zu0:Stmt:=top 16
theorem zbd8:zb3 ["thing"] ["thing"] (za3 zu0):=⟨rfl,rfl,rfl,by decide +kernel,rfl,by decide +kernel,by decide +kernel⟩
abbrev zv7:Stmt:=top 17
theorem zbj4:zb3 ["thing","least"] ["thing","least"] (za3 zv7):=⟨rfl,rfl,rfl,by decide +kernel,rfl,by decide +kernel,by decide +kernel⟩
abbrev zp1:Stmt:=top 18
theorem zat9:zb3 ["thing","least","most"] ["thing","least","most"] (za3 zp1):=⟨rfl,rfl,rfl,by decide +kernel,rfl,by decide +kernel,by decide +kernel⟩
abbrev zv9:Stmt:=top 22
theorem zbi4:zb3 ["hosts","fields","plan"] ["hosts","fields","plan"] (za3 zv9):=⟨rfl,rfl,rfl,by decide +kernel,rfl,by decide +kernel,by decide +kernel⟩
abbrev zm9:Stmt:=top 23
theorem zap1:zb3 ["plan"] ["plan"] (za3 zm9):=⟨rfl,rfl,rfl,by decide +kernel,rfl,by decide +kernel,by decide +kernel⟩
abbrev zw3:Stmt:=top 24
theorem zbj3:zb3 ["hosts","fields"] ["hosts","fields"] (za3 zw3):=⟨rfl,rfl,rfl,by decide +kernel,rfl,by decide +kernel,by decide +kernel⟩
abbrev zn1:Stmt:=top 28
theorem zv5:zb3 ["battle","number","field"] ["battle"] (za3 zn1):=⟨rfl,rfl,rfl,by decide +kernel,rfl,by decide +kernel,by decide +kernel⟩
abbrev zt6:Stmt:=top 29
theorem zbd0:zb3 ["battle"] ["battle"] (za3 zt6):=⟨rfl,rfl,rfl,by decide +kernel,rfl,by decide +kernel,by decide +kernel⟩
abbrev zr5:Stmt:=top 30
theorem zay6:zb3 ["first","second"] ["first","second"] (za3 zr5):=⟨rfl,rfl,rfl,by decide +kernel,rfl,by decide +kernel,by decide +kernel⟩
abbrev zt7:Stmt:=top 31
theorem zbc5:zb3 ["first","second","field"] ["first","second","field"] (za3 zt7):=⟨rfl,rfl,rfl,by decide +kernel,rfl,by decide +kernel,by decide +kernel⟩
abbrev zu2:Stmt:=top 32
theorem zbb7:zb3 ["many_rows","many_numbers","rows"] ["many_rows","many_numbers","rows"] (za3 zu2):=⟨rfl,rfl,rfl,by decide +kernel,rfl,by decide +kernel,by decide +kernel⟩
abbrev zl2:Stmt:=top 33
theorem zai9:zb3 ["many_numbers","row"] ["many_numbers","row"] (za3 zl2):=⟨rfl,rfl,rfl,by decide +kernel,rfl,by decide +kernel,by decide +kernel⟩
abbrev zbl3:Stmt:=top 34
theorem sc_won:zb3 ["field","x","y"] ["field","x","y"] (za3 zbl3):=⟨rfl,rfl,rfl,by decide +kernel,rfl,by decide +kernel,by decide +kernel⟩
abbrev zz5:Stmt:=top 36
theorem zal0:zb3 ["mix","hosts","fields"] ["mix"] (za3 zz5):=⟨rfl,rfl,rfl,by decide +kernel,rfl,by decide +kernel,by decide +kernel⟩
abbrev zw4:Stmt:=top 37
theorem zbi6:zb3 ["part"] ["part"] (za3 zw4):=⟨rfl,rfl,rfl,by decide +kernel,rfl,by decide +kernel,by decide +kernel⟩
abbrev zt8:Stmt:=top 38
theorem zbe0:zb3 ["mix"] ["mix"] (za3 zt8):=⟨rfl,rfl,rfl,by decide +kernel,rfl,by decide +kernel,by decide +kernel⟩
abbrev zq7:Stmt:=top 39
theorem zy7:zb3 ["hosts","fields","stream","comes_full","goes_empty"] ["hosts","fields","stream"] (za3 zq7):=⟨rfl,rfl,rfl,by decide +kernel,rfl,by decide +kernel,by decide +kernel⟩
abbrev zz6:Stmt:=top 40
theorem zbn9:zb3 ["stream"] ["stream"] (za3 zz6):=⟨rfl,rfl,rfl,by decide +kernel,rfl,by decide +kernel,by decide +kernel⟩
abbrev zz8:Stmt:=top 41
theorem zbv7:zb3 ["row"] ["row"] (za3 zz8):=⟨rfl,rfl,rfl,by decide +kernel,rfl,by decide +kernel,by decide +kernel⟩
abbrev zw2:Stmt:=top 42
theorem zbl8:zb3 ["thing"] ["thing"] (za3 zw2):=⟨rfl,rfl,rfl,by decide +kernel,rfl,by decide +kernel,by decide +kernel⟩
abbrev zae4:Stmt:=top 43
theorem zbh9:zb3 ["ahead","row","leaving"] ["ahead","row"] (za3 zae4):=⟨rfl,rfl,rfl,by decide +kernel,rfl,by decide +kernel,by decide +kernel⟩
abbrev zz4:Stmt:=top 44
theorem zad5:zb3 ["pairs","sums","key","amount"] ["pairs"] (za3 zz4):=⟨rfl,rfl,rfl,by decide +kernel,rfl,by decide +kernel,by decide +kernel⟩
abbrev zu3:Stmt:=top 45
theorem zbc0:zb3 ["stream"] ["stream"] (za3 zu3):=⟨rfl,rfl,rfl,by decide +kernel,rfl,by decide +kernel,by decide +kernel⟩
abbrev zj7:Stmt:=top 46
theorem zah4:zb3 ["stream"] ["stream"] (za3 zj7):=⟨rfl,rfl,rfl,by decide +kernel,rfl,by decide +kernel,by decide +kernel⟩
abbrev zn4:Stmt:=top 47
theorem zao5:zb3 ["stream"] ["stream"] (za3 zn4):=⟨rfl,rfl,rfl,by decide +kernel,rfl,by decide +kernel,by decide +kernel⟩
abbrev zq6:Stmt:=top 48
theorem zaz3:zb3 ["mix"] ["mix"] (za3 zq6):=⟨rfl,rfl,rfl,by decide +kernel,rfl,by decide +kernel,by decide +kernel⟩
abbrev zz1:Stmt:=top 49
theorem zaz4:zb3 ["mix","field","flows"] ["mix","field"] (za3 zz1):=⟨rfl,rfl,rfl,by decide +kernel,rfl,by decide +kernel,by decide +kernel⟩
abbrev zq9:Stmt:=top 50
theorem zau6:zb3 ["stream"] ["stream"] (za3 zq9):=⟨rfl,rfl,rfl,by decide +kernel,rfl,by decide +kernel,by decide +kernel⟩
abbrev zp4:Stmt:=top 51
theorem zac8:zb3 ["hosts","row","flows"] ["hosts","row"] (za3 zp4):=⟨rfl,rfl,rfl,by decide +kernel,rfl,by decide +kernel,by decide +kernel⟩
abbrev zaf1:Stmt:=top 53
theorem zaq8:zb3 ["top","bottom","divisor"] ["top","bottom"] (za3 zaf1):=⟨rfl,rfl,rfl,by decide +kernel,rfl,by decide +kernel,by decide +kernel⟩
abbrev zi5:Stmt:=top 54
theorem zm8:zb3 ["one","other","rest"] ["one","other"] (za3 zi5):=⟨rfl,rfl,rfl,by decide +kernel,rfl,by decide +kernel,by decide +kernel⟩
abbrev zl0:Stmt:=top 56
theorem zal1:zb3 ["mix"] ["mix"] (za3 zl0):=⟨rfl,rfl,rfl,by decide +kernel,rfl,by decide +kernel,by decide +kernel⟩
abbrev zp5:Stmt:=top 57
theorem zt4:zb3 ["battle","one","other","ours","theirs","total"] ["battle","one","other"] (za3 zp5):=⟨rfl,rfl,rfl,by decide +kernel,rfl,by decide +kernel,by decide +kernel⟩
abbrev zl5:Stmt:=top 58
theorem zak4:zb3 ["hosts","fields","mix"] ["hosts","fields","mix"] (za3 zl5):=⟨rfl,rfl,rfl,by decide +kernel,rfl,by decide +kernel,by decide +kernel⟩
abbrev zj8:Stmt:=top 59
theorem zag7:zb3 ["field","own","others"] ["field","own","others"] (za3 zj8):=⟨rfl,rfl,rfl,by decide +kernel,rfl,by decide +kernel,by decide +kernel⟩
abbrev zl1:Stmt:=top 60
theorem zan1:zb3 ["field","x","others"] ["field","x","others"] (za3 zl1):=⟨rfl,rfl,rfl,by decide +kernel,rfl,by decide +kernel,by decide +kernel⟩
abbrev zl3:Stmt:=top 62
theorem zy0:zb3 ["_law_number","_law_k","_law_mixed"] ["_law_number","_law_k"] (za3 zl3):=⟨rfl,rfl,rfl,by decide +kernel,rfl,by decide +kernel,by decide +kernel⟩
abbrev zn0:Stmt:=top 63
theorem zan7:zb3 ["_law_cell"] ["_law_cell"] (za3 zn0):=⟨rfl,rfl,rfl,by decide +kernel,rfl,by decide +kernel,by decide +kernel⟩
abbrev zr6:Stmt:=top 64
theorem zp2:zb3 ["_law_left","_law_base","_law_digit","_law_number","_law_turn","_law_mixed"] ["_law_left","_law_base"] (za3 zr6):=⟨rfl,rfl,rfl,by decide +kernel,rfl,by decide +kernel,by decide +kernel⟩
abbrev zi4:Stmt:=top 65
theorem zn3:zb3 ["_law_top","_law_bottom","_law_one","_law_other"] ["_law_top","_law_bottom"] (za3 zi4):=⟨rfl,rfl,rfl,by decide +kernel,rfl,by decide +kernel,by decide +kernel⟩
abbrev zf8:Stmt:=top 66
theorem zu9:zb3 ["_law_left","_law_far"] ["_law_left"] (za3 zf8):=⟨rfl,rfl,rfl,by decide +kernel,rfl,by decide +kernel,by decide +kernel⟩
abbrev zf7:Stmt:=top 67
theorem zd1:zb3 ["_law_left","_law_first","_law_second","_law_kind","_law_worth","_law_tie","_law_near","_law_far","_law_rows","_law_x"] ["_law_left","_law_first","_law_second"] (za3 zf7):=⟨rfl,rfl,rfl,by decide +kernel,rfl,by decide +kernel,by decide +kernel⟩
abbrev zf2:Stmt:=top 68
theorem zg7:zb3 ["_law_left","_law_most","_law_many","_law_first","_law_second","_law_fields"] ["_law_left","_law_most","_law_many"] (za3 zf2):=⟨rfl,rfl,rfl,by decide +kernel,rfl,by decide +kernel,by decide +kernel⟩
abbrev zn2:Stmt:=top 69
theorem zl4:zb3 ["_law_battle","_law_first","_law_second","_law_fields","_law_found","_law_field"] ["_law_battle"] (za3 zn2):=⟨rfl,rfl,rfl,by decide +kernel,rfl,by decide +kernel,by decide +kernel⟩
abbrev zi0:Stmt:=top 70
theorem zc0:zb3 ["_law_left","_law_field","_law_first","_law_second","_law_kind","_law_far","_law_rows","_law_at","_law_some","_law_word","_law_worth","_law_more"] ["_law_left","_law_field","_law_first","_law_second"] (za3 zi0):=⟨rfl,rfl,rfl,by decide +kernel,rfl,by decide +kernel,by decide +kernel⟩
abbrev zj9:Stmt:=top 71
theorem zc8:zb3 ["_law_left","_law_battle","_law_first","_law_second","_law_fields","_law_kind","_law_far","_law_wrong","_law_sides","_law_at","_law_found","_law_place"] ["_law_left","_law_battle"] (za3 zj9):=⟨rfl,rfl,rfl,by decide +kernel,rfl,by decide +kernel,by decide +kernel⟩
abbrev zt9:Stmt:=top 72
theorem zbb8:zb3 ["_law_field","_law_x","_law_y"] ["_law_field","_law_x","_law_y"] (za3 zt9):=⟨rfl,rfl,rfl,by decide +kernel,rfl,by decide +kernel,by decide +kernel⟩
abbrev zh0:Stmt:=top 73
theorem zg0:zb3 ["_law_left","_law_hosts","_law_many","_law_found","_law_rest","_law_k","_law_sent"] ["_law_left","_law_hosts","_law_many"] (za3 zh0):=⟨rfl,rfl,rfl,by decide +kernel,rfl,by decide +kernel,by decide +kernel⟩
abbrev zi1:Stmt:=top 74
theorem zn5:zb3 ["_law_left","_law_hosts","_law_many","_law_most","_law_found","_law_k","_law_weight"] ["_law_left","_law_hosts","_law_many","_law_most"] (za3 zi1):=⟨rfl,rfl,rfl,by decide +kernel,rfl,by decide +kernel,by decide +kernel⟩
abbrev zj6:Stmt:=top 75
theorem zag8:zb3 ["_law_told"] ["_law_told"] (za3 zj6):=⟨rfl,rfl,rfl,by decide +kernel,rfl,by decide +kernel,by decide +kernel⟩
abbrev zp3:Stmt:=top 76
theorem zat8:zb3 ["_law_told","_law_due"] ["_law_told","_law_due"] (za3 zp3):=⟨rfl,rfl,rfl,by decide +kernel,rfl,by decide +kernel,by decide +kernel⟩
abbrev zk9:Stmt:=top 77
theorem zh1:zb3 ["_law_caught","_law_some","_law_names"] ["_law_caught"] (za3 zk9):=⟨rfl,rfl,rfl,by decide +kernel,rfl,by decide +kernel,by decide +kernel⟩
abbrev zn6:Stmt:=top 78
theorem zf5:zb3 ["_law_battle","_law_one","_law_other","_law_total","_law_plan","_law_weight","_law_against","_law_often","_law_got","_law_whole"] ["_law_battle","_law_one","_law_other"] (za3 zn6):=⟨rfl,rfl,rfl,by decide +kernel,rfl,by decide +kernel,by decide +kernel⟩
abbrev zi3:Stmt:=top 79
theorem zr1:zb3 ["_law_battle","_law_one","_law_other","_law_caught","e"] ["_law_battle","_law_one","_law_other"] (za3 zi3):=⟨rfl,rfl,rfl,by decide +kernel,rfl,by decide +kernel,by decide +kernel⟩
abbrev zf9:Stmt:=top 80
theorem zk7:zb3 ["_law_left","_law_hosts","_law_many","_law_mix","_law_longer","_law_both"] ["_law_left","_law_hosts","_law_many"] (za3 zf9):=⟨rfl,rfl,rfl,by decide +kernel,rfl,by decide +kernel,by decide +kernel⟩
abbrev zaq9:Stmt:=top 81
theorem zu6:zb3 ["_law_script","_law_cell","_law_left","_law_battle","_law_first","_law_second","_law_fields","_law_one","_law_other","_law_kept","_law_turn","_law_odd","_law_bad","_law_place"] ["_law_script"] (za3 zaq9):=⟨rfl,rfl,rfl,by decide +kernel,rfl,by decide +kernel,by decide +kernel⟩
abbrev zo9:Stmt:=zcj3 (top 2) 0
theorem zat7:zb3 ["self","field"] ["self","field"] (za3 zo9):=⟨rfl,rfl,rfl,by decide +kernel,rfl,by decide +kernel,by decide +kernel⟩
theorem zag4 {P:Program}{w:World}{K:zcu8}{mg:Str->Option Value}{base:Heap}{C aH f:Addr}(F:IniF K "NoBattle.__init__" zo9 f "field") (Z:IniK K C aH f "field"):IniOk P w K mg base C f "field":=by
 obtain⟨fd,F,hb⟩:=F
 refine⟨_,fd,F.ok zat7 (fun vs H Q E h=>by unfold zaf0 at h;obtain⟨_,_,rfl,_⟩:=h;rfl) (fun cdv A outer s H vs Q E hr h=>?_),hb⟩
 unfold zaf0 at h
 obtain⟨e,v,rfl,he,q⟩:=h
 refine⟨_,(za6 (psFldX (K:=K) rfl Z (pq 0) (pq 1))),?_⟩
 (conv=>whnf)
 exact zcg6 he q
theorem nb_0:(["sent"]:List Str).Nodup:=by decide +kernel
theorem nb_1:(["part"]:List Str).Nodup:=by decide +kernel
theorem nb_2:(["plan","weight","hosts","fields"]:List Str).Nodup:=by decide +kernel
theorem nb_3:(["number"]:List Str).Nodup:=by decide +kernel
theorem nb_4:(["row","many_numbers"]:List Str).Nodup:=by decide +kernel
theorem nb_5:(["thing"]:List Str).Nodup:=by decide +kernel
theorem nb_6:(["one","other"]:List Str).Nodup:=by decide +kernel
theorem nb_7:(["left","sent","flow"]:List Str).Nodup:=by decide +kernel
theorem nb_8:(["row"]:List Str).Nodup:=by decide +kernel
theorem nb_9:(["left","sent","flow","hosts"]:List Str).Nodup:=by decide +kernel
theorem nb_10:(["left","sent","flow"]:List Str).Nodup:=by decide +kernel
theorem nb_11:(["ahead","row"]:List Str).Nodup:=by decide +kernel
theorem nb_12:(["plan","weight","field"]:List Str).Nodup:=by decide +kernel
theorem nb_13:(["left","sent","flows"]:List Str).Nodup:=by decide +kernel
theorem nb_14:(["field","mix"]:List Str).Nodup:=by decide +kernel
theorem nb_15:(["left","sent","flow"]:List Str).Nodup:=by decide +kernel
theorem nb_16:(["count","flows"]:List Str).Nodup:=by decide +kernel
theorem nb_17:(["row","stream"]:List Str).Nodup:=by decide +kernel
theorem nb_18:(["plan","weight"]:List Str).Nodup:=by decide +kernel
theorem nb_19:(["y","share","field","x"]:List Str).Nodup:=by decide +kernel
theorem nb_20:(["x","share","field","others"]:List Str).Nodup:=by decide +kernel
theorem nb_21:(["field","own","others"]:List Str).Nodup:=by decide +kernel
theorem nb_22:(["_law_y","_law_left","_law_worth"]:List Str).Nodup:=by decide +kernel
theorem nb_23:(["_law_k","_law_left","_law_first","_law_second"]:List Str).Nodup:=by decide +kernel
theorem nb_24:(["_law_row"]:List Str).Nodup:=by decide +kernel
theorem nb_25:(["_law_row"]:List Str).Nodup:=by decide +kernel
theorem nb_26:(["_law_k","_law_field","_law_plan","_law_against"]:List Str).Nodup:=by decide +kernel
theorem nb_27:(["_law_plan","_law_weight"]:List Str).Nodup:=by decide +kernel
theorem nb_28:(["_law_plan","_law_often"]:List Str).Nodup:=by decide +kernel
structure Cz (K:zcu8) (mg:Str->Option Value) (base:Heap) (zcl8 zcl5 zcm7 zcl6 zcl9 zcm8 zcm2 zcm0 zcm1 zcm9 zcn0 zcn3 zcn1 zcm3 zcm6:Addr):Prop where
 g_HostError:mg "HostError"=some (.ref zcl8)
 g_NoBattle:mg "NoBattle"=some (.ref zcl5)
 g_NoPlan:mg "NoPlan"=some (.ref zcm7)
 g_NoMix:mg "NoMix"=some (.ref zcl6)
 g_NoStream:mg "NoStream"=some (.ref zcl9)
 g_NoSide:mg "NoSide"=some (.ref zcm8)
 g_NoAlike:mg "NoAlike"=some (.ref zcm2)
 g_NoNumber:mg "NoNumber"=some (.ref zcm0)
 g_TooGreat:mg "TooGreat"=some (.ref zcm1)
 g_NoEven:mg "NoEven"=some (.ref zcm9)
 g_NoText:mg "NoText"=some (.ref zcn0)
 g_NoRow:mg "NoRow"=some (.ref zcn3)
 g_NoName:mg "NoName"=some (.ref zcn1)
 g_NoPlace:mg "NoPlace"=some (.ref zcm3)
 z_NoBattle:IniK K zcl5 zcl8 zcm6 "field"
 fi_NoBattle:IniF K "NoBattle.__init__" zo9 zcm6 "field"
 hd_NoBattle:zdd5 K zcl5=true
 k_NoBattle:ExcK K zcl5
 c_NoBattle:(zcy5 K zcl5).isSome=true
 m_NoBattle:PySem.W.exmOne K (.ref zcl5) (.ref zcl8)=some true
 v_NoBattle:zcv5 K (.ref zcl5) (.type "ValueError")=some true
 i_NoBattle_HostError:zcv5 K (.ref zcl5) (.ref zcl8)=some true
 i_NoBattle_NoBattle:zcv5 K (.ref zcl5) (.ref zcl5)=some true
 i_NoBattle_NoPlan:zcv5 K (.ref zcl5) (.ref zcm7)=some false
 i_NoBattle_NoMix:zcv5 K (.ref zcl5) (.ref zcl6)=some false
 i_NoBattle_NoStream:zcv5 K (.ref zcl5) (.ref zcl9)=some false
 i_NoBattle_NoSide:zcv5 K (.ref zcl5) (.ref zcm8)=some false
 i_NoBattle_NoAlike:zcv5 K (.ref zcl5) (.ref zcm2)=some false
 i_NoBattle_NoNumber:zcv5 K (.ref zcl5) (.ref zcm0)=some false
 i_NoBattle_TooGreat:zcv5 K (.ref zcl5) (.ref zcm1)=some false
 i_NoBattle_NoEven:zcv5 K (.ref zcl5) (.ref zcm9)=some false
 i_NoBattle_NoText:zcv5 K (.ref zcl5) (.ref zcn0)=some false
 i_NoBattle_NoRow:zcv5 K (.ref zcl5) (.ref zcn3)=some false
 i_NoBattle_NoName:zcv5 K (.ref zcl5) (.ref zcn1)=some false
 i_NoBattle_NoPlace:zcv5 K (.ref zcl5) (.ref zcm3)=some false
 o_NoMix:PyProof.Rows.OwnCls "NoMix" zcl6 bmV newV mg base
 k_NoMix:ExcK K zcl6
 c_NoMix:(zcy5 K zcl6).isSome=true
 m_NoMix:PySem.W.exmOne K (.ref zcl6) (.ref zcl8)=some true
 v_NoMix:zcv5 K (.ref zcl6) (.type "ValueError")=some true
 i_NoMix_HostError:zcv5 K (.ref zcl6) (.ref zcl8)=some true
 i_NoMix_NoBattle:zcv5 K (.ref zcl6) (.ref zcl5)=some false
 i_NoMix_NoPlan:zcv5 K (.ref zcl6) (.ref zcm7)=some false
 i_NoMix_NoMix:zcv5 K (.ref zcl6) (.ref zcl6)=some true
 i_NoMix_NoStream:zcv5 K (.ref zcl6) (.ref zcl9)=some false
 i_NoMix_NoSide:zcv5 K (.ref zcl6) (.ref zcm8)=some false
 i_NoMix_NoAlike:zcv5 K (.ref zcl6) (.ref zcm2)=some false
 i_NoMix_NoNumber:zcv5 K (.ref zcl6) (.ref zcm0)=some false
 i_NoMix_TooGreat:zcv5 K (.ref zcl6) (.ref zcm1)=some false
 i_NoMix_NoEven:zcv5 K (.ref zcl6) (.ref zcm9)=some false
 i_NoMix_NoText:zcv5 K (.ref zcl6) (.ref zcn0)=some false
 i_NoMix_NoRow:zcv5 K (.ref zcl6) (.ref zcn3)=some false
 i_NoMix_NoName:zcv5 K (.ref zcl6) (.ref zcn1)=some false
 i_NoMix_NoPlace:zcv5 K (.ref zcl6) (.ref zcm3)=some false
 n_HostError:zcv5 K (.type "NoneType") (.ref zcl8)=some false
 n_NoBattle:zcv5 K (.type "NoneType") (.ref zcl5)=some false
 n_NoPlan:zcv5 K (.type "NoneType") (.ref zcm7)=some false
 n_NoMix:zcv5 K (.type "NoneType") (.ref zcl6)=some false
 n_NoStream:zcv5 K (.type "NoneType") (.ref zcl9)=some false
 n_NoSide:zcv5 K (.type "NoneType") (.ref zcm8)=some false
 n_NoAlike:zcv5 K (.type "NoneType") (.ref zcm2)=some false
 n_NoNumber:zcv5 K (.type "NoneType") (.ref zcm0)=some false
 n_TooGreat:zcv5 K (.type "NoneType") (.ref zcm1)=some false
 n_NoEven:zcv5 K (.type "NoneType") (.ref zcm9)=some false
 n_NoText:zcv5 K (.type "NoneType") (.ref zcn0)=some false
 n_NoRow:zcv5 K (.type "NoneType") (.ref zcn3)=some false
 n_NoName:zcv5 K (.type "NoneType") (.ref zcn1)=some false
 n_NoPlace:zcv5 K (.type "NoneType") (.ref zcm3)=some false
structure Nm (mg:Str->Option Value):Prop where
 ValueError_:mg "ValueError"=none
 abs_:mg "abs"=none
 all_:mg "all"=none
 bool_:mg "bool"=none
 enumerate_:mg "enumerate"=none
 int_:mg "int"=none
 isinstance_:mg "isinstance"=none
 len_:mg "len"=none
 list_:mg "list"=none
 range_:mg "range"=none
 sorted_:mg "sorted"=none
 sum_:mg "sum"=none
 tuple_:mg "tuple"=none
 zip_:mg "zip"=none
local macro_rules | `(tactic| walk_at "hp")=>`(tactic| first|assumption|(refine Same.at (H:=?H) ?s ?e;(case s=>assumption);(case e=>walk_at "hp"))|(refine Chg.at (a:=?a) (H:=?H) ?c ?e ?n;(case c=>assumption);(case n=>walk_at "ne");(case e=>walk_at "hp"))|fail "hp")
local macro_rules | `(tactic| walk_at "ne")=>`(tactic| first|assumption|(apply Ne.symm;assumption)|fail "ne")
local macro_rules | `(tactic| walk_at "wh")=>`(tactic| (conv=>whnf))
local macro_rules | `(tactic| walk_at "st")=>`(tactic| (conv=>whnf);first
 | refine zck5 (by omega) (by omega) ?_
 | refine zbs2 (by omega) (by omega) ?_
 | refine zcj5 (by omega) (fun r h0 h1=>?_)
 | refine div_rd (by omega) (by omega) ?_
 | (refine pow_rd ⟨by decide,by decide,by decide⟩ ?_;simp only[Int.reduceToNat,Int.reducePow])
 | (refine zb6 (xs:=?xs) (v:=?v) ?hp ?ev ?_;(case hp=>walk_at "hp");(case ev=>rfl))
 | (refine zg6 (xs:=?xs) (v:=?v) ?hp ?ev ?_;(case hp=>walk_at "hp");(case ev=>rfl))
 | refine zb7 (fun p H' hf hs ha=>?_)
 | refine zc5 (fun p H' hf hs ha=>?_)
 | refine zbc2 ?_
 | (refine zas8 (xs:=?xs) ?hp ?_;(case hp=>walk_at "hp"))
 | (refine zas0 (xs:=?xs) ?hp ?_;(case hp=>walk_at "hp"))
 | (refine zu4 (xs:=?xs) ?hp ?_;(case hp=>walk_at "hp"))
 | (refine zh4 (xs:=?xs) ?hp ?_;(case hp=>walk_at "hp"))
 | refine zba6 ?_
 | refine br_T ?_
 | refine br_F ?_
 | refine zad2 (by omega) ?_
 | refine zy6 (by omega) ?_
 | fail "st")
def g0 (f t:Nat):Int:=if f=0/\t=0 then 1 else 0
def pl (ns:List Nat):List V:=ns.map fun (n:Nat)=>V.int (n:Int)
def il (ns:List Nat):List Int:=ns.map fun (n:Nat)=>(n:Int)
local macro_rules | `(tactic| walk_at "om")=>`(tactic| first|decide|omega)
section
variable {P:Program}{w:World}{K:zcu8}{mg:Str->Option Value}{base:Heap}{zcl8:Addr}{zcl5:Addr}{zcm7:Addr}{zcl6:Addr}{zcl9:Addr}{zcm8:Addr}{zcm2:Addr}{zcm0:Addr}{zcm1:Addr}{zcm9:Addr}{zcn0:Addr}{zcn3:Addr}{zcn1:Addr}{zcm3:Addr}{zcm6:Addr}
def isW:PyData->Bool
 | .int _=>true
 | _=>false
def zr0 (l:Int):PyData->Bool
 | .int i=>decide (l<=i)
 | _=>false
def zar6 (l m:Int):PyData->Bool
 | .int i=>decide (l<=i/\i<=m)
 | _=>false
theorem zah9 {p q:Prop}[Decidable p] [Decidable q] (h:p):decide (p/\q)=decide q:=by simp[h]
theorem zai4 {p q:Prop}[Decidable p] [Decidable q] (h:¬ p):decide (p/\q)=false:=by simp[h]
@[irreducible] def zj0:Sp:=fun vs H Q _=>∃ (v:V) (d:PyData),vs=[v]/\ShV H v d/\Q (.bl (isW d)) H
theorem zbw8 {H:Hp}{v:V}{d:PyData}{Q:VK}{E:XK}(h:ShV H v d) (q:Q (.bl (isW d)) H):zj0 [v] H Q E:=by unfold zj0;exact⟨v,d,rfl,h,q⟩
theorem zcc9 {H:Hp}{i:Int}{Q:VK}{E:XK}(q:Q (.bl true) H):zj0 [.int i] H Q E:=zbw8 (.int i) q
theorem zba8 {f:Addr}{fd:FuncData}(F:Fun K "is_whole" "is_whole" zu0 f fd) (N:Nm mg):FnOk P w K mg base CX0 1 f fd ["thing"] zj0:=by
 refine F.ok zbd8 (fun vs H Q E h=>by unfold zj0 at h;obtain⟨_,_,rfl,_⟩:=h;rfl) (fun cdv A outer s H vs Q E hr h=>?_)
 unfold zj0 at h
 obtain⟨v,d,rfl,h,q⟩:=h
 refine⟨_,(za6 (zb0 (zs8 (pB (zac5 (K:=K) rfl) N.isinstance_ za8 (za0 (pq 0) (za0 (pTy N.int_ zam9) za1))) (zs2 (peNot (pB (zac5 (K:=K) rfl) N.isinstance_ za8 (za0 (pq 0) (za0 (pTy N.bool_ zbr8) za1)))))))),?_⟩
 refine zw7 h (.inl rfl) ?_
 cases h
 case int i=>
  refine br_T ?_
  refine zbc2 ?_
  walk_at "wh"
  exact q
 case bl b=>
  refine br_T ?_
  refine zba6 ?_
  walk_at "wh"
  exact q
 all_goals (walk_at "wh";refine br_F ?_;walk_at "wh";exact q)
@[irreducible] def zi2:Sp:=fun vs H Q _=>∃ (v:V) (d:PyData) (l:Int),vs=[v,.int l]/\ShV H v d/\Q (.bl (zr0 l d)) H
theorem zae5 {H:Hp}{v:V}{d:PyData}{l:Int}{Q:VK}{E:XK}(h:ShV H v d) (q:Q (.bl (zr0 l d)) H):zi2 [v,.int l] H Q E:=by unfold zi2;exact⟨v,d,l,rfl,h,q⟩
theorem zcc7 {H:Hp}{i l:Int}{Q:VK}{E:XK}(q:Q (.bl (decide (l<=i))) H):zi2 [.int i,.int l] H Q E:=zae5 (.int i) q
theorem zbl6 {f:Addr}{fd:FuncData}(F:Fun K "is_from" "is_from" zv7 f fd) (N:Nm mg) (zcn8:Def P w K mg base CX0 1 "is_whole" ["thing"] zj0):FnOk P w K mg base CX0 2 f fd ["thing","least"] zi2:=by
 refine F.ok zbj4 (fun vs H Q E h=>by unfold zi2 at h;obtain⟨_,_,_,rfl,_⟩:=h;rfl) (fun cdv A outer s H vs Q E hr h=>?_)
 unfold zi2 at h
 obtain⟨v,d,l,rfl,h,q⟩:=h
 refine⟨_,(za6 (zb0 (zs8 (pD zcn8 hr zb5 (za0 (pq 0) za1)) (zs2 (peC oLe (pq 1) (pq 0)))))),?_⟩
 refine zbw8 h ?_
 cases h
 case int i=>
  refine br_T ?_
  walk_at "wh"
  exact q
 all_goals (walk_at "wh";refine br_F ?_;walk_at "wh";exact q)
@[irreducible] def ze4:Sp:=fun vs H Q _=>∃ (v:V) (d:PyData) (l m:Int),vs=[v,.int l,.int m]/\ShV H v d/\Q (.bl (zar6 l m d)) H
theorem zbp5 {H:Hp}{v:V}{d:PyData}{l m:Int}{Q:VK}{E:XK}(h:ShV H v d) (q:Q (.bl (zar6 l m d)) H):ze4 [v,.int l,.int m] H Q E:=by unfold ze4;exact⟨v,d,l,m,rfl,h,q⟩
theorem zax8 {H:Hp}{i l m:Int}{Q:VK}{E:XK}(q:Q (.bl (decide (l<=i/\i<=m))) H):ze4 [.int i,.int l,.int m] H Q E:=zbp5 (.int i) q
theorem zat3 {f:Addr}{fd:FuncData}(F:Fun K "is_between" "is_between" zp1 f fd) (N:Nm mg) (zcn2:Def P w K mg base CX0 2 "is_from" ["thing","least"] zi2):FnOk P w K mg base CX0 3 f fd ["thing","least","most"] ze4:=by
 refine F.ok zat9 (fun vs H Q E h=>by unfold ze4 at h;obtain⟨_,_,_,_,rfl,_⟩:=h;rfl) (fun cdv A outer s H vs Q E hr h=>?_)
 unfold ze4 at h
 obtain⟨v,d,l,m,rfl,h,q⟩:=h
 refine⟨_,(za6 (zb0 (zs8 (pD zcn2 hr zb5 (za0 (pq 0) (za0 (pq 1) za1))) (zs2 (peC oLe (pq 0) (pq 2)))))),?_⟩
 refine zae5 h ?_
 cases h
 case int i=>
  have q:Q (.bl (decide (l<=i/\i<=m))) H:=q
  refine ze9 (fun h=>?_) (fun h=>?_)
  ·walk_at "wh"
   rw[zah9 h] at q
   exact q
  ·walk_at "wh"
   rw[zai4 h] at q
   exact q
 all_goals (walk_at "wh";refine br_F ?_;walk_at "wh";exact q)
def zc6:PyData->List PyData
 | .list ds=>ds
 | _=>[]
def intD:PyData->Int
 | .int i=>i
 | _=>0
def zv3:PyData->Bool
 | .list ds=>ds.all (zr0 0)
 | _=>false
theorem zu5 {l:Int}{d:PyData}(h:zr0 l d=true):∃ i:Int,d=.int i/\l<=i:=by
 cases d with
 | int i=>exact⟨i,rfl,of_decide_eq_true h⟩
 | _=>simp[zr0] at h
theorem zq8 {ds:List PyData}(h:sml (.list ds)=true):ds.length<=1000/\∀ d∈ds,sml d=true:=by
 simp only[sml,zcw5,decide_eq_true_eq] at h
 exact⟨h.1,zaf7 h.2⟩
theorem zas6 {ds:List PyData}(h:sml (.tuple ds)=true):ds.length<=1000/\∀ d∈ds,sml d=true:=by
 simp only[sml,zcw5,decide_eq_true_eq] at h
 exact⟨h.1,zaf7 h.2⟩
theorem zv8 {ds:List PyData}(g:PyData->Bool):(List.range ds.length).map (fun i=>V.bl (g (ds.getD i .none)))=(ds.map g).map V.bl:=by
 apply zda7
 intro i
 rw[zcu9,zcu9,zcu9]
 by_cases h:i<ds.length
 ·rw[zcz9 h,zcu7 h]
  simp[h]
 ·rw[zcx4 (by simp;omega),zcx4 (by walk_at "om")]
  rfl
theorem zad1 {ds:List PyData}(g:PyData->Bool):(ds.map g).all id=ds.all g:=by rw[zdb3];rfl
@[irreducible] def zg9:Sp:=fun vs H Q _=>∃ (v:V) (d:PyData),vs=[v]/\ShV H v d/\sml d=true/\∀ H',Same H H'->Q (.bl (zv3 d)) H'
theorem zav3 {H:Hp}{v:V}{d:PyData}{Q:VK}{E:XK}(h:ShV H v d) (hs:sml d=true) (q:∀ H',Same H H'->Q (.bl (zv3 d)) H'):zg9 [v] H Q E:=by unfold zg9;exact⟨v,d,rfl,h,hs,q⟩
theorem zao8 {f:Addr}{fd:FuncData}(F:Fun K "sends_hosts" "sends_hosts" zm9 f fd) (N:Nm mg) (zcn2:Def P w K mg base CX0 2 "is_from" ["thing","least"] zi2):FnOk P w K mg base CX0 3 f fd ["plan"] zg9:=by
 refine F.ok zap1 (fun vs H Q E h=>by unfold zg9 at h;obtain⟨_,_,rfl,_⟩:=h;rfl) (fun cdv A outer s H vs Q E hr h=>?_)
 unfold zg9 at h
 obtain⟨v,d,rfl,h,hs,q⟩:=h
 refine⟨_,(za6 (zb0 (zs8 (pB (zac5 (K:=K) rfl) N.isinstance_ za8 (za0 (pq 0) (za0 (pTy N.list_ zn7) za1))) (zs2 (pB (zak7 (K:=K) rfl rfl) N.all_ zy8 (za0 (zj5 (N:=["sent"]) (ks:=[none]) (zj2 (K:=K) rfl (pq 0)) (fun cl C s3 H3 fp=>(za7 (i:=0) nb_0 rfl (by first|exact Or.inl rfl|exact Or.inr rfl))) (fun cl C s3 H3 fp=>ze2) (fun cl C s3 H3 fp=>(pD zcn2 hr zb5 (za0 (pq 0) (za0 za2 za1)))) (.skip .nil)) za1)))))),?_⟩
 refine zw7 h (.inr (.inr (.inl rfl))) ?_
 cases h
 case lst a xs ds e l=>
  have ll:=l.len
  obtain⟨dl,dm⟩:=zq8 hs
  refine br_T ?_
  refine zd0 e ?_
  refine zq1 (Wk.list (SqL.of e)) (by rw[sizeLine_eq];omega) (fun i=>.bl (zr0 0 (ds.getD i .none))) (fun _=>true) (fun j σ=>∃ t:Option V,σ=[t]) ⟨none,rfl⟩ ?_ ?_
  ·rintro j x σ H1 R S hj s1 hx ⟨t,rfl⟩ k _
   obtain⟨d,ed,hd⟩:=l.get j x hx
   have eg:ds.getD j .none=d:=by rw[zcv2,ed];rfl
   refine br_T ?_
   refine zae5 (hd.same s1) ?_
   walk_at "wh"
   rw[← eg]
   exact k rfl _ _ (Same.refl _) ⟨_,rfl⟩
  intro acc H1 f1 s1 h1
  rw[zg8,ll,zv8 (zr0 0)] at h1
  refine zx7 h1 ?_
  rw[zad1]
  walk_at "wh"
  exact q _ s1
 all_goals (walk_at "wh";refine br_F ?_;walk_at "wh";exact q _ (Same.refl _))
theorem zbh8 {H:Hp}:∀ {xs:List V}{ds:List PyData},ShL H xs ds->(∀ d∈ds,zr0 0 d=true)->∃ ns:List Int,xs=ns.map V.int/\ds=ns.map PyData.int/\∀ x∈ns,0<=x
 | _,_,.nil,_=>⟨[],rfl,rfl,fun _ h=>by cases h⟩
 | _,_,.cons (x:=x) (d:=d) a b,h=>by
  obtain⟨i,rfl,hi⟩:=zu5 (h d (.head _))
  obtain⟨ns,e1,e2,e3⟩:=zbh8 b fun y hy=>h y (.tail _ hy)
  cases a
  refine⟨i :: ns,by rw[e1];rfl,by rw[e2];rfl,fun y hy=>?_⟩
  rcases zcw3.mp hy with rfl|hy
  ·exact hi
  ·exact e3 y hy
theorem zap8 {H:Hp}{v:V}{d:PyData}(h:ShV H v d) (e:zv3 d=true):∃ (a:Addr) (ns:List Int),v=.ref a/\H a=some (.lst (ns.map V.int))/\d=.list (ns.map PyData.int)/\∀ x∈ns,0<=x:=by
 cases h
 case lst a xs ds e1 l=>
  have e:ds.all (zr0 0)=true:=e
  rw[zcx1] at e
  obtain⟨ns,rfl,rfl,e3⟩:=zbh8 l e
  exact⟨a,ns,rfl,e1,rfl,e3⟩
 all_goals simp[zv3] at e
def zak5 (d:PyData):List Int:=(zc6 d).map intD
theorem zae1 (ns:List Int):zak5 (.list (ns.map PyData.int))=ns:=by
 unfold zak5 zc6
 rw[zcy1]
 exact (zcx5 fun x _=>rfl).trans (List.map_id _)
def zx9 (h f:Int) (d:PyData):Bool:=zv3 d&&decide (((zak5 d).length:Int)=f)&&decide ((zak5 d).sum=h)
@[irreducible] def zp0:Sp:=fun vs H Q _=>∃ (h f:Int) (v:V) (d:PyData),vs=[.int h,.int f,v]/\ShV H v d/\sml d=true/\∀ H',Same H H'->Q (.bl (zx9 h f d)) H'
theorem zbh0 {H:Hp}{h f:Int}{v:V}{d:PyData}{Q:VK}{E:XK}(hv:ShV H v d) (hs:sml d=true) (q:∀ H',Same H H'->Q (.bl (zx9 h f d)) H'):zp0 [.int h,.int f,v] H Q E:=by unfold zp0;exact⟨h,f,v,d,rfl,hv,hs,q⟩
theorem zbl1 {f:Addr}{fd:FuncData}(F:Fun K "is_plan" "is_plan" zv9 f fd) (N:Nm mg) (zcn9:Def P w K mg base CX0 3 "sends_hosts" ["plan"] zg9):FnOk P w K mg base CX0 4 f fd ["hosts","fields","plan"] zp0:=by
 refine F.ok zbi4 (fun vs H Q E h=>by unfold zp0 at h;obtain⟨_,_,_,_,rfl,_⟩:=h;rfl) (fun cdv A outer s H vs Q E hr h=>?_)
 unfold zp0 at h
 obtain⟨h,f,v,d,rfl,hv,hs,q⟩:=h
 have hu:=hu40 hr
 refine⟨_,(za6 (zb0 (zs8 (pD zcn9 hr zb5 (za0 (pq 2) za1)) (zs8 (peC (zbb2 (K:=K) rfl (by exact hu)) (pB (zq4 (K:=K) rfl) N.len_ zj3 (za0 (pq 2) za1)) (pq 1)) (zs2 (peC (zbb2 (K:=K) rfl (by exact hu)) (pB (zan4 (K:=K) rfl rfl) N.sum_ zab0 (za0 (pq 2) za1)) (pq 0))))))),?_⟩
 refine zav3 hv hs (fun H1 s1=>?_)
 have q:=q _ s1
 cases es:zv3 d
 ·walk_at "wh"
  refine br_F ?_
  walk_at "wh"
  unfold zx9 at q
  rw[es] at q
  exact q
 ·obtain⟨a,ns,rfl,ha,rfl,nn⟩:=zap8 hv es
  have q:Q (.bl (decide ((ns.length:Int)=f)&&decide (ns.sum=h))) H1:=by
   unfold zx9 at q
   rw[es,zae1,zcy9] at q
   exact q
  refine br_T ?_
  refine zh4 (s1 _ _ ha) ?_
  rw[zcu6]
  refine ze9 (fun h2=>?_) (fun h2=>?_)
  ·rw[decide_eq_true h2,zcy9] at q
   refine zab2 (s1 _ _ ha) ?_
   walk_at "wh"
   exact q
  ·rw[decide_eq_false h2,zdd6] at q
   walk_at "wh"
   exact q
def zx1:PyData->Bool
 | .tuple [a,b]=>zv3 a&&zr0 1 b
 | _=>false
@[irreducible] def zr2:Sp:=fun vs H Q _=>∃ (v:V) (d:PyData),vs=[v]/\ShV H v d/\sml d=true/\∀ H',Same H H'->Q (.bl (zx1 d)) H'
theorem zcb9 {H:Hp}{v:V}{d:PyData}{Q:VK}{E:XK}(h:ShV H v d) (hs:sml d=true) (q:∀ H',Same H H'->Q (.bl (zx1 d)) H'):zr2 [v] H Q E:=by unfold zr2;exact⟨v,d,rfl,h,hs,q⟩
theorem zbb4 {H:Hp}{xs:List V}{ds:List PyData}(l:ShL H xs ds) (e:xs.length=2):∃ x y a b,xs=[x,y]/\ds=[a,b]/\ShV H x a/\ShV H y b:=by
 cases l with
 | nil=>simp at e
 | cons h1 l=>
  cases l with
  | nil=>simp at e
  | cons h2 l=>
   cases l with
   | nil=>exact⟨_,_,_,_,rfl,rfl,h1,h2⟩
   | cons _ _=>simp at e
theorem zar7 {ds:List PyData}(h:ds.length≠2):zx1 (.tuple ds)=false:=by
 match ds,h with
 | [],_=>rfl
 | [_],_=>rfl
 | [_,_],h=>simp at h
 | _ :: _ :: _ :: _,_=>rfl
theorem zbk1 {f:Addr}{fd:FuncData}(F:Fun K "is_part" "is_part" zw4 f fd) (N:Nm mg) (zcn2:Def P w K mg base CX0 2 "is_from" ["thing","least"] zi2) (zcn9:Def P w K mg base CX0 3 "sends_hosts" ["plan"] zg9):FnOk P w K mg base CX0 4 f fd ["part"] zr2:=by
 refine F.ok zbi6 (fun vs H Q E h=>by unfold zr2 at h;obtain⟨_,_,rfl,_⟩:=h;rfl) (fun cdv A outer s H vs Q E hr h=>?_)
 unfold zr2 at h
 obtain⟨v,d,rfl,h,hs,q⟩:=h
 have hu:=hu40 hr
 refine⟨_,(za6 (zb0 (zs8 (pB (zac5 (K:=K) rfl) N.isinstance_ za8 (za0 (pq 0) (za0 (pTy N.tuple_ zai0) za1))) (zs8 (peC (zbb2 (K:=K) rfl (by exact hu)) (pB (zq4 (K:=K) rfl) N.len_ zj3 (za0 (pq 0) za1)) za2) (zs8 (pD zcn9 hr zb5 (za0 (zb8 (K:=K) rfl (pq 0) za2) za1)) (zs2 (pD zcn2 hr zb5 (za0 (zb8 (K:=K) rfl (pq 0) za2) (za0 za2 za1))))))))),?_⟩
 refine zw7 h (.inr (.inr (.inr rfl))) ?_
 cases h
 case tup t xs ds e l=>
  have ll:=l.len
  obtain⟨dl,dm⟩:=zas6 hs
  refine br_T ?_
  refine zu4 e ?_
  refine ze9 (fun h2=>?_) (fun h2=>?_)
  ·obtain⟨x,y,a,b,rfl,rfl,ha,hb⟩:=zbb4 l (by walk_at "om")
   refine zb6 (v:=x) e rfl ?_
   refine zav3 ha (dm a (by simp)) (fun H1 s1=>?_)
   have q:Q (.bl (zv3 a&&zr0 1 b)) H1:=q _ s1
   cases es:zv3 a
   ·rw[es] at q
    refine br_F ?_
    walk_at "wh"
    exact q
   ·rw[es,zcy9] at q
    refine br_T ?_
    refine zb6 (v:=y) (s1 _ _ e) rfl ?_
    refine zae5 (hb.same s1) ?_
    walk_at "wh"
    exact q
  ·have q:=q _ (Same.refl _)
   rw[zar7 (by walk_at "om")] at q
   walk_at "wh"
   exact q
 all_goals (walk_at "wh";refine br_F ?_;walk_at "wh";exact q _ (Same.refl _))
theorem zam0 {H:Hp}{v:V}{d:PyData}(h:ShV H v d) (e:zx1 d=true):∃ (t l:Addr) (w:Int) (ns:List Int),v=.ref t/\H t=some (.tup [.ref l,.int w])/\H l=some (.lst (ns.map V.int))/\d=.tuple [.list (ns.map PyData.int),.int w]/\(∀ x∈ns,0<=x)/\1<=w:=by
 cases h
 case tup t xs ds e1 l=>
  have l2:ds.length=2:=Classical.byContradiction fun z=>by rw[zar7 z] at e;cases e
  obtain⟨x,y,a,b,rfl,rfl,ha,hb⟩:=zbb4 l (by rw[l.len];exact l2)
  have e:(zv3 a&&zr0 1 b)=true:=e
  rw[zcw5] at e
  obtain⟨p,ns,rfl,h1,rfl,nn⟩:=zap8 ha e.1
  obtain⟨w,rfl,hw⟩:=zu5 e.2
  cases hb
  exact⟨t,p,w,ns,rfl,e1,h1,rfl,nn,hw⟩
 all_goals simp[zx1] at e
def zq5:PyData->PyData
 | .tuple (a :: _)=>a
 | _=>.none
def zx4 (h f:Int):Bool:=decide (0<=h/\h<=40)&&decide (1<=f/\f<=8)
def zp6 (ds:List PyData):List Int:=zak5 (zq5 (ds.getD 0 .none))
def mixD:PyData->Bool
 | .list ds=>decide (ds.length≠0)&&ds.all zx1&&zx4 (zp6 ds).sum (zp6 ds).length&&ds.all fun d=>zx9 (zp6 ds).sum (zp6 ds).length (zq5 d)
 | _=>false
@[irreducible] def zo8:Sp:=fun vs H Q _=>∃ i l:Int,vs=[.int i,.int l]/\Q (.bl (zx4 i l)) H
theorem zbg2 {H:Hp}{i l:Int}{Q:VK}{E:XK}(q:Q (.bl (zx4 i l)) H):zo8 [.int i,.int l] H Q E:=by unfold zo8;exact⟨i,l,rfl,q⟩
theorem zbj2 {f:Addr}{fd:FuncData}(F:Fun K "is_size" "is_size" zw3 f fd) (N:Nm mg) {zco0:Tok}(c_MOST_FIELDS_plans:mg "MOST_FIELDS_plans"=some (.int 8 zco0)) {zco2:Tok}(c_MOST_HOSTS_plans:mg "MOST_HOSTS_plans"=some (.int 40 zco2)) (zcm4:Def P w K mg base CX0 3 "is_between" ["thing","least","most"] ze4):FnOk P w K mg base CX0 4 f fd ["hosts","fields"] zo8:=by
 refine F.ok zbj3 (fun vs H Q E h=>by unfold zo8 at h;obtain⟨_,_,rfl,_⟩:=h;rfl) (fun cdv A outer s H vs Q E hr h=>?_)
 unfold zo8 at h
 obtain⟨i,l,rfl,q⟩:=h
 refine⟨_,(za6 (zb0 (zs8 (pD zcm4 hr zb5 (za0 (pq 0) (za0 za2 (za0 (zk5 (v:=.int 40) rfl c_MOST_HOSTS_plans ⟨_,rfl⟩) za1)))) (zs2 (pD zcm4 hr zb5 (za0 (pq 1) (za0 za2 (za0 (zk5 (v:=.int 8) rfl c_MOST_FIELDS_plans ⟨_,rfl⟩) za1)))))))),?_⟩
 refine zax8 ?_
 walk_at "wh"
 unfold zx4 at q
 refine ze9 (fun h=>?_) (fun h=>?_)
 ·rw[decide_eq_true h,zcy9] at q
  refine zax8 ?_
  walk_at "wh"
  exact q
 ·rw[decide_eq_false h,zdd6] at q
  walk_at "wh"
  exact q
theorem getD_some {ds:List PyData}{i:Nat}{d:PyData}(h:ds[i]?=some d):ds.getD i .none=d:=by rw[zcv2,h];rfl
theorem zy3 (ds:List PyData):mixD (.list ds)=(decide (ds.length≠0)&&ds.all zx1&&zx4 (zp6 ds).sum (zp6 ds).length&&ds.all fun d=>zx9 (zp6 ds).sum (zp6 ds).length (zq5 d)):=rfl
@[irreducible] def zs1:Sp:=fun vs H Q _=>∃ (v:V) (d:PyData),vs=[v]/\ShV H v d/\sml d=true/\∀ H',Same H H'->Q (.bl (mixD d)) H'
theorem zbx2 {H:Hp}{v:V}{d:PyData}{Q:VK}{E:XK}(h:ShV H v d) (hs:sml d=true) (q:∀ H',Same H H'->Q (.bl (mixD d)) H'):zs1 [v] H Q E:=by unfold zs1;exact⟨v,d,rfl,h,hs,q⟩
theorem zbo4 {f:Addr}{fd:FuncData}(F:Fun K "is_mix" "is_mix" zz5 f fd) (N:Nm mg) (zcs7:Def P w K mg base CX0 4 "is_part" ["part"] zr2) (zcq4:Def P w K mg base CX0 4 "is_plan" ["hosts","fields","plan"] zp0) (zcq5:Def P w K mg base CX0 4 "is_size" ["hosts","fields"] zo8):FnOk P w K mg base CX0 5 f fd ["mix"] zs1:=by
 refine F.ok zal0 (fun vs H Q E h=>by unfold zs1 at h;obtain⟨_,_,rfl,_⟩:=h;rfl) (fun cdv A outer s H vs Q E hr h=>?_)
 unfold zs1 at h
 obtain⟨v,d,rfl,h,hs,q⟩:=h
 have hu:=hu40 hr
 refine⟨_,(za4 (psIf (ptW (pwOr (zm0 (ptV (pB (zac5 (K:=K) rfl) N.isinstance_ za8 (za0 (pq 0) (za0 (pTy N.list_ zn7) za1))))) (pwOr (ptC (zbb2 (K:=K) rfl (by exact hu)) (pB (zq4 (K:=K) rfl) N.len_ zj3 (za0 (pq 0) za1)) za2) (zaa8 (zm0 (ptV (pB (zak7 (K:=K) rfl rfl) N.all_ zy8 (za0 (zj5 (N:=["part"]) (ks:=[none]) (zj2 (K:=K) rfl (pq 0)) (fun cl C s3 H3 fp=>(za7 (i:=0) nb_1 rfl (by first|exact Or.inl rfl|exact Or.inr rfl))) (fun cl C s3 H3 fp=>ze2) (fun cl C s3 H3 fp=>(pD zcs7 hr zb5 (za0 (pq 0) za1))) (.skip .nil)) za1)))))))) (za6 (zb0 zx8)) zc2)
   (za4 (psS (i:=1) zal0.nd (pB (zan4 (K:=K) rfl rfl) N.sum_ zab0 (za0 (zb8 (K:=K) rfl (zb8 (K:=K) rfl (pq 0) za2) za2) za1)))
   (za4 (psS (i:=2) zal0.nd (pB (zq4 (K:=K) rfl) N.len_ zj3 (za0 (zb8 (K:=K) rfl (zb8 (K:=K) rfl (pq 0) za2) za2) za1)))
   (za6 (zb0 (zs8 (pD zcq5 hr zb5 (za0 (pq 1) (za0 (pq 2) za1))) (zs2 (pB (zak7 (K:=K) rfl rfl) N.all_ zy8 (za0 (zj5 (N:=["plan","weight","hosts","fields"]) (ks:=[none,none,some 1,some 2]) (zj2 (K:=K) rfl (pq 0)) (fun cl C s3 H3 fp=>(zk3 (K:=K) (n:=2) rfl rfl (zb1 (za7 (i:=0) nb_2 rfl (by first|exact Or.inl rfl|exact Or.inr rfl)) (zb1 (za7 (i:=1) nb_2 rfl (by first|exact Or.inl rfl|exact Or.inr rfl)) zk1)))) (fun cl C s3 H3 fp=>ze2) (fun cl C s3 H3 fp=>(pD zcq4 hr zb5 (za0 (pq 2) (za0 (pq 3) (za0 (pq 0) za1))))) (.skip (.skip (.take rfl rfl (by first|exact Or.inl rfl|exact Or.inr rfl) (.take rfl rfl (by first|exact Or.inl rfl|exact Or.inr rfl) .nil))))) za1))))))))),?_⟩
 refine zw7 h (.inr (.inr (.inl rfl))) ?_
 cases h
 case lst a xs ds e l=>
  have ll:=l.len
  obtain⟨dl,dm⟩:=zq8 hs
  refine zd6 (br_T ?_)
  refine zh4 e ?_
  rw[ll]
  refine ze9 (fun h0=>?_) (fun h0=>?_)
  ·walk_at "wh"
   refine br_T ?_
   walk_at "wh"
   have q:=q _ (Same.refl _)
   rw[zy3,decide_eq_false (by walk_at "om")] at q
   exact q
  have d0:decide (ds.length≠0)=true:=decide_eq_true (by walk_at "om")
  refine zd0 e ?_
  refine zq1 (Wk.list (SqL.of e)) (by rw[sizeLine_eq];omega) (fun i=>.bl (zx1 (ds.getD i .none))) (fun _=>true) (fun j σ=>∃ t:Option V,σ=[t]) ⟨none,rfl⟩ ?_ ?_
  ·rintro j x σ H1 R S hj s1 hx ⟨t,rfl⟩ k _
   obtain⟨d,ed,hd⟩:=l.get j x hx
   refine br_T ?_
   refine zcb9 (hd.same s1) (dm d (zcv1 ed)) (fun H2 s2=>?_)
   walk_at "wh"
   rw[← getD_some ed]
   exact k rfl _ _ s2 ⟨_,rfl⟩
  intro acc H1 f1 s1 h1
  rw[zg8,ll,zv8 zx1] at h1
  refine zx7 h1 ?_
  rw[zad1]
  cases ea:ds.all zx1
  ·walk_at "wh"
   refine zd6 (br_F ?_)
   walk_at "wh"
   have q:=q _ s1
   rw[zy3,d0,ea] at q
   exact q
  have ea':∀ d∈ds,zx1 d=true:=zcx1.mp ea
  refine zd6 (br_T ?_)
  obtain⟨x0,ex0⟩:∃ x,xs[0]?=some x:=⟨_,zcu7 (by walk_at "om")⟩
  obtain⟨dd0,ed0,hd0⟩:=l.get 0 x0 ex0
  obtain⟨t,p,w,ns,rfl,ht,hp,rfl,nn,hw⟩:=zam0 hd0 (ea' dd0 (zcv1 ed0))
  have fp:zp6 ds=ns:=by unfold zp6;rw[getD_some ed0];exact zae1 ns
  have at0:atI xs 0=some (.ref t):=zl6 (j:=0) ex0
  refine zg6 (v:=.ref t) (s1 _ _ e) at0 ?_
  refine zb6 (v:=.ref p) (s1 _ _ ht) rfl ?_
  refine zab2 (s1 _ _ hp) ?_
  refine zg6 (v:=.ref t) (s1 _ _ e) at0 ?_
  refine zb6 (v:=.ref p) (s1 _ _ ht) rfl ?_
  refine zh4 (s1 _ _ hp) ?_
  rw[zcu6]
  refine zbg2 ?_
  have qq:∀ H',Same H1 H'->Q (.bl (zx4 ns.sum ns.length&&ds.all fun d=>zx9 ns.sum ns.length (zq5 d))) H':=fun H' s'=>by
   have q:=q _ (s1.trans s')
   rw[zy3,d0,ea,fp,zcy9,zcy9] at q
   exact q
  cases es:zx4 ns.sum ns.length
  ·have qq:=qq _ (Same.refl _)
   rw[es] at qq
   refine br_F ?_
   walk_at "wh"
   exact qq
  refine br_T ?_
  refine zd0 (s1 _ _ e) ?_
  refine zq1 (Wk.list (SqL.of (s1 _ _ e))) (by rw[sizeLine_eq];omega) (fun i=>.bl (zx9 ns.sum ns.length (zq5 (ds.getD i .none)))) (fun _=>true) (fun j σ=>∃ t u:Option V,σ=[t,u,some (.int ns.sum),some (.int ns.length)]) ⟨none,none,rfl⟩ ?_ ?_
  ·rintro j x σ H2 R S hj s2 hx ⟨t',u',rfl⟩ k _
   obtain⟨d,ed,hd⟩:=l.get j x hx
   have hd:=hd.same (s1.trans s2)
   have hm:=dm d (zcv1 ed)
   obtain⟨t,p,w,ns',rfl,ht,hp,rfl,nn',hw'⟩:=zam0 hd (ea' d (zcv1 ed))
   have sp:sml (.list (ns'.map PyData.int))=true:=(zas6 hm).2 _ (by simp)
   have hv:ShV H2 (.ref p) (.list (ns'.map PyData.int)):=.lst hp (ShL.idx (by rw[zcu6,zcu6]) fun i x d h1 h2=>by
    rw[zcu9] at h1 h2
    obtain⟨n,en,rfl⟩:=zcv4.mp h1
    rw[en] at h2
    cases h2
    exact .int n)
   refine ze7 ht ?_
   refine br_T ?_
   refine zbh0 hv sp (fun H3 s3=>?_)
   walk_at "wh"
   have e1:=getD_some ed
   rw[e1] at k
   exact k rfl _ _ s3 ⟨_,_,rfl⟩
  intro acc2 H2 f2 s2 h2
  rw[zg8,ll,zv8 fun d=>zx9 ns.sum ns.length (zq5 d)] at h2
  refine zx7 h2 ?_
  rw[zad1]
  walk_at "wh"
  have qq:=qq _ s2
  rw[es,zcy9] at qq
  exact qq
 all_goals (walk_at "wh";refine zd6 (br_F ?_);walk_at "wh";refine br_T ?_;walk_at "wh";exact q _ (Same.refl _))
@[irreducible] def zo2 (zcl6:Addr):Sp:=fun vs H Q E=>∃ (v:V) (d:PyData),vs=[v]/\ShV H v d/\sml d=true/\(mixD d=true->∀ H',Same H H'->Q .non H')/\(mixD d=false->∀ H',Same H H'->E (.ref zcl6) none H')
theorem zay4 {zcl6:Addr}{H:Hp}{v:V}{d:PyData}{Q:VK}{E:XK}(h:ShV H v d) (hs:sml d=true) (q:mixD d=true->∀ H',Same H H'->Q .non H') (qe:mixD d=false->∀ H',Same H H'->E (.ref zcl6) none H'):zo2 zcl6 [v] H Q E:=by unfold zo2;exact⟨v,d,rfl,h,hs,q,qe⟩
theorem zbc7 {f:Addr}{fd:FuncData}(F:Fun K "look_mix" "look_mix" zt8 f fd) (N:Nm mg) (zcr3:Def P w K mg base CX0 5 "is_mix" ["mix"] zs1) (Z:Cz K mg base zcl8 zcl5 zcm7 zcl6 zcl9 zcm8 zcm2 zcm0 zcm1 zcm9 zcn0 zcn3 zcn1 zcm3 zcm6):FnOk P w K mg base (CXR P w) 6 f fd ["mix"] (zo2 zcl6):=by
 refine F.okR zbe0 (fun vs H Q E h=>by unfold zo2 at h;obtain⟨_,_,rfl,_⟩:=h;rfl) (fun cdv A outer s H vs Q E hr hX h=>?_)
 unfold zo2 at h
 obtain⟨v,d,rfl,h,hs,q,qe⟩:=h
 refine⟨_,(za6 (psIf (zm0 (ptV (pD zcr3 hr zb5 (za0 (pq 0) za1)))) (za6 (zbw5 Z.o_NoMix PySem.F.excBase_ValueError rfl hX (za0 zg5 za1))) zc2)),?_⟩
 refine zbx2 h hs (fun H1 s1=>?_)
 cases em:mixD d
 ·walk_at "wh"
  refine zd6 (br_F ?_)
  walk_at "wh"
  exact⟨by decide,qe em _ s1⟩
 ·walk_at "wh"
  refine zd6 (br_T ?_)
  walk_at "wh"
  exact q em _ s1
def wtD:PyData->Int
 | .tuple [_,b]=>intD b
 | _=>0
theorem zbk9 {ds:List PyData}(g:PyData->Int):(List.range ds.length).map (fun i=>V.int (g (ds.getD i .none)))=(ds.map g).map V.int:=by
 apply zda7
 intro i
 rw[zcu9,zcu9,zcu9]
 by_cases h:i<ds.length
 ·rw[zcz9 h,zcu7 h]
  simp[h]
 ·rw[zcx4 (by simp;omega),zcx4 (by walk_at "om")]
  rfl
theorem zbh3 {H:Hp}{v:V}{d:PyData}(h:ShV H v d) (e:mixD d=true):∃ (a:Addr) (xs:List V) (ds:List PyData),v=.ref a/\d=.list ds/\H a=some (.lst xs)/\ShL H xs ds/\ds.length≠0/\∀ d∈ds,zx1 d=true:=by
 cases h
 case lst a xs ds e1 l=>
  unfold mixD at e
  simp only[zcw5,decide_eq_true_eq] at e
  exact⟨a,xs,ds,rfl,rfl,e1,l,e.1.1.1,zcx1.mp e.1.1.2⟩
 all_goals simp[mixD] at e
theorem zba1 {d:PyData}(h:zx1 d=true):∃ (ns:List Int) (w:Int),d=.tuple [.list (ns.map PyData.int),.int w]/\(∀ x∈ns,0<=x)/\1<=w:=by
 cases d with
 | tuple ds=>
  have l2:ds.length=2:=Classical.byContradiction fun z=>by rw[zar7 z] at h;cases h
  match ds,l2 with
  | [a,b],_=>
   have h:(zv3 a&&zr0 1 b)=true:=h
   rw[zcw5] at h
   obtain⟨w,rfl,hw⟩:=zu5 h.2
   cases a with
   | list es=>
    have h1:es.all (zr0 0)=true:=h.1
    rw[zcx1] at h1
    have:∀ {es:List PyData},(∀ d∈es,zr0 0 d=true)->∃ ns:List Int,es=ns.map PyData.int/\∀ x∈ns,0<=x:=fun {es} h1=>by
     induction es with
     | nil=>exact⟨[],rfl,fun _ h=>by cases h⟩
     | cons d es ih=>
      obtain⟨i,rfl,hi⟩:=zu5 (h1 d (.head _))
      obtain⟨ns,rfl,hn⟩:=ih fun d hd=>h1 d (.tail _ hd)
      refine⟨i :: ns,rfl,fun x hx=>?_⟩
      rcases zcw3.mp hx with rfl|hx
      ·exact hi
      ·exact hn x hx
    obtain⟨ns,rfl,hn⟩:=this h1
    exact⟨ns,w,rfl,hn,hw⟩
   | _=>simp[zv3] at h
 | _=>simp[zx1] at h
theorem zu1 (ns:List Int) (w:Int):zak5 (zq5 (.tuple [.list (ns.map PyData.int),.int w]))=ns:=zae1 ns
structure ze3 (H:Hp) (m:Addr) (ts:List (Addr×Addr)) (ms:List (List Int×Int)):Prop where
 out:H m=some (.lst (ts.map fun t=>V.ref t.1))
 len:ts.length=ms.length
 part:∀ (i:Nat) t x,ts[i]?=some t->ms[i]?=some x->H t.1=some (.tup [.ref t.2,.int x.2])/\H t.2=some (.lst (x.1.map V.int))
abbrev OkM (h f:Int) (ms:List (List Int×Int)):Prop:=1<=ms.length/\ms.length<=100/\((0<=h/\h<=40)/\1<=f/\f<=8)/\∀ x∈ms,(∀ n∈x.1,0<=n)/\(x.1.length:Int)=f/\x.1.sum=h/\1<=x.2
theorem ze3.same {H H':Hp}{m:Addr}{ts:List (Addr×Addr)}{ms:List (List Int×Int)}(M:ze3 H m ts ms) (s:Same H H'):ze3 H' m ts ms:=⟨s _ _ M.out,M.len,fun i t x h1 h2=>⟨s _ _ (M.part i t x h1 h2).1,s _ _ (M.part i t x h1 h2).2⟩⟩
theorem ze3.get {H:Hp}{m:Addr}{ts:List (Addr×Addr)}{ms:List (List Int×Int)}(M:ze3 H m ts ms) {i:Nat}(hi:i<ms.length):∃ t x,ts[i]?=some t/\ms[i]?=some x/\H t.1=some (.tup [.ref t.2,.int x.2])/\H t.2=some (.lst (x.1.map V.int)):=
 ⟨_,_,zcu7 (by have:=M.len;omega),zcu7 hi,M.part i _ _ (zcu7 (by have:=M.len;omega)) (zcu7 hi)⟩
theorem ze3.elt {H:Hp}{m:Addr}{ts:List (Addr×Addr)}{ms:List (List Int×Int)}(M:ze3 H m ts ms) {i:Nat}{v:V}(e:(ts.map fun t=>V.ref t.1)[i]?=some v):∃ t x,v=.ref t.1/\ts[i]?=some t/\ms[i]?=some x/\H t.1=some (.tup [.ref t.2,.int x.2])/\H t.2=some (.lst (x.1.map V.int)):=by
 rw[zcu9] at e
 obtain⟨t,et,rfl⟩:=zcv4.mp e
 obtain⟨t',x,h1,h2,h3⟩:=M.get (i:=i) (by have:=(zcv3.mp et).1;have:=M.len;omega)
 rw[et] at h1
 cases h1
 exact⟨t,x,rfl,et,h2,h3⟩
theorem ze3.ix {H:Hp}{m:Addr}{ts:List (Addr×Addr)}{ms:List (List Int×Int)}(M:ze3 H m ts ms) {k:Nat}{x:List Int×Int}(e:ms[k]?=some x):∃ t,ts[k]?=some t/\atI (ts.map fun t=>V.ref t.1) (k:Int)=some (.ref t.1)/\H t.1=some (.tup [.ref t.2,.int x.2])/\H t.2=some (.lst (x.1.map V.int)):=by
 obtain⟨t,x',h1,h2,h3⟩:=M.get (i:=k) ((zcv3.mp e).1)
 rw[e] at h2
 cases h2
 exact⟨t,h1,zl6 (by rw[zcu9,h1];rfl),h3⟩
def rm (p:Addr) (H:Hp):Hp:=fun b=>if b=p then none else H b
def nw (H H':Hp):Hp:=fun b=>match H b with
 | none=>H' b
 | some _=>none
theorem zf6 {p b:Addr}{H:Hp}{o:HO}(n:b≠p) (h:H b=some o):rm p H b=some o:=by unfold rm;rw[if_neg n];exact h
theorem zm1 {p b:Addr}{H:Hp}{o:HO}(h:rm p H b=some o):b≠p/\H b=some o:=by
 unfold rm at h
 by_cases e:b=p
 ·rw[if_pos e] at h;cases h
 ·rw[if_neg e] at h;exact⟨e,h⟩
theorem zy1 {b:Addr}{H H':Hp}{o:HO}(n:H b=none) (h:H' b=some o):nw H H' b=some o:=by unfold nw;rw[n];exact h
theorem zan9 {b:Addr}{H H':Hp}{o:HO}(h:nw H H' b=some o):H b=none/\H' b=some o:=by
 unfold nw at h
 cases e:H b with
 | none=>rw[e] at h;exact⟨rfl,h⟩
 | some v=>rw[e] at h;cases h
theorem zb9 (p:Addr) (H:Hp):Same (rm p H) H:=fun b o h=>(zm1 h).2
theorem zbd9 (H H':Hp):Same (nw H H') H':=fun b o h=>(zan9 h).2
theorem Same.rm {p:Addr}{H H':Hp}(s:Same H H'):Same (rm p H) (G.rm p H'):=fun b o h=>zf6 (zm1 h).1 (s _ _ (zm1 h).2)
theorem Chg.rm {p:Addr}{H H':Hp}(s:Chg p H H'):Same (rm p H) (G.rm p H'):=fun b o h=>zf6 (zm1 h).1 (s _ _ (zm1 h).1 (zm1 h).2)
theorem nw_up {H H' H'':Hp}(s:Same H' H''):Same (nw H H') (nw H H''):=fun b o h=>zy1 (zan9 h).1 (s _ _ (zan9 h).2)
theorem zck4 {H0 H H':Hp}(s:Same H0 H):Same (nw H H') (nw H0 H'):=fun b o h=>zy1 (s.free (zan9 h).1) (zan9 h).2
def zab9:PyData->Bool
 | .tuple [a,b,c]=>zr0 0 a&&zar6 0 (intD a) b&&zr0 1 c
 | _=>false
theorem zbe5 {ds:List PyData}(h:ds.length≠3):zab9 (.tuple ds)=false:=by
 match ds,h with
 | [],_=>rfl
 | [_],_=>rfl
 | [_,_],_=>rfl
 | [_,_,_],h=>simp at h
 | _ :: _ :: _ :: _ :: _,_=>rfl
theorem zax5 {H:Hp}{xs:List V}{ds:List PyData}(l:ShL H xs ds) (e:xs.length=3):∃ x y z a b c,xs=[x,y,z]/\ds=[a,b,c]/\ShV H x a/\ShV H y b/\ShV H z c:=by
 cases l with
 | nil=>simp at e
 | cons h1 l=>
  obtain⟨y,z,b,c,rfl,rfl,h2,h3⟩:=zbb4 l (by simpa using e)
  exact⟨_,_,_,_,_,_,rfl,rfl,h1,h2,h3⟩
@[irreducible] def zr8:Sp:=fun vs H Q _=>∃ (v:V) (d:PyData),vs=[v]/\ShV H v d/\Q (.bl (zab9 d)) H
theorem zcb3 {H:Hp}{v:V}{d:PyData}{Q:VK}{E:XK}(h:ShV H v d) (q:Q (.bl (zab9 d)) H):zr8 [v] H Q E:=by unfold zr8;exact⟨v,d,rfl,h,q⟩
theorem zbj0 {f:Addr}{fd:FuncData}(F:Fun K "is_flow" "is_flow" zw2 f fd) (N:Nm mg) (zcm4:Def P w K mg base CX0 3 "is_between" ["thing","least","most"] ze4) (zcn2:Def P w K mg base CX0 2 "is_from" ["thing","least"] zi2):FnOk P w K mg base CX0 4 f fd ["thing"] zr8:=by
 refine F.ok zbl8 (fun vs H Q E h=>by unfold zr8 at h;obtain⟨_,_,rfl,_⟩:=h;rfl) (fun cdv A outer s H vs Q E hr h=>?_)
 unfold zr8 at h
 obtain⟨v,d,rfl,h,q⟩:=h
 have hu:=hu40 hr
 refine⟨_,(za4 (psIf (ptW (pwOr (zm0 (ptV (pB (zac5 (K:=K) rfl) N.isinstance_ za8 (za0 (pq 0) (za0 (pTy N.tuple_ zai0) za1))))) (zaa8 (ptC (oNeXK (K:=K) rfl (by exact hu)) (pB (zq4 (K:=K) rfl) N.len_ zj3 (za0 (pq 0) za1)) za2)))) (za6 (zb0 zx8)) zc2)
   (za6 (zb0 (zs8 (pD zcn2 hr zb5 (za0 (zb8 (K:=K) rfl (pq 0) za2) (za0 za2 za1))) (zs8 (pD zcm4 hr zb5 (za0 (zb8 (K:=K) rfl (pq 0) za2) (za0 za2 (za0 (zb8 (K:=K) rfl (pq 0) za2) za1)))) (zs2 (pD zcn2 hr zb5 (za0 (zb8 (K:=K) rfl (pq 0) za2) (za0 za2 za1))))))))),?_⟩
 refine zw7 h (.inr (.inr (.inr rfl))) ?_
 cases h
 case tup t xs ds e l=>
  have ll:=l.len
  refine zd6 (br_T ?_)
  refine zu4 e ?_
  refine zd6 (ze9 (fun h3=>?_) (fun h3=>?_))
  ·obtain⟨x,y,z,a,b,c,rfl,rfl,ha,hb,hc⟩:=zax5 l (by walk_at "om")
   have q:Q (.bl (zr0 0 a&&zar6 0 (intD a) b&&zr0 1 c)) H:=q
   refine zb6 (v:=x) e rfl ?_
   refine zae5 ha ?_
   cases e1:zr0 0 a
   ·rw[e1] at q
    refine br_F ?_
    walk_at "wh"
    exact q
   ·rw[e1,zcy9] at q
    obtain⟨i,rfl,hi⟩:=zu5 e1
    cases ha
    refine br_T ?_
    refine zb6 (v:=y) e rfl ?_
    refine zb6 (v:=.int i) e rfl ?_
    refine zbp5 hb ?_
    have q:Q (.bl (zar6 0 i b&&zr0 1 c)) H:=q
    cases e2:zar6 0 i b
    ·rw[e2] at q
     refine br_F ?_
     walk_at "wh"
     exact q
    ·rw[e2,zcy9] at q
     refine br_T ?_
     refine zb6 (v:=z) e rfl ?_
     refine zae5 hc ?_
     walk_at "wh"
     exact q
  ·rw[zbe5 (by walk_at "om")] at q
   walk_at "wh"
   exact q
 all_goals (walk_at "wh";refine zd6 (br_F ?_);walk_at "wh";refine br_T ?_;walk_at "wh";exact q)
theorem zbx0 {l m:Int}{d:PyData}(h:zar6 l m d=true):∃ i,d=.int i/\l<=i/\i<=m:=by
 cases d with
 | int i=>have:=of_decide_eq_true h;exact⟨i,rfl,this⟩
 | _=>simp[zar6] at h
theorem zba7 {H:Hp}{v:V}{d:PyData}(h:ShV H v d) (e:zab9 d=true):∃ (t:Addr) (i j w:Int),v=.ref t/\H t=some (.tup [.int i,.int j,.int w])/\d=.tuple [.int i,.int j,.int w]/\0<=j/\j<=i/\1<=w:=by
 cases h
 case tup t xs ds e1 l=>
  have l3:ds.length=3:=Classical.byContradiction fun z=>by rw[zbe5 z] at e;cases e
  obtain⟨x,y,z,a,b,c,rfl,rfl,ha,hb,hc⟩:=zax5 l (by rw[l.len];exact l3)
  have e:(zr0 0 a&&zar6 0 (intD a) b&&zr0 1 c)=true:=e
  rw[zcw5,zcw5] at e
  obtain⟨i,rfl,hi⟩:=zu5 e.1.1
  obtain⟨j,rfl,hj1,hj2⟩:=zbx0 e.1.2
  obtain⟨w,rfl,hw⟩:=zu5 e.2
  cases ha
  cases hb
  cases hc
  exact⟨t,i,j,w,rfl,e1,rfl,hj1,hj2,hw⟩
 all_goals simp[zab9] at e
def keyD:PyData->Int×Int
 | .tuple (a :: b :: _)=>(intD a,intD b)
 | _=>(0,0)
def incD (ds:List PyData):Bool:=(List.range (ds.length - 1)).all fun i=>ltP (keyD (ds.getD i .none)) (keyD (ds.getD (i+1) .none))
def rowD:PyData->Bool
 | .list ds=>ds.all zab9&&incD ds
 | _=>false
@[irreducible] def zs5:Sp:=fun vs H Q _=>∃ (v:V) (d:PyData),vs=[v]/\ShV H v d/\sml d=true/\∀ H',Same H H'->Q (.bl (rowD d)) H'
theorem zbr2 {H:Hp}{v:V}{d:PyData}{Q:VK}{E:XK}(h:ShV H v d) (hs:sml d=true) (q:∀ H',Same H H'->Q (.bl (rowD d)) H'):zs5 [v] H Q E:=by unfold zs5;exact⟨v,d,rfl,h,hs,q⟩
theorem zbv9 {f:Addr}{fd:FuncData}(F:Fun K "is_row" "is_row" zz8 f fd) (N:Nm mg) (zcs8:Def P w K mg base CX0 4 "is_flow" ["thing"] zr8):FnOk P w K mg base CX0 5 f fd ["row"] zs5:=by
 refine F.ok zbv7 (fun vs H Q E h=>by unfold zs5 at h;obtain⟨_,_,rfl,_⟩:=h;rfl) (fun cdv A outer s H vs Q E hr h=>?_)
 unfold zs5 at h
 obtain⟨v,d,rfl,h,hs,q⟩:=h
 have hu:=hu40 hr
 refine⟨_,(za4 (psIf (ptW (pwOr (zm0 (ptV (pB (zac5 (K:=K) rfl) N.isinstance_ za8 (za0 (pq 0) (za0 (pTy N.list_ zn7) za1))))) (zaa8 (zm0 (ptV (pB (zak7 (K:=K) rfl rfl) N.all_ zy8 (za0 (zj5 (N:=["thing"]) (ks:=[none]) (zj2 (K:=K) rfl (pq 0)) (fun cl C s3 H3 fp=>(za7 (i:=0) nb_5 rfl (by first|exact Or.inl rfl|exact Or.inr rfl))) (fun cl C s3 H3 fp=>ze2) (fun cl C s3 H3 fp=>(pD zcs8 hr zb5 (za0 (pq 0) za1))) (.skip .nil)) za1))))))) (za6 (zb0 zx8)) zc2)
   (za6 (zb0 (pB (zak7 (K:=K) rfl rfl) N.all_ zy8 (za0 (zj5 (N:=["one","other"]) (ks:=[none,none]) (zcf0 (K:=K) rfl N.zip_ (za0 (pq 0) (za0 (zj4 (slXK (K:=K) rfl) (pq 0) (zt0 za2) zn8) za1))) (fun cl C s3 H3 fp=>(zk3 (K:=K) (n:=2) rfl rfl (zb1 (za7 (i:=0) nb_6 rfl (by first|exact Or.inl rfl|exact Or.inr rfl)) (zb1 (za7 (i:=1) nb_6 rfl (by first|exact Or.inl rfl|exact Or.inr rfl)) zk1)))) (fun cl C s3 H3 fp=>ze2) (fun cl C s3 H3 fp=>(peC (oLtX (by exact hu)) (zj4 (slXK (K:=K) rfl) (pq 0) zn8 (zt0 za2)) (zj4 (slXK (K:=K) rfl) (pq 1) zn8 (zt0 za2)))) (.skip (.skip .nil))) za1))))),?_⟩
 refine zw7 h (.inr (.inr (.inl rfl))) ?_
 cases h
 case lst a xs ds e l=>
  have ll:=l.len
  obtain⟨dl,dm⟩:=zq8 hs
  refine zd6 (br_T ?_)
  refine zd0 e ?_
  refine zq1 (Wk.list (SqL.of e)) (by rw[sizeLine_eq];omega) (fun i=>.bl (zab9 (ds.getD i .none))) (fun _=>true) (fun j σ=>∃ t:Option V,σ=[t]) ⟨none,rfl⟩ ?_ ?_
  ·rintro j x σ H1 R S hj s1 hx ⟨t,rfl⟩ k _
   obtain⟨d,ed,hd⟩:=l.get j x hx
   refine br_T ?_
   refine zcb3 (hd.same s1) ?_
   walk_at "wh"
   rw[← getD_some ed]
   exact k rfl _ _ (Same.refl _) ⟨_,rfl⟩
  intro acc H1 f1 s1 h1
  rw[zg8,ll,zv8 zab9] at h1
  refine zx7 h1 ?_
  rw[zad1]
  cases ea:ds.all zab9
  ·walk_at "wh"
   refine zd6 (br_F ?_)
   walk_at "wh"
   have q:Q (.bl (ds.all zab9&&incD ds)) H1:=q _ s1
   rw[ea] at q
   exact q
  have ea':∀ d∈ds,zab9 d=true:=zcx1.mp ea
  refine zd6 (br_T ?_)
  have e1:=s1 _ _ e
  refine zbt4 (SqL.of e1) (fun p2 H2 f2 s2 h2=>?_)
  rw[zae0 (by walk_at "om")] at h2
  refine zce3 (SqL.of (s2 _ _ e1)) (SqL.of h2) ?_
  refine zq1 (Wk.zipN (n:=ds.length - 1) (SqL.of (s2 _ _ e1)) (SqL.of h2) (by walk_at "om") (by rw[zda6];show _<=_ - 1;omega) (.inr (by rw[zda6,ll];rfl))) (by rw[sizeLine_eq];omega) (fun i=>.bl (ltP (keyD (ds.getD i .none)) (keyD (ds.getD (i+1) .none)))) (fun _=>true) (fun j σ=>∃ t u:Option V,σ=[t,u]) ⟨none,none,rfl⟩ ?_ ?_
  ·rintro j v σ H3 R S hj s3 ⟨p,x,y,rfl,hp,hx,hy⟩ ⟨t,u,rfl⟩ k _
   rw[List.getElem?_drop,show (1:Int).toNat+j=j+1 by show 1+j=j+1;omega] at hy
   obtain⟨d,ed,hd⟩:=l.get j x hx
   obtain⟨d',ed',hd'⟩:=l.get (j+1) y hy
   have s03:=(s1.trans s2).trans s3
   obtain⟨t1,i1,j1,w1,rfl,ht1,rfl,_⟩:=zba7 (hd.same s03) (ea' d (zcv1 ed))
   obtain⟨t2,i2,j2,w2,rfl,ht2,rfl,_⟩:=zba7 (hd'.same s03) (ea' d' (zcv1 ed'))
   rw[getD_some ed,getD_some ed'] at k
   refine ze7 hp ?_
   refine br_T ?_
   refine zcd8 ht1 (fun p4 H4 f4 s4 h4=>?_)
   refine zcd8 (s4 _ _ ht2) (fun p5 H5 f5 s5 h5=>?_)
   refine ltP_rd (x:=(i1,j1)) (y:=(i2,j2)) (s5 _ _ h4) h5 ?_
   walk_at "wh"
   exact k rfl _ _ (s4.trans s5) ⟨_,_,rfl⟩
  intro acc2 H3 f3 s3 h3
  rw[zg8] at h3
  have h3:H3 acc2=some (.lst (((List.range (ds.length - 1)).map fun i=>ltP (keyD (ds.getD i .none)) (keyD (ds.getD (i+1) .none))).map V.bl)):=by rw[h3,zcy1];rfl
  refine zx7 h3 ?_
  have q:Q (.bl (ds.all zab9&&incD ds)) H3:=q _ ((s1.trans s2).trans s3)
  rw[ea,zcy9] at q
  rw[zdb3]
  exact q
 all_goals (walk_at "wh";refine zd6 (br_F ?_);walk_at "wh";refine br_T ?_;walk_at "wh";exact q _ (Same.refl _))
def valG {κ:Type}[DecidableEq κ] (kv:List (κ×Int)) (k:κ):Option Int:=(kv.find? fun z=>decide (z.1=k)).map (·.2)
def putG {κ:Type}[DecidableEq κ] (kv:List (κ×Int)) (k:κ) (n:Int):List (κ×Int):=if (kv.any fun z=>decide (z.1=k))=true then kv.map (fun z=>if z.1=k then (z.1,n) else z) else kv++[(k,n)]
def addG {κ:Type}[DecidableEq κ] (s:List (κ×Int)) (z:κ×Int):List (κ×Int):=putG s z.1 ((valG s z.1).getD 0+z.2)
def sumG {κ:Type}[DecidableEq κ] (zs:List (κ×Int)):List (κ×Int):=zs.foldl addG []
def dF {κ κ':Type}(f:κ->κ') (kv:List (κ×Int)):List (κ'×V):=kv.map fun z=>(f z.1,V.int z.2)
section
variable {κ κ':Type}[DecidableEq κ] [DecidableEq κ']
theorem zt3 {z:κ×Int}{kv:List (κ×Int)}{k:κ}(e:z.1=k):valG (z :: kv) k=some z.2:=by unfold valG;rw[zdb1,decide_eq_true e];rfl
theorem zt1 {z:κ×Int}{kv:List (κ×Int)}{k:κ}(e:¬ z.1=k):valG (z :: kv) k=valG kv k:=by unfold valG;rw[zdb1,decide_eq_false e]
theorem zai5 {f:κ->κ'}(hf:∀ a b,f a=f b->a=b) (k:κ):∀ kv:List (κ×Int),valV (dF f kv) (f k)=(valG kv k).map V.int
 | []=>rfl
 | z :: kv=>by
  show valV ((f z.1,V.int z.2) :: dF f kv) (f k)=_
  by_cases e:z.1=k
  ·rw[zac7 (p:=(f z.1,V.int z.2)) (congrArg f e),zt3 e];rfl
  ·rw[zad0 (p:=(f z.1,V.int z.2)) (fun q=>e (hf _ _ q)),zai5 hf k kv,zt1 e]
theorem zbt1 {f:κ->κ'}(hf:∀ a b,f a=f b->a=b) (kv:List (κ×Int)) (k:κ) (n:Int):putK (dF f kv) (f k) (.int n)=dF f (putG kv k n):=by
 unfold putK putG dF
 have e1:((kv.map fun z=>(f z.1,V.int z.2)).any fun kv=>decide (kv.1=f k))=kv.any fun z=>decide (z.1=k):=by
  rw[List.any_map]
  congr 1;funext z
  exact decide_eq_decide.mpr ⟨hf _ _,congrArg f⟩
 rw[e1]
 split
 ·rw[zcy1,zcy1]
  refine zcx5 fun z _=>?_
  show (if f z.1=f k then (f z.1,V.int n) else (f z.1,V.int z.2))=(f (if z.1=k then (z.1,n) else z).1,V.int (if z.1=k then (z.1,n) else z).2)
  by_cases e:z.1=k
  ·rw[if_pos (congrArg f e),if_pos e]
  ·rw[if_neg (fun q=>e (hf _ _ q)),if_neg e]
 ·rw[zcx8];rfl
theorem zbx9 (kv:List (κ×Int)) (k:κ) (n:Int):(putG kv k n).length<=kv.length+1:=by
 unfold putG
 split
 ·rw[zcu6];omega
 ·rw[zcv9];exact zcw9 _
theorem zaj4 (zs:List (κ×Int)) (z:κ×Int):sumG (zs++[z])=addG (sumG zs) z:=by unfold sumG;rw[List.foldl_append];rfl
theorem zat6 (zs:List (κ×Int)):(sumG zs).length<=zs.length:=by
 have:∀ (zs s:List (κ×Int)),(zs.foldl addG s).length<=s.length+zs.length:=fun zs=>by
  induction zs with
  | nil=>exact fun s=>zcw9 _
  | cons z zs ih=>
   intro s
   have h1:=ih (addG s z)
   have h2:(addG s z).length<=s.length+1:=zbx9 _ _ _
   rw[List.foldl_cons,zcx0]
   omega
 have:=this zs []
 unfold sumG
 simpa using this
theorem zau7 {zs:List (κ×Int)}{i:Nat}{z:κ×Int}(h:zs[i]?=some z):sumG (zs.take (i+1))=addG (sumG (zs.take i)) z:=by
 rw[List.take_succ,h];exact zaj4 _ _
end
theorem zar4 (a b:Int) (h:(Sum.inl a:Key)=Sum.inl b):a=b:=Sum.inl.inj h
theorem zba9 (a b:Int×Int) (h:pK a=pK b):a=b:=by
 unfold pK at h
 simp only[List.cons.injEq,Sum.inl.injEq,and_true] at h
 exact Prod.ext h.1 h.2
@[irreducible] def zm6:Sp:=fun vs H Q _=>
 (∃ (p:Addr) (ts:List Addr) (zs:List (Int×Int)),vs=[.ref p]/\H p=some (.lst (ts.map V.ref))/\ts.length=zs.length/\zs.length<=2000/\(∀ (i:Nat) t z,ts[i]?=some t->zs[i]?=some z->H t=some (.tup [.int z.1,.int z.2]))/\∀ r H',H r=none->Same H H'->H' r=some (.dK (dF Sum.inl (sumG zs)))->Q (.ref r) H') ∨
 ∃ (p:Addr) (ts:List (Addr×Addr)) (zs:List ((Int×Int)×Int)),vs=[.ref p]/\H p=some (.lst (ts.map fun t=>V.ref t.1))/\ts.length=zs.length/\zs.length<=2000/\(∀ (i:Nat) t z,ts[i]?=some t->zs[i]?=some z->H t.1=some (.tup [.ref t.2,.int z.2])/\H t.2=some (.tup (pV z.1)))/\∀ r H',H r=none->Same H H'->H' r=some (.dT (dF pK (sumG zs)))->Q (.ref r) H'
theorem zae9 {H:Hp}{p:Addr}{ts:List Addr}{zs:List (Int×Int)}{Q:VK}{E:XK}(hp:H p=some (.lst (ts.map V.ref))) (hl:ts.length=zs.length) (hz:zs.length<=2000) (ht:∀ (i:Nat) t z,ts[i]?=some t->zs[i]?=some z->H t=some (.tup [.int z.1,.int z.2])) (q:∀ r H',H r=none->Same H H'->H' r=some (.dK (dF Sum.inl (sumG zs)))->Q (.ref r) H'):zm6 [.ref p] H Q E:=by
 unfold zm6;exact .inl ⟨p,ts,zs,rfl,hp,hl,hz,ht,q⟩
theorem zbj1 {H:Hp}{p:Addr}{ts:List (Addr×Addr)}{zs:List ((Int×Int)×Int)}{Q:VK}{E:XK}(hp:H p=some (.lst (ts.map fun t=>V.ref t.1))) (hl:ts.length=zs.length) (hz:zs.length<=2000) (ht:∀ (i:Nat) t z,ts[i]?=some t->zs[i]?=some z->H t.1=some (.tup [.ref t.2,.int z.2])/\H t.2=some (.tup (pV z.1))) (q:∀ r H',H r=none->Same H H'->H' r=some (.dT (dF pK (sumG zs)))->Q (.ref r) H'):zm6 [.ref p] H Q E:=by
 unfold zm6;exact .inr ⟨p,ts,zs,rfl,hp,hl,hz,ht,q⟩
theorem zbu7 {f:Addr}{fd:FuncData}(F:Fun K "summed" "summed" zz4 f fd) (N:Nm mg):FnOk P w K mg base CX0 1 f fd ["pairs"] zm6:=by
 refine F.ok zad5 (fun vs H Q E h=>by unfold zm6 at h;rcases h with ⟨_,_,_,rfl,_⟩|⟨_,_,_,rfl,_⟩<;>rfl) (fun cdv A outer s H vs Q E hr h=>?_)
 unfold zm6 at h
 have hu:=hu40 hr
 refine⟨_,(za4 (psS (i:=1) zad5.nd zci1)
   (za4 (zac3 PassesOwn.never rfl (zj2 (K:=K) rfl (pq 0)) (zk3 (K:=K) (n:=2) rfl rfl (zb1 (za7 (i:=2) zad5.nd rfl (by first|exact Or.inl rfl|exact Or.inr rfl)) (zb1 (za7 (i:=3) zad5.nd rfl (by first|exact Or.inl rfl|exact Or.inr rfl)) zk1))) (za6 (psDPut (by exact hu) (pq 1) (pq 2) (zb4 oAdd (zbh2 (by exact hu) (pq 1) (pq 2) za2) (pq 3)))))
   (za6 (zb0 (pq 1))))),?_⟩
 rcases h with ⟨p,ts,zs,rfl,hp,hl,hz,ht,q⟩|⟨p,ts,zs,rfl,hp,hl,hz,ht,q⟩
 ·walk_at "wh"
  refine dnK_rd (fun r H1 f1 s1 h1=>?_)
  have npr:p≠r:=za5 hp f1
  refine zd0 (s1 _ _ hp) ?_
  refine zp7 (xs:=ts.map V.ref) (fun i σ I=>∃ t u:Option V,σ=[some (.ref p),some (.ref r),t,u]/\Chg r H1 I/\I r=some (.dK (dF Sum.inl (sumG (zs.take i))))) ?_ ?_ ?_ ?_
  ·exact⟨_,_,rfl,Chg.refl _ _,h1⟩
  ·rintro i σ I _ ⟨_,_,_,c,_⟩
   exact SqL.of (c _ _ npr (s1 _ _ hp))
  ·rintro i v σ I hi ⟨t',u',rfl,c,hr'⟩
   rw[zcu9] at hi
   obtain⟨t,et,rfl⟩:=zcv4.mp hi
   obtain⟨z,ez⟩:∃ z,zs[i]?=some z:=⟨_,zcu7 (by have:=(zcv3.mp et).1;omega)⟩
   have e0:=ht i t z et ez
   have e1:=c _ _ (za5 e0 f1) (s1 _ _ e0)
   refine ze7 e1 ?_
   refine zbw2 hr' ?_
   refine zbp6 hr' ?_
   have ev:(valV (dF Sum.inl (sumG (zs.take i))) (Sum.inl z.1:Key)).getD (V.int 0)=.int ((valG (sumG (zs.take i)) z.1).getD 0):=by
    rw[zai5 zar4]
    cases valG (sumG (zs.take i)) z.1<;>rfl
   rw[ev]
   refine dpK_rd hr' (by unfold dF;rw[zcu6,sizeLine_eq];have:=zat6 (zs.take i);rw[zdb6] at this;omega) (fun I2 c2 h2=>?_)
   rw[zbt1 zar4] at h2
   walk_at "wh"
   exact⟨_,_,rfl,c.trans c2,by rw[zau7 ez];exact h2⟩
  ·rintro σ I ⟨t',u',rfl,c,hr'⟩
   rw[zcu6,hl,List.take_length] at hr'
   walk_at "wh"
   exact q r I f1 (s1.chg f1 c) hr'
 ·walk_at "wh"
  refine dnT_rd (fun r H1 f1 s1 h1=>?_)
  have npr:p≠r:=za5 hp f1
  refine zd0 (s1 _ _ hp) ?_
  refine zp7 (xs:=ts.map fun t=>V.ref t.1) (fun i σ I=>∃ t u:Option V,σ=[some (.ref p),some (.ref r),t,u]/\Chg r H1 I/\I r=some (.dT (dF pK (sumG (zs.take i))))) ?_ ?_ ?_ ?_
  ·exact⟨_,_,rfl,Chg.refl _ _,h1⟩
  ·rintro i σ I _ ⟨_,_,_,c,_⟩
   exact SqL.of (c _ _ npr (s1 _ _ hp))
  ·rintro i v σ I hi ⟨t',u',rfl,c,hr'⟩
   rw[zcu9] at hi
   obtain⟨t,et,rfl⟩:=zcv4.mp hi
   obtain⟨z,ez⟩:∃ z,zs[i]?=some z:=⟨_,zcu7 (by have:=(zcv3.mp et).1;omega)⟩
   obtain⟨e0,e0'⟩:=ht i t z et ez
   have e1:=c _ _ (za5 e0 f1) (s1 _ _ e0)
   have e2:=c _ _ (za5 e0' f1) (s1 _ _ e0')
   refine ze7 e1 ?_
   refine zch7 hr' ?_
   refine zcl3 hr' (k:=pK z.1) e2 ?_
   have ev:(valV (dF pK (sumG (zs.take i))) (pK z.1)).getD (V.int 0)=.int ((valG (sumG (zs.take i)) z.1).getD 0):=by
    rw[zai5 zba9]
    cases valG (sumG (zs.take i)) z.1<;>rfl
   rw[ev]
   refine dpT_rd hr' (k:=pK z.1) e2 (by unfold dF;rw[zcu6,sizeLine_eq];have:=zat6 (zs.take i);rw[zdb6] at this;omega) (fun I2 c2 h2=>?_)
   rw[zbt1 zba9] at h2
   walk_at "wh"
   exact⟨_,_,rfl,c.trans c2,by rw[zau7 ez];exact h2⟩
  ·rintro σ I ⟨t',u',rfl,c,hr'⟩
   rw[zcu6,hl,List.take_length] at hr'
   walk_at "wh"
   exact q r I f1 (s1.chg f1 c) hr'
def triD:PyData->Int×Int×Int
 | .tuple [a,b,c]=>(intD a,intD b,intD c)
 | _=>(0,0,0)
def rowF (d:PyData):List (Int×Int×Int):=(zc6 d).map triD
def zq0:PyData->Bool
 | .list ds=>decide (0<ds.length)&&rowD (ds.getD 0 .none)&&decide (0<(zc6 (ds.getD 0 .none)).length)
 | _=>false
theorem zan3 {H:Hp}{v:V}{d:PyData}(h:ShV H v d) (e:rowD d=true):∃ (a:Addr) (ts:List Addr) (ds:List PyData),v=.ref a/\d=.list ds/\H a=some (.lst (ts.map V.ref))/\ts.length=ds.length/\(∀ (i:Nat) t x,ts[i]?=some t->(rowF d)[i]?=some x->H t=some (.tup [.int x.1,.int x.2.1,.int x.2.2]))/\∀ x∈rowF d,0<=x.2.1/\x.2.1<=x.1/\1<=x.2.2:=by
 cases h
 case lst a xs ds e1 l=>
  have e:(ds.all zab9&&incD ds)=true:=e
  have ea:=zcx1.mp (Bool.and_eq_true_iff.mp e).1
  have key:∀ {xs:List V}{ds:List PyData},ShL H xs ds->(∀ d∈ds,zab9 d=true)->∃ ts:List Addr,xs=ts.map V.ref/\(∀ (i:Nat) t x,ts[i]?=some t->(ds.map triD)[i]?=some x->H t=some (.tup [.int x.1,.int x.2.1,.int x.2.2]))/\∀ x∈ds.map triD,0<=x.2.1/\x.2.1<=x.1/\1<=x.2.2:=fun {xs ds} l ea=>by
   induction ds generalizing xs with
   | nil=>cases l;exact⟨[],rfl,fun i t x h=>by simp at h,fun x h=>by cases h⟩
   | cons d ds ih=>
    cases l with
    | cons h1 l=>
     obtain⟨ts,rfl,k1,k2⟩:=ih l fun d hd=>ea d (.tail _ hd)
     obtain⟨t,i,j,w,rfl,ht,rfl,hj1,hj2,hw⟩:=zba7 h1 (ea _ (.head _))
     refine⟨t :: ts,rfl,fun n t' x g1 g2=>?_,fun x hx=>?_⟩
     ·match n with
      | 0=>cases g1;cases g2;exact ht
      | n+1=>exact k1 n t' x g1 g2
     ·rcases zcw3.mp hx with rfl|hx
      ·exact⟨hj1,hj2,hw⟩
      ·exact k2 x hx
  obtain⟨ts,rfl,k1,k2⟩:=key l ea
  exact⟨a,ts,ds,rfl,rfl,e1,by have:=l.len;rwa [zcu6] at this,k1,k2⟩
 all_goals simp[rowD] at e
theorem zl8 (ds:List PyData):(rowF (.list ds)).length=ds.length:=by unfold rowF;rw[zcu6];rfl
@[irreducible] def zs3:Sp:=fun vs H Q _=>∃ (v:V) (d:PyData),vs=[v]/\ShV H v d/\sml d=true/\∀ H',Same H H'->Q (.bl (zq0 d)) H'
theorem zap4 {H:Hp}{v:V}{d:PyData}{Q:VK}{E:XK}(h:ShV H v d) (hs:sml d=true) (q:∀ H',Same H H'->Q (.bl (zq0 d)) H'):zs3 [v] H Q E:=by unfold zs3;exact⟨v,d,rfl,h,hs,q⟩
theorem zbp8 {f:Addr}{fd:FuncData}(F:Fun K "begins" "begins" zz6 f fd) (N:Nm mg) (zcr4:Def P w K mg base CX0 5 "is_row" ["row"] zs5):FnOk P w K mg base CX0 6 f fd ["stream"] zs3:=by
 refine F.ok zbn9 (fun vs H Q E h=>by unfold zs3 at h;obtain⟨_,_,rfl,_⟩:=h;rfl) (fun cdv A outer s H vs Q E hr h=>?_)
 unfold zs3 at h
 obtain⟨v,d,rfl,h,hs,q⟩:=h
 have hu:=hu40 hr
 refine⟨_,(za6 (zb0 (zs8 (pB (zac5 (K:=K) rfl) N.isinstance_ za8 (za0 (pq 0) (za0 (pTy N.list_ zn7) za1))) (zs8 (peC oGt (pB (zq4 (K:=K) rfl) N.len_ zj3 (za0 (pq 0) za1)) za2) (zs8 (pD zcr4 hr zb5 (za0 (zb8 (K:=K) rfl (pq 0) za2) za1)) (zs2 (peC oGt (pB (zq4 (K:=K) rfl) N.len_ zj3 (za0 (zb8 (K:=K) rfl (pq 0) za2) za1)) za2))))))),?_⟩
 refine zw7 h (.inr (.inr (.inl rfl))) ?_
 cases h
 case lst a xs ds e l=>
  have ll:=l.len
  obtain⟨dl,dm⟩:=zq8 hs
  have q:∀ H',Same H H'->Q (.bl (decide (0<ds.length)&&rowD (ds.getD 0 .none)&&decide (0<(zc6 (ds.getD 0 .none)).length))) H':=q
  refine br_T ?_
  refine zh4 e ?_
  rw[ll]
  refine ze9 (fun h0=>?_) (fun h0=>?_)
  ·rw[decide_eq_true (show 0<ds.length by walk_at "om"),zcy9] at q
   obtain⟨x0,ex0⟩:∃ x,xs[0]?=some x:=⟨_,zcu7 (by walk_at "om")⟩
   obtain⟨d0,ed0,hd0⟩:=l.get 0 x0 ex0
   rw[getD_some ed0] at q
   have at0:atI xs 0=some x0:=zl6 (j:=0) ex0
   refine zg6 (v:=x0) e at0 ?_
   refine zbr2 hd0 (dm d0 (zcv1 ed0)) (fun H1 s1=>?_)
   cases er:rowD d0
   ·have q:=q _ s1
    rw[er] at q
    refine br_F ?_
    walk_at "wh"
    exact q
   ·have q:=q _ s1
    rw[er,zcy9] at q
    obtain⟨b,ts,es,rfl,rfl,hb,hl,_⟩:=zan3 hd0 er
    refine br_T ?_
    refine zg6 (v:=.ref b) (s1 _ _ e) at0 ?_
    refine zh4 (s1 _ _ hb) ?_
    rw[zcu6,hl]
    walk_at "wh"
    have ed:decide ((es.length:Int)>0)=decide (0<(zc6 (.list es)).length):=decide_eq_decide.mpr (by show (es.length:Int)>0↔0<es.length;omega)
    first|(rw[← ed] at q;exact q)|exact q
  ·have q:=q _ (Same.refl _)
   rw[decide_eq_false (show ¬ 0<ds.length by walk_at "om")] at q
   walk_at "wh"
   exact q
 all_goals (walk_at "wh";refine br_F ?_;walk_at "wh";exact q _ (Same.refl _))
def zal2 (a b:PyData):Bool:=eqDI (sumG ((rowF a).map fun z=>(z.1 - z.2.1,z.2.2))) (sumG ((rowF b).map fun z=>(z.1,z.2.2)))
@[irreducible] def zw5:Sp:=fun vs H Q _=>∃ (v u:V) (d e:PyData),vs=[v,u]/\ShV H v d/\ShV H u e/\rowD d=true/\rowD e=true/\(zc6 d).length<=1000/\(zc6 e).length<=1000/\∀ H',Same H H'->Q (.bl (zal2 d e)) H'
theorem zbr1 {H:Hp}{v u:V}{d e:PyData}{Q:VK}{E:XK}(hv:ShV H v d) (hu:ShV H u e) (rd:rowD d=true) (re:rowD e=true) (ld:(zc6 d).length<=1000) (le:(zc6 e).length<=1000) (q:∀ H',Same H H'->Q (.bl (zal2 d e)) H'):zw5 [v,u] H Q E:=by unfold zw5;exact⟨v,u,d,e,rfl,hv,hu,rd,re,ld,le,q⟩
theorem zby3 {f:Addr}{fd:FuncData}(F:Fun K "meets" "meets" zae4 f fd) (N:Nm mg) (zco9:Def P w K mg base CX0 1 "summed" ["pairs"] zm6):FnOk P w K mg base CX0 2 f fd ["ahead","row"] zw5:=by
 refine F.ok zbh9 (fun vs H Q E h=>by unfold zw5 at h;obtain⟨_,_,_,_,rfl,_⟩:=h;rfl) (fun cdv A outer s H vs Q E hr h=>?_)
 unfold zw5 at h
 obtain⟨v,u,d,e,rfl,hv,hu',rd,re,ld,le,q⟩:=h
 have hu:=hu40 hr
 obtain⟨a,ts,ds,rfl,rfl,ha,hl,hp,_⟩:=zan3 hv rd
 obtain⟨b,us,es,rfl,rfl,hb,hl',hp',_⟩:=zan3 hu' re
 have ld:ds.length<=1000:=ld
 have le:es.length<=1000:=le
 refine⟨_,(za4 (psS (i:=2) zbh9.nd (pD zco9 hr zb5 (za0 (zj5 (N:=["left","sent","flow"]) (ks:=[none,none,none]) (zj2 (K:=K) rfl (pq 0)) (fun cl C s3 H3 fp=>(zk3 (K:=K) (n:=3) rfl rfl (zb1 (za7 (i:=0) nb_7 rfl (by first|exact Or.inl rfl|exact Or.inr rfl)) (zb1 (za7 (i:=1) nb_7 rfl (by first|exact Or.inl rfl|exact Or.inr rfl)) (zb1 (za7 (i:=2) nb_7 rfl (by first|exact Or.inl rfl|exact Or.inr rfl)) zk1))))) (fun cl C s3 H3 fp=>ze2) (fun cl C s3 H3 fp=>(zh2 (za0 (zb4 oSub (pq 0) (pq 1)) (za0 (pq 2) za1)))) (.skip (.skip (.skip .nil)))) za1)))
   (za6 (zb0 (peC (zbb2 (K:=K) rfl (by exact hu)) (pq 2) (pD zco9 hr zb5 (za0 (zj5 (N:=["left","sent","flow"]) (ks:=[none,none,none]) (zj2 (K:=K) rfl (pq 1)) (fun cl C s3 H3 fp=>(zk3 (K:=K) (n:=3) rfl rfl (zb1 (za7 (i:=0) nb_7 rfl (by first|exact Or.inl rfl|exact Or.inr rfl)) (zb1 (za7 (i:=1) nb_7 rfl (by first|exact Or.inl rfl|exact Or.inr rfl)) (zb1 (za7 (i:=2) nb_7 rfl (by first|exact Or.inl rfl|exact Or.inr rfl)) zk1))))) (fun cl C s3 H3 fp=>ze2) (fun cl C s3 H3 fp=>(zh2 (za0 (pq 0) (za0 (pq 2) za1)))) (.skip (.skip (.skip .nil)))) za1)))))),?_⟩
 refine zd0 ha ?_
 refine zam8 (Wk.list (SqL.of ha)) (by rw[zcu6,sizeLine_eq];omega) (fun i=>.tup [.int (((rowF (.list ds)).getD i (0,0,0)).1 - ((rowF (.list ds)).getD i (0,0,0)).2.1),.int ((rowF (.list ds)).getD i (0,0,0)).2.2]) (fun j σ=>∃ t u w:Option V,σ=[t,u,w]) ⟨none,none,none,rfl⟩ ?_ ?_
 ·rintro i x σ I R S hi s1 hx ⟨_,_,_,rfl⟩ k
  rw[zcu6] at hi
  rw[zcu9] at hx
  obtain⟨t,et,rfl⟩:=zcv4.mp hx
  obtain⟨z,ez⟩:∃ z,(rowF (.list ds))[i]?=some z:=⟨_,zcu7 (by rw[zl8];omega)⟩
  rw[show (rowF (.list ds)).getD i (0,0,0)=z by rw[zcv2,ez];rfl] at k
  refine ze7 (s1 _ _ (hp i t z et ez)) ?_
  refine br_T ?_
  refine zb7 (fun p I1 f1 r1 k1=>?_)
  walk_at "wh"
  exact k _ _ _ f1 r1 k1 ⟨_,_,_,rfl⟩
 rintro l1 ps1 H1 F1
 rw[zcu6] at F1
 refine zae9 (zs:=(rowF (.list ds)).map fun z=>(z.1 - z.2.1,z.2.2)) F1.out (by rw[F1.len,zcu6,zl8];exact hl) (by rw[zcu6,zl8];omega) (fun i t z g1 g2=>?_) (fun r2 H2 f2 s2 h2=>?_)
 ·rw[zcu9] at g2
  obtain⟨y,ey,rfl⟩:=zcv4.mp g2
  have:=(F1.row i t g1).2
  rw[show (rowF (.list ds)).getD i (0,0,0)=y by rw[zcv2,ey];rfl] at this
  exact this
 have hb2:=s2 _ _ (F1.same _ _ hb)
 refine zd0 hb2 ?_
 refine zam8 (Wk.list (SqL.of hb2)) (by rw[zcu6,sizeLine_eq];omega) (fun i=>.tup [.int ((rowF (.list es)).getD i (0,0,0)).1,.int ((rowF (.list es)).getD i (0,0,0)).2.2]) (fun j σ=>∃ t u w:Option V,σ=[t,u,w]) ⟨none,none,none,rfl⟩ ?_ ?_
 ·rintro i x σ I R S hi s1 hx ⟨_,_,_,rfl⟩ k
  rw[zcu6] at hi
  rw[zcu9] at hx
  obtain⟨t,et,rfl⟩:=zcv4.mp hx
  obtain⟨z,ez⟩:∃ z,(rowF (.list es))[i]?=some z:=⟨_,zcu7 (by rw[zl8];omega)⟩
  rw[show (rowF (.list es)).getD i (0,0,0)=z by rw[zcv2,ez];rfl] at k
  refine ze7 (s1 _ _ (s2 _ _ (F1.same _ _ (hp' i t z et ez)))) ?_
  refine br_T ?_
  refine zb7 (fun p I1 f1 r1 k1=>?_)
  walk_at "wh"
  exact k _ _ _ f1 r1 k1 ⟨_,_,_,rfl⟩
 rintro l3 ps3 H3 F3
 rw[zcu6] at F3
 refine zae9 (zs:=(rowF (.list es)).map fun z=>(z.1,z.2.2)) F3.out (by rw[F3.len,zcu6,zl8];exact hl') (by rw[zcu6,zl8];omega) (fun i t z g1 g2=>?_) (fun r4 H4 f4 s4 h4=>?_)
 ·rw[zcu9] at g2
  obtain⟨y,ey,rfl⟩:=zcv4.mp g2
  have:=(F3.row i t g1).2
  rw[show (rowF (.list es)).getD i (0,0,0)=y by rw[zcv2,ey];rfl] at this
  exact this
 refine eqD_rd (s4 _ _ (F3.same _ _ h2)) h4 ?_
 walk_at "wh"
 exact q _ (((F1.same.trans s2).trans F3.same).trans s4)
def zbu3 (h:Int) (d:PyData):Bool:=(rowF d).all fun z=>decide (z.1=h)
def goneD (d:PyData):Bool:=(rowF d).all fun z=>decide (z.1=z.2.1)
def zal5 (ds:List PyData):Bool:=(List.range (ds.length - 1)).all fun i=>zal2 (ds.getD i .none) (ds.getD (i+1) .none)
def zw6 (h f:Int) (d:PyData):Bool:=zq0 d&&(decide (((zc6 d).length:Int)=f)&&((zc6 d).all rowD&&(zbu3 h ((zc6 d).getD 0 .none)&&(goneD ((zc6 d).getD ((zc6 d).length - 1) .none)&&zal5 (zc6 d)))))
theorem zbf0 {α:Type}(g:α->Bool) (xs:List α):(xs.map g).all id=xs.all g:=by rw[zdb3];rfl
theorem zaw3 {xs:List (Int×Int×Int)}(g:Int×Int×Int->Bool):(List.range xs.length).map (fun i=>V.bl (g (xs.getD i (0,0,0))))=(xs.map g).map V.bl:=by
 apply zda7
 intro i
 rw[zcu9,zcu9,zcu9]
 by_cases h:i<xs.length
 ·rw[zcz9 h,zcu7 h]
  simp[h]
 ·rw[zcx4 (by simp;omega),zcx4 (by walk_at "om")]
  rfl
@[irreducible] def zm2:Sp:=fun vs H Q _=>∃ (h f:Int) (v:V) (d:PyData),vs=[.int h,.int f,v]/\ShV H v d/\sml d=true/\∀ H',Same H H'->Q (.bl (zw6 h f d)) H'
theorem zbi9 {H:Hp}{h f:Int}{v:V}{d:PyData}{Q:VK}{E:XK}(hv:ShV H v d) (hs:sml d=true) (q:∀ H',Same H H'->Q (.bl (zw6 h f d)) H'):zm2 [.int h,.int f,v] H Q E:=by unfold zm2;exact⟨h,f,v,d,rfl,hv,hs,q⟩
set_option maxHeartbeats 0 in
theorem zav2 {f:Addr}{fd:FuncData}(F:Fun K "is_stream" "is_stream" zq7 f fd) (N:Nm mg) (zcr5:Def P w K mg base CX0 6 "begins" ["stream"] zs3) (zcr4:Def P w K mg base CX0 5 "is_row" ["row"] zs5) (zct1:Def P w K mg base CX0 2 "meets" ["ahead","row"] zw5):FnOk P w K mg base CX0 7 f fd ["hosts","fields","stream"] zm2:=by
 refine F.ok zy7 (fun vs H Q E h=>by unfold zm2 at h;obtain⟨_,_,_,_,rfl,_⟩:=h;rfl) (fun cdv A outer s H vs Q E hr h=>?_)
 unfold zm2 at h
 obtain⟨h,f,v,d,rfl,hv,hs,q⟩:=h
 have hu:=hu40 hr
 refine⟨_,(za4 (psIf (ptW (pwOr (zm0 (ptV (pD zcr5 hr zb5 (za0 (pq 2) za1)))) (pwOr (ptC (oNeXK (K:=K) rfl (by exact hu)) (pB (zq4 (K:=K) rfl) N.len_ zj3 (za0 (pq 2) za1)) (pq 1)) (zaa8 (zm0 (ptV (pB (zak7 (K:=K) rfl rfl) N.all_ zy8 (za0 (zj5 (N:=["row"]) (ks:=[none]) (zj2 (K:=K) rfl (pq 2)) (fun cl C s3 H3 fp=>(za7 (i:=0) nb_8 rfl (by first|exact Or.inl rfl|exact Or.inr rfl))) (fun cl C s3 H3 fp=>ze2) (fun cl C s3 H3 fp=>(pD zcr4 hr zb5 (za0 (pq 0) za1))) (.skip .nil)) za1)))))))) (za6 (zb0 zx8)) zc2)
   (za4 (psS (i:=3) zy7.nd (pB (zak7 (K:=K) rfl rfl) N.all_ zy8 (za0 (zj5 (N:=["left","sent","flow","hosts"]) (ks:=[none,none,none,some 0]) (zj2 (K:=K) rfl (zb8 (K:=K) rfl (pq 2) za2)) (fun cl C s3 H3 fp=>(zk3 (K:=K) (n:=3) rfl rfl (zb1 (za7 (i:=0) nb_9 rfl (by first|exact Or.inl rfl|exact Or.inr rfl)) (zb1 (za7 (i:=1) nb_9 rfl (by first|exact Or.inl rfl|exact Or.inr rfl)) (zb1 (za7 (i:=2) nb_9 rfl (by first|exact Or.inl rfl|exact Or.inr rfl)) zk1))))) (fun cl C s3 H3 fp=>ze2) (fun cl C s3 H3 fp=>(peC (zbb2 (K:=K) rfl (by exact hu)) (pq 0) (pq 3))) (.skip (.skip (.skip (.take rfl rfl (by first|exact Or.inl rfl|exact Or.inr rfl) .nil))))) za1)))
   (za4 (psS (i:=4) zy7.nd (pB (zak7 (K:=K) rfl rfl) N.all_ zy8 (za0 (zj5 (N:=["left","sent","flow"]) (ks:=[none,none,none]) (zj2 (K:=K) rfl (zb8 (K:=K) rfl (pq 2) (zaa3 uNeg za2))) (fun cl C s3 H3 fp=>(zk3 (K:=K) (n:=3) rfl rfl (zb1 (za7 (i:=0) nb_10 rfl (by first|exact Or.inl rfl|exact Or.inr rfl)) (zb1 (za7 (i:=1) nb_10 rfl (by first|exact Or.inl rfl|exact Or.inr rfl)) (zb1 (za7 (i:=2) nb_10 rfl (by first|exact Or.inl rfl|exact Or.inr rfl)) zk1))))) (fun cl C s3 H3 fp=>ze2) (fun cl C s3 H3 fp=>(peC (zbb2 (K:=K) rfl (by exact hu)) (pq 0) (pq 1))) (.skip (.skip (.skip .nil)))) za1)))
   (za6 (zb0 (zs8 (pq 3) (zs8 (pq 4) (zs2 (pB (zak7 (K:=K) rfl rfl) N.all_ zy8 (za0 (zj5 (N:=["ahead","row"]) (ks:=[none,none]) (zcf0 (K:=K) rfl N.zip_ (za0 (pq 2) (za0 (zj4 (slXK (K:=K) rfl) (pq 2) (zt0 za2) zn8) za1))) (fun cl C s3 H3 fp=>(zk3 (K:=K) (n:=2) rfl rfl (zb1 (za7 (i:=0) nb_11 rfl (by first|exact Or.inl rfl|exact Or.inr rfl)) (zb1 (za7 (i:=1) nb_11 rfl (by first|exact Or.inl rfl|exact Or.inr rfl)) zk1)))) (fun cl C s3 H3 fp=>ze2) (fun cl C s3 H3 fp=>(pD zct1 hr zb5 (za0 (pq 0) (za0 (pq 1) za1)))) (.skip (.skip .nil))) za1)))))))))),?_⟩
 refine zap4 hv hs (fun H1 s1=>?_)
 unfold zw6 at q
 cases eb:zq0 d
 ·have q:=q _ s1
  rw[eb] at q
  refine zd6 (br_F ?_)
  refine br_T ?_
  walk_at "wh"
  exact q
 cases hv
 case lst a xs ds e l=>
  have q:∀ H',Same H H'->Q (.bl (true&&(decide ((ds.length:Int)=f)&&(ds.all rowD&&(zbu3 h (ds.getD 0 .none)&&(goneD (ds.getD (ds.length - 1) .none)&&zal5 ds)))))) H':=fun H' s'=>by
   have q:=q H' s'
   rw[eb] at q
   exact q
  have ll:=l.len
  obtain⟨dl,dm⟩:=zq8 hs
  have d0:0<ds.length:=by
   have eb:(decide (0<ds.length)&&rowD (ds.getD 0 .none)&&decide (0<(zc6 (ds.getD 0 .none)).length))=true:=eb
   rw[zcw5,zcw5] at eb
   exact of_decide_eq_true eb.1.1
  have e1:=s1 _ _ e
  refine zd6 (br_T ?_)
  refine zh4 e1 ?_
  rw[ll]
  refine zd6 (ze9 (fun hf=>?_) (fun hf=>?_))
  ·rw[decide_eq_true hf,zcy9,zcy9] at q
   refine zd0 e1 ?_
   refine zq1 (Wk.list (SqL.of e1)) (by rw[sizeLine_eq];omega) (fun i=>.bl (rowD (ds.getD i .none))) (fun _=>true) (fun j σ=>∃ t:Option V,σ=[t]) ⟨none,rfl⟩ ?_ ?_
   ·rintro j x σ H2 R S hj s2 hx ⟨t,rfl⟩ k _
    obtain⟨d,ed,hd⟩:=l.get j x hx
    refine br_T ?_
    refine zbr2 (hd.same (s1.trans s2)) (dm d (zcv1 ed)) (fun H3 s3=>?_)
    walk_at "wh"
    rw[← getD_some ed]
    exact k rfl _ _ s3 ⟨_,rfl⟩
   intro acc H2 f2 s2 h2
   rw[zg8,ll,zv8 rowD] at h2
   have s02:=s1.trans s2
   refine zx7 h2 ?_
   rw[zad1]
   cases ea:ds.all rowD
   ·have q:=q _ s02
    rw[ea] at q
    refine zd6 (br_F ?_)
    walk_at "wh"
    exact q
   have ea':∀ d∈ds,rowD d=true:=zcx1.mp ea
   rw[ea,zcy9] at q
   refine zd6 (br_T ?_)
   obtain⟨x0,ex0⟩:∃ x,xs[0]?=some x:=⟨_,zcu7 (by walk_at "om")⟩
   obtain⟨d0',ed0,hd0⟩:=l.get 0 x0 ex0
   have m0:=dm d0' (zcv1 ed0)
   obtain⟨r0,ts0,es0,rfl,rfl,hr0,hl0,hp0,_⟩:=zan3 hd0 (ea' d0' (zcv1 ed0))
   have b0:=(zq8 m0).1
   rw[getD_some ed0] at q
   have e2:=s2 _ _ e1
   refine zg6 (v:=.ref r0) e2 (zl6 (j:=0) ex0) ?_
   refine zd0 (s02 _ _ hr0) ?_
   refine zq1 (Wk.list (SqL.of (s02 _ _ hr0))) (by rw[zcu6,sizeLine_eq];omega) (fun i=>.bl (decide (((rowF (.list es0)).getD i (0,0,0)).1=h))) (fun _=>true) (fun j σ=>∃ t u w:Option V,σ=[t,u,w,some (.int h)]) ⟨none,none,none,rfl⟩ ?_ ?_
   ·rintro i x σ I R S hi s3 hx ⟨_,_,_,rfl⟩ k _
    rw[zcu6] at hi
    rw[zcu9] at hx
    obtain⟨t,et,rfl⟩:=zcv4.mp hx
    obtain⟨z,ez⟩:∃ z,(rowF (.list es0))[i]?=some z:=⟨_,zcu7 (by rw[zl8];omega)⟩
    rw[show (rowF (.list es0)).getD i (0,0,0)=z by rw[zcv2,ez];rfl] at k
    refine ze7 (s3 _ _ (s02 _ _ (hp0 i t z et ez))) ?_
    refine br_T ?_
    walk_at "wh"
    exact k rfl _ _ (Same.refl _) ⟨_,_,_,rfl⟩
   intro acc3 H3 f3 s3 h3
   rw[zg8,zcu6,hl0,← zl8 es0,zaw3 fun z=>decide (z.1=h)] at h3
   refine zx7 h3 ?_
   rw[zbf0]
   obtain⟨x1,ex1⟩:∃ x,xs[ds.length - 1]?=some x:=⟨_,zcu7 (by walk_at "om")⟩
   obtain⟨d1',ed1,hd1⟩:=l.get _ x1 ex1
   have m1:=dm d1' (zcv1 ed1)
   obtain⟨r1,ts1,es1,rfl,rfl,hr1,hl1,hp1,_⟩:=zan3 hd1 (ea' d1' (zcv1 ed1))
   have b1:=(zq8 m1).1
   rw[getD_some ed1] at q
   have s03:=s02.trans s3
   have e3:=s3 _ _ e2
   refine zg6 (v:=.ref r1) e3 (zbv2 (n:=ds.length - 1) (by walk_at "om") ex1) ?_
   refine zd0 (s03 _ _ hr1) ?_
   refine zq1 (Wk.list (SqL.of (s03 _ _ hr1))) (by rw[zcu6,sizeLine_eq];omega) (fun i=>.bl (decide (((rowF (.list es1)).getD i (0,0,0)).1=((rowF (.list es1)).getD i (0,0,0)).2.1))) (fun _=>true) (fun j σ=>∃ t u w:Option V,σ=[t,u,w]) ⟨none,none,none,rfl⟩ ?_ ?_
   ·rintro i x σ I R S hi s4 hx ⟨_,_,_,rfl⟩ k _
    rw[zcu6] at hi
    rw[zcu9] at hx
    obtain⟨t,et,rfl⟩:=zcv4.mp hx
    obtain⟨z,ez⟩:∃ z,(rowF (.list es1))[i]?=some z:=⟨_,zcu7 (by rw[zl8];omega)⟩
    rw[show (rowF (.list es1)).getD i (0,0,0)=z by rw[zcv2,ez];rfl] at k
    refine ze7 (s4 _ _ (s03 _ _ (hp1 i t z et ez))) ?_
    refine br_T ?_
    walk_at "wh"
    exact k rfl _ _ (Same.refl _) ⟨_,_,_,rfl⟩
   intro acc4 H4 f4 s4 h4
   rw[zg8,zcu6,hl1,← zl8 es1,zaw3 fun z=>decide (z.1=z.2.1)] at h4
   refine zx7 h4 ?_
   rw[zbf0]
   have s04:=s03.trans s4
   have e4:=s4 _ _ e3
   have q:∀ H',Same H H'->Q (.bl ((rowF (.list es0)).all (fun z=>decide (z.1=h))&&((rowF (.list es1)).all (fun z=>decide (z.1=z.2.1))&&zal5 ds))) H':=q
   walk_at "wh"
   cases e5:(rowF (.list es0)).all (fun z=>decide (z.1=h))
   ·have q:=q _ s04
    rw[e5] at q
    refine br_F ?_
    walk_at "wh"
    exact q
   rw[e5,zcy9] at q
   refine br_T ?_
   walk_at "wh"
   cases e6:(rowF (.list es1)).all (fun z=>decide (z.1=z.2.1))
   ·have q:=q _ s04
    rw[e6] at q
    refine br_F ?_
    walk_at "wh"
    exact q
   rw[e6,zcy9] at q
   refine br_T ?_
   refine zbt4 (SqL.of e4) (fun p5 H5 f5 s5 h5=>?_)
   rw[zae0 (by walk_at "om")] at h5
   have s05:=s04.trans s5
   refine zce3 (SqL.of (s5 _ _ e4)) (SqL.of h5) ?_
   refine zq1 (Wk.zipN (n:=ds.length - 1) (SqL.of (s5 _ _ e4)) (SqL.of h5) (by walk_at "om") (by rw[zda6];show _<=_ - 1;omega) (.inr (by rw[zda6,ll];rfl))) (by rw[sizeLine_eq];omega) (fun i=>.bl (zal2 (ds.getD i .none) (ds.getD (i+1) .none))) (fun _=>true) (fun j σ=>∃ t u:Option V,σ=[t,u]) ⟨none,none,rfl⟩ ?_ ?_
   ·rintro j v σ H6 R S hj s6 ⟨p,x,y,rfl,hp,hx,hy⟩ ⟨t,u,rfl⟩ k _
    rw[List.getElem?_drop,show (1:Int).toNat+j=j+1 by show 1+j=j+1;omega] at hy
    obtain⟨d,ed,hd⟩:=l.get j x hx
    obtain⟨d',ed',hd'⟩:=l.get (j+1) y hy
    have s06:=s05.trans s6
    rw[getD_some ed,getD_some ed'] at k
    have il:∀ {d:PyData},sml d=true->rowD d=true->(zc6 d).length<=1000:=fun {d} m r=>by
     cases d with
     | list es=>exact (zq8 m).1
     | _=>simp[rowD] at r
    have rd:=ea' d (zcv1 ed)
    have rd':=ea' d' (zcv1 ed')
    refine ze7 hp ?_
    refine br_T ?_
    refine zbr1 (hd.same s06) (hd'.same s06) rd rd' (il (dm d (zcv1 ed)) rd) (il (dm d' (zcv1 ed')) rd') (fun H7 s7=>?_)
    walk_at "wh"
    exact k rfl _ _ s7 ⟨_,_,rfl⟩
   intro acc6 H6 f6 s6 h6
   rw[zg8] at h6
   have h6:H6 acc6=some (.lst (((List.range (ds.length - 1)).map fun i=>zal2 (ds.getD i .none) (ds.getD (i+1) .none)).map V.bl)):=by rw[h6,zcy1];rfl
   refine zx7 h6 ?_
   rw[zdb3]
   exact q _ (s05.trans s6)
  ·have q:=q _ s1
   rw[decide_eq_false hf] at q
   refine br_T ?_
   walk_at "wh"
   exact q
 all_goals simp[zq0] at eb
structure RwAt (H:Hp) (p:Addr) (bs:List Addr) (xs:List (Int×Int×Int)):Prop where
 out:H p=some (.lst (bs.map V.ref))
 len:bs.length=xs.length
 row:∀ (i:Nat) b x,bs[i]?=some b->xs[i]?=some x->H b=some (.tup [.int x.1,.int x.2.1,.int x.2.2])
theorem RwAt.same {H H':Hp}{p:Addr}{bs:List Addr}{xs:List (Int×Int×Int)}(R:RwAt H p bs xs) (s:Same H H'):RwAt H' p bs xs:=⟨s _ _ R.out,R.len,fun i b x e1 e2=>s _ _ (R.row i b x e1 e2)⟩
def flw (ms:List (List Int×Int)) (i:Nat):List ((Int×Int)×Int):=ms.map fun x=>(((x.1.drop i).sum,x.1.getD i 0),x.2)
def keyT (z:Int×Int×Int):Int×Int:=(z.1,z.2.1)
def zaa1 (ms:List (List Int×Int)) (i:Nat) (xs:List (Int×Int×Int)):Prop:=OrdK (xs.map keyT)/\(∀ k,k∈xs.map keyT↔k∈(sumG (flw ms i)).map (·.1))/\∀ z∈xs,valG (sumG (flw ms i)) (keyT z)=some z.2.2
theorem zbg7 {κ:Type}[DecidableEq κ] {k:κ}:∀ {kv:List (κ×Int)},k∈kv.map (·.1)->∃ n,valG kv k=some n
 | [],h=>by cases h
 | z :: kv,h=>by
  by_cases e:z.1=k
  ·exact⟨z.2,zt3 e⟩
  ·rw[zt1 e]
   rw[zcy2] at h
   rcases zcw3.mp h with h|h
   ·exact absurd h.symm e
   ·exact zbg7 h
@[irreducible] def zu7:Sp:=fun vs H Q _=>∃ (m:Addr) (ts:List (Addr×Addr)) (ms:List (List Int×Int)) (i:Nat),vs=[.ref m,.int i]/\ze3 H m ts ms/\ms.length<64/\(∀ x∈ms,i<x.1.length/\x.1.length<=1000)/\∀ r bs xs H',Same H H'->RwAt (nw H H') r bs xs->zaa1 ms i xs->xs.length<=ms.length->Q (.ref r) H'
theorem zbv0 {H:Hp}{m:Addr}{ts:List (Addr×Addr)}{ms:List (List Int×Int)}{i:Nat}{Q:VK}{E:XK}(M:ze3 H m ts ms) (hl:ms.length<64) (hi:∀ x∈ms,i<x.1.length/\x.1.length<=1000) (q:∀ r bs xs H',Same H H'->RwAt (nw H H') r bs xs->zaa1 ms i xs->xs.length<=ms.length->Q (.ref r) H'):zu7 [.ref m,.int i] H Q E:=by unfold zu7;exact⟨m,ts,ms,i,rfl,M,hl,hi,q⟩
set_option maxHeartbeats 0 in
theorem zbr4 {f:Addr}{fd:FuncData}(F:Fun K "row_of" "row_of" zz1 f fd) (N:Nm mg) (zco9:Def P w K mg base CX0 1 "summed" ["pairs"] zm6):FnOk P w K mg base CX0 2 f fd ["mix","field"] zu7:=by
 refine F.ok zaz4 (fun vs H Q E h=>by unfold zu7 at h;obtain⟨_,_,_,_,rfl,_⟩:=h;rfl) (fun cdv A outer s H vs Q E hr h=>?_)
 unfold zu7 at h
 obtain⟨m,ts,ms,i,rfl,M,hl,hi,q⟩:=h
 have hu:=hu40 hr
 have ml:=M.len
 refine⟨_,(za4 (psS (i:=2) zaz4.nd (pD zco9 hr zb5 (za0 (zj5 (N:=["plan","weight","field"]) (ks:=[none,none,some 1]) (zj2 (K:=K) rfl (pq 0)) (fun cl C s3 H3 fp=>(zk3 (K:=K) (n:=2) rfl rfl (zb1 (za7 (i:=0) nb_12 rfl (by first|exact Or.inl rfl|exact Or.inr rfl)) (zb1 (za7 (i:=1) nb_12 rfl (by first|exact Or.inl rfl|exact Or.inr rfl)) zk1)))) (fun cl C s3 H3 fp=>ze2) (fun cl C s3 H3 fp=>(zh2 (za0 (zh2 (za0 (pB (zan4 (K:=K) rfl rfl) N.sum_ zab0 (za0 (zj4 (slXK (K:=K) rfl) (pq 0) (zt0 (pq 2)) zn8) za1)) (za0 (zb8 (K:=K) rfl (pq 0) (pq 2)) za1))) (za0 (pq 1) za1)))) (.skip (.skip (.take rfl rfl (by first|exact Or.inl rfl|exact Or.inr rfl) .nil)))) za1)))
   (za6 (zb0 (zj5 (N:=["left","sent","flows"]) (ks:=[none,none,some 2]) (zj2 (K:=K) rfl (pB (cSortO rfl) N.sorted_ zbn7 (za0 (pq 2) za1))) (fun cl C s3 H3 fp=>(zk3 (K:=K) (n:=2) rfl rfl (zb1 (za7 (i:=0) nb_13 rfl (by first|exact Or.inl rfl|exact Or.inr rfl)) (zb1 (za7 (i:=1) nb_13 rfl (by first|exact Or.inl rfl|exact Or.inr rfl)) zk1)))) (fun cl C s3 H3 fp=>ze2) (fun cl C s3 H3 fp=>(zh2 (za0 (pq 0) (za0 (pq 1) (za0 (peDGet (by exact hu) (pq 2) (zh2 (za0 (pq 0) (za0 (pq 1) za1)))) za1))))) (.skip (.skip (.take rfl rfl (by first|exact Or.inl rfl|exact Or.inr rfl) .nil))))))),?_⟩
 refine zd0 M.out ?_
 refine zce4 (Wk.list (SqL.of M.out)) (by rw[zcu6,sizeLine_eq];omega) (fun acc j ys σ I=>∃ (t u:Option V) (qs:List (Addr×Addr)),σ=[t,u,some (.int i)]/\ys=(qs.map fun t=>V.ref t.1)/\qs.length=j/\∀ (k:Nat) q x,qs[k]?=some q->ms[k]?=some x->rm acc I q.1=some (.tup [.ref q.2,.int x.2])/\rm acc I q.2=some (.tup (pV ((x.1.drop i).sum,x.1.getD i 0)))) ?_ ?_ ?_ ?_
 ·intro acc I f1 s1 h1
  exact⟨none,none,[],rfl,rfl,rfl,fun k q x e=>by simp at e⟩
 ·rintro acc j ys σ I I' s' ⟨t,u,qs,r1,r2,r3,r5⟩
  exact⟨t,u,qs,r1,r2,r3,fun k q x e1 e2=>⟨Same.rm s' _ _ (r5 k q x e1 e2).1,Same.rm s' _ _ (r5 k q x e1 e2).2⟩⟩
 ·rintro acc j v ys σ I R S hj facc s1 hacc hx ⟨t',u',qs,rfl,rfl,ql,qp⟩ kR _
  obtain⟨t,x,rfl,e1,e2,e3,e4⟩:=(M.same s1).elt hx
  obtain⟨ix,il⟩:=hi x (zcv1 e2)
  refine ze7 e3 ?_
  refine br_T ?_
  refine zbt4 (SqL.of e4) (fun p0 I0 f0 r0 k0=>?_)
  rw[zae0 (by walk_at "om"),zdc4,← List.map_drop] at k0
  refine zab2 k0 ?_
  refine zg6 (v:=.int (x.1.getD i 0)) (r0 _ _ e4) (int_at (by walk_at "om") (by rw[zdc4,zcv2,zcu7 ix];rfl)) ?_
  refine zb7 (fun p1 I1 f1 r1 k1=>?_)
  refine zb7 (fun p2 I2 f2 r2 k2=>?_)
  walk_at "wh"
  have n1:p1≠acc:=Ne.symm (za5 (r0 _ _ hacc) f1)
  have n2:p2≠acc:=Ne.symm (za5 ((r0.trans r1) _ _ hacc) f2)
  have r12:=(r0.trans r1).trans r2
  refine kR _ _ _ r12 (fun I3 c3=>⟨_,_,qs++[(p2,p1)],rfl,by rw[zcx8];rfl,by rw[zcv9,ql];rfl,fun k q y g1 g2=>?_⟩)
  by_cases hk:k<qs.length
  ·rw[zcy4 hk] at g1
   have w:=qp k q y g1 g2
   have up:Same (rm acc I) (rm acc I3):=(Same.rm r12).trans (Chg.rm c3)
   exact⟨up _ _ w.1,up _ _ w.2⟩
  ·rw[zcy8 (by walk_at "om")] at g1
   have k0':k - qs.length=0:=by
    have:=(zcv3.mp g1).1
    simp at this;omega
   rw[k0'] at g1
   cases g1
   have:k=j:=by walk_at "om"
   subst this
   rw[e2] at g2
   cases g2
   exact⟨Chg.rm c3 _ _ (zf6 n2 k2),Chg.rm c3 _ _ (zf6 n1 (r2 _ _ k1))⟩
 rintro acc ys σ H1 facc s1 hacc ⟨t',u',qs,rfl,rfl,ql,qp⟩
 rw[zcu6] at ql
 refine zbj1 (zs:=flw ms i) hacc (by unfold flw;rw[zcu6];omega) (by unfold flw;rw[zcu6];omega) (fun k t z g1 g2=>?_) (fun r2 H2 f2 s2 h2=>?_)
 ·unfold flw at g2
  rw[zcu9] at g2
  obtain⟨x,ex,rfl⟩:=zcv4.mp g2
  exact⟨zb9 acc H1 _ _ (qp k t x g1 ex).1,zb9 acc H1 _ _ (qp k t x g1 ex).2⟩
 have sl:(sumG (flw ms i)).length<=ms.length:=by have:=zat6 (flw ms i);unfold flw at this ⊢;rw[zcu6] at this;exact this
 have h2':H2 r2=some (.dT (((sumG (flw ms i)).map fun z=>(z.1,V.int z.2)).map fun z=>(pK z.1,z.2))):=by rw[h2,zcy1];rfl
 refine soO_rd h2' (by rw[zcu6];omega) (fun p3 H3 bs ks f3 s3 pm od pr h3=>?_)
 have pm:ks.Perm ((sumG (flw ms i)).map (·.1)):=by rw[zcy1] at pm;exact pm
 have bl:bs.length=ks.length:=pr.length
 have kl:ks.length<=ms.length:=by have:=pm.length_eq;rw[zcu6] at this;omega
 have eg:∀ x∈ks,valG (sumG (flw ms i)) x=some ((valG (sumG (flw ms i)) x).getD 0):=fun x hx=>by
  obtain⟨n,e⟩:=zbg7 (pm.mem_iff.mp hx)
  rw[e];rfl
 refine zd0 h3 ?_
 refine zam8 (n:=(bs.map V.ref).length) (Wk.list (SqL.of h3)) (by rw[zcu6,sizeLine_eq];omega) (fun j=>.tup [.int (ks.getD j (0,0)).1,.int (ks.getD j (0,0)).2,.int ((valG (sumG (flw ms i)) (ks.getD j (0,0))).getD 0)]) (fun j σ=>∃ t u:Option V,σ=[t,u,some (.ref r2)]) ⟨none,none,rfl⟩ ?_ ?_
 ·rintro j v σ H4 R' S' hj s4 hx ⟨t,u,rfl⟩ k
  rw[zcu9] at hx
  obtain⟨b,eb,rfl⟩:=zcv4.mp hx
  obtain⟨x,ex⟩:∃ x,ks[j]?=some x:=⟨ks[j]'(by have:=(zcv3.mp eb).1;omega),zcu7 _⟩
  have eb':=s4 _ _ (zaz8 pr j b x eb ex)
  rw[show ks.getD j (0,0)=x by rw[zcv2,ex];rfl] at k
  have h4:=s4 _ _ (s3 _ _ h2)
  refine ze7 eb' ?_
  refine br_T ?_
  refine zb7 (fun p5 H5 f5 s5 h5=>?_)
  refine dgT_rd (s5 _ _ h4) (k:=pK x) h5 (by rw[zai5 zba9,eg x (zcv1 ex)];rfl) ?_
  refine zb7 (fun pa Ha fa sa ha=>?_)
  walk_at "wh"
  exact k _ _ _ (s5.free fa) (s5.trans sa) ha ⟨_,_,rfl⟩
 ·intro acc4 ps H4 F4
  rw[zcu6] at F4
  have F4l:=F4.len
  have s03:=(s1.trans s2).trans s3
  walk_at "wh"
  refine q acc4 ps (ks.map fun x=>(x.1,x.2,(valG (sumG (flw ms i)) x).getD 0)) H4 (s03.trans F4.same) ⟨zy1 (s03.free F4.facc) F4.out,by rw[zcu6];omega,fun j b x e1 e2=>?_⟩ ?_ (by rw[zcu6];exact kl)
  ·rw[zcu9] at e2
   obtain⟨y,ey,rfl⟩:=zcv4.mp e2
   obtain⟨z1,z2⟩:=F4.row j b e1
   rw[show ks.getD j (0,0)=y by rw[zcv2,ey];rfl] at z2
   exact zy1 (s03.free z1) z2
  ·have em:(ks.map fun x=>(x.1,x.2,(valG (sumG (flw ms i)) x).getD 0)).map keyT=ks:=by
    rw[zcy1]
    exact (zcx5 fun x _=>rfl).trans (List.map_id _)
   refine⟨by rw[em];exact od,fun k=>by rw[em];exact pm.mem_iff,fun z hz=>?_⟩
   obtain⟨x,hx,rfl⟩:=zcx6.mp hz
   exact eg x hx
def msD (d:PyData):List (List Int×Int):=(zc6 d).map fun x=>(zak5 (zq5 x),wtD x)
def zv6 (d:PyData):Nat:=(zp6 (zc6 d)).length
def zbg4 (d:PyData):Int:=(zp6 (zc6 d)).sum
theorem zah7 {H:Hp}{v:V}{d:PyData}(h:ShV H v d) (em:mixD d=true):∃ (m:Addr) (ts:List (Addr×Addr)),v=.ref m/\ze3 H m ts (msD d)/\1<=(msD d).length/\(0<=zbg4 d/\zbg4 d<=40)/\(1<=zv6 d/\zv6 d<=8)/\∀ x∈msD d,(∀ n∈x.1,0<=n)/\x.1.length=zv6 d/\x.1.sum=zbg4 d/\1<=x.2:=by
 obtain⟨a,xs,ds,rfl,rfl,e,l,h0,hp⟩:=zbh3 h em
 rw[zy3,zcw5,zcw5,zcw5] at em
 obtain⟨⟨⟨_,_⟩,sz⟩,pl⟩:=em
 unfold zx4 at sz
 rw[zcw5,decide_eq_true_eq,decide_eq_true_eq] at sz
 have pl:=zcx1.mp pl
 have key:∀ {xs:List V}{ds:List PyData},ShL H xs ds->(∀ d∈ds,zx1 d=true)->∃ ts:List (Addr×Addr),xs=(ts.map fun t=>V.ref t.1)/\ts.length=ds.length/\∀ (i:Nat) t x,ts[i]?=some t->(ds.map fun x=>(zak5 (zq5 x),wtD x))[i]?=some x->H t.1=some (.tup [.ref t.2,.int x.2])/\H t.2=some (.lst (x.1.map V.int)):=fun {xs ds} l hp=>by
  induction ds generalizing xs with
  | nil=>cases l;exact⟨[],rfl,rfl,fun i t x h=>by simp at h⟩
  | cons d ds ih=>
   cases l with
   | cons h1 l=>
    obtain⟨ts,rfl,tl,k1⟩:=ih l fun d hd=>hp d (.tail _ hd)
    obtain⟨t,p,w,ns,rfl,ht,hp',rfl,nn,hw⟩:=zam0 h1 (hp _ (.head _))
    refine⟨(t,p) :: ts,rfl,by rw[zcx0,zcx0,tl],fun n t' x g1 g2=>?_⟩
    match n with
    | 0=>
     cases g1
     rw[zcy2,List.getElem?_cons_zero,zu1] at g2
     cases g2
     exact⟨ht,hp'⟩
    | n+1=>exact k1 n t' x g1 g2
 obtain⟨ts,rfl,tl,k1⟩:=key l hp
 refine⟨a,ts,rfl,⟨e,by unfold msD;rw[zcu6];exact tl,k1⟩,by unfold msD;rw[zcu6];show 1<=ds.length;omega,sz.1,⟨by have:=sz.2.1;show 1<=(zp6 ds).length;omega,by have:=sz.2.2;show (zp6 ds).length<=8;omega⟩,fun x hx=>?_⟩
 unfold msD at hx
 obtain⟨d,hd,rfl⟩:=zcx6.mp hx
 obtain⟨ns,w,rfl,nn,hw⟩:=zba1 (hp d hd)
 have p:=pl _ hd
 unfold zx9 at p
 rw[zcw5,zcw5,decide_eq_true_eq,decide_eq_true_eq] at p
 rw[zu1] at p ⊢
 exact⟨nn,by have:=p.1.2;show ns.length=(zp6 ds).length;omega,p.2,hw⟩
structure StAt (H:Hp) (p:Addr) (rs:List (Addr×List Addr)) (xss:List (List (Int×Int×Int))):Prop where
 out:H p=some (.lst (rs.map fun r=>V.ref r.1))
 len:rs.length=xss.length
 row:∀ (i:Nat) r xs,rs[i]?=some r->xss[i]?=some xs->RwAt (rm p H) r.1 r.2 xs
 nd:(rs.map (·.1)).Nodup
theorem StAt.same {H H':Hp}{p:Addr}{rs:List (Addr×List Addr)}{xss:List (List (Int×Int×Int))}(R:StAt H p rs xss) (s:Same H H'):StAt H' p rs xss:=⟨s _ _ R.out,R.len,fun i r xs e1 e2=>(R.row i r xs e1 e2).same (Same.rm s),R.nd⟩
def zbb9 (ms:List (List Int×Int)) (f:Nat) (xss:List (List (Int×Int×Int))):Prop:=xss.length=f/\∀ (i:Nat) xs,xss[i]?=some xs->zaa1 ms i xs/\xs.length<=ms.length
@[irreducible] def zm5 (zcl6:Addr):Sp:=fun vs H Q E=>∃ (v:V) (d:PyData),vs=[v]/\ShV H v d/\sml d=true/\(mixD d=true->(zc6 d).length<64/\∀ r rs xss H',Same H H'->StAt (nw H H') r rs xss->zbb9 (msD d) (zv6 d) xss->Q (.ref r) H')/\(mixD d=false->∀ H',Same H H'->E (.ref zcl6) none H')
theorem zag0 {zcl6:Addr}{H:Hp}{v:V}{d:PyData}{Q:VK}{E:XK}(h:ShV H v d) (hs:sml d=true) (q:mixD d=true->(zc6 d).length<64/\∀ r rs xss H',Same H H'->StAt (nw H H') r rs xss->zbb9 (msD d) (zv6 d) xss->Q (.ref r) H') (qe:mixD d=false->∀ H',Same H H'->E (.ref zcl6) none H'):zm5 zcl6 [v] H Q E:=by unfold zm5;exact⟨v,d,rfl,h,hs,q,qe⟩
theorem zq2 {α:Type}{as:List α}{a b:α}{i:Nat}(h:(as++[a])[i]?=some b):(i<as.length/\as[i]?=some b)∨(i=as.length/\b=a):=by
 by_cases hi:i<as.length
 ·rw[zcy4 hi] at h
  exact .inl ⟨hi,h⟩
 ·rw[zcy8 (by walk_at "om")] at h
  have:i - as.length=0:=by
   have:=(zcv3.mp h).1
   simp at this;omega
  rw[this] at h
  cases h
  exact .inr ⟨by walk_at "om",rfl⟩
theorem zci0 {H1 I I1:Hp}{acc r:Addr}{rs:List (Addr×List Addr)}{xss:List (List (Int×Int×Int))}{bs:List Addr}(nd:(rs.map (·.1)).Nodup) (hl:rs.length=xss.length) (rp:∀ (i:Nat) r xs,rs[i]?=some r->xss[i]?=some xs->RwAt (rm acc (nw H1 I)) r.1 r.2 xs) (hr:I r=none):((rs++[(r,bs)]).map (·.1)).Nodup:=by
 rw[zcx8,List.nodup_append]
 refine⟨nd,by simp,fun a ha b hb=>?_⟩
 obtain⟨r',hr',rfl⟩:=zcx6.mp ha
 obtain⟨i,ei⟩:=zdb0 hr'
 obtain⟨xs,ex⟩:∃ xs,xss[i]?=some xs:=⟨_,zcu7 (by have:=(zcv3.mp ei).1;omega)⟩
 have o:=zbd9 _ _ _ _ (zb9 _ _ _ _ (rp i r' xs ei ex).out)
 rw[show b=r by simpa using hb]
 exact za5 o hr
theorem zax2 {f:Addr}{fd:FuncData}(F:Fun K "stream_of" "stream_of" zq6 f fd) (N:Nm mg) (zcs2:Def P w K mg base (CXR P w) 6 "look_mix" ["mix"] (zo2 zcl6)) (zcs9:Def P w K mg base CX0 2 "row_of" ["mix","field"] zu7):FnOk P w K mg base (CXR P w) 7 f fd ["mix"] (zm5 zcl6):=by
 refine F.okR zaz3 (fun vs H Q E h=>by unfold zm5 at h;obtain⟨_,_,rfl,_⟩:=h;rfl) (fun cdv A outer s H vs Q E hr hX h=>?_)
 unfold zm5 at h
 obtain⟨v,d,rfl,h,hs,q,qe⟩:=h
 refine⟨_,(za4 (zr7 (pD zcs2 hr (zbi7 hX) (za0 (pq 0) za1)))
   (za6 (zb0 (zj5 (N:=["field","mix"]) (ks:=[none,some 0]) (zac1 N.range_ (za0 (pB (zq4 (K:=K) rfl) N.len_ zj3 (za0 (zb8 (K:=K) rfl (zb8 (K:=K) rfl (pq 0) za2) za2) za1)) za1)) (fun cl C s3 H3 fp=>(za7 (i:=0) nb_14 rfl (by first|exact Or.inl rfl|exact Or.inr rfl))) (fun cl C s3 H3 fp=>ze2) (fun cl C s3 H3 fp=>(pD zcs9 hr zb5 (za0 (pq 1) (za0 (pq 0) za1)))) (.skip (.take rfl rfl (by first|exact Or.inl rfl|exact Or.inr rfl) .nil)))))),?_⟩
 refine zay4 h hs (fun em H1 s1=>?_) (fun em H1 s1=>?_)
 ·obtain⟨q1,q⟩:=q em
  obtain⟨m,ts,rfl,M,m1,hh,hf,ok⟩:=zah7 (h.same s1) em
  have ml:(msD d).length<64:=by unfold msD;rw[zcu6];exact q1
  obtain⟨x0,ex0⟩:∃ x,(msD d)[0]?=some x:=⟨_,zcu7 (by walk_at "om")⟩
  obtain⟨t0,et0,at0,ht0,hp0⟩:=M.ix ex0
  have l0:=(ok x0 (zcv1 ex0)).2.1
  refine zg6 (v:=.ref t0.1) M.out at0 ?_
  refine zb6 (v:=.ref t0.2) ht0 rfl ?_
  refine zh4 hp0 ?_
  rw[zcu6,l0]
  refine zt5 (by walk_at "om") (by walk_at "om") (by walk_at "om") (by walk_at "om") ?_
  refine zce4 (n:=zv6 d) Wk.range (by rw[sizeLine_eq];omega) (fun acc j ys σ I=>∃ (t:Option V) (rs:List (Addr×List Addr)) (xss:List (List (Int×Int×Int))),σ=[t,some (.ref m)]/\ys=(rs.map fun r=>V.ref r.1)/\rs.length=j/\xss.length=j/\(∀ (i:Nat) r xs,rs[i]?=some r->xss[i]?=some xs->RwAt (rm acc (nw H1 I)) r.1 r.2 xs)/\(∀ (i:Nat) xs,xss[i]?=some xs->zaa1 (msD d) i xs/\xs.length<=(msD d).length)/\(rs.map (·.1)).Nodup) ?_ ?_ ?_ ?_
  ·intro acc I f1 s2 h1
   exact⟨none,[],[],rfl,rfl,rfl,rfl,fun i r xs e=>by simp at e,fun i xs e=>by simp at e,List.nodup_nil⟩
  ·rintro acc j ys σ I I' s' ⟨t,rs,xss,r1,r2,r3,r4,r5,r6,r7⟩
   exact⟨t,rs,xss,r1,r2,r3,r4,fun i r xs e1 e2=>(r5 i r xs e1 e2).same (Same.rm (nw_up s')),r6,r7⟩
  ·rintro acc j v ys σ I R S hj facc s2 hacc hx ⟨t,rs,xss,rfl,rfl,rl,xl,rp,xp,nd⟩ kR _
   obtain rfl:v=.int j:=by rw[hx,Int.zero_add]
   refine br_T ?_
   refine zbv0 (M.same s2) ml (fun x hx=>by have:=(ok x hx).2.1;omega) (fun r bs xs I1 s3 R1 ri xl1=>?_)
   walk_at "wh"
   refine kR _ _ _ s3 (fun I2 c2=>⟨_,rs++[(r,bs)],xss++[xs],rfl,by rw[zcx8];rfl,by rw[zcv9,rl];rfl,by rw[zcv9,xl];rfl,fun i r' xs' e1 e2=>?_,fun i xs' e=>?_,zci0 (I1:=I1) nd (by walk_at "om") rp (zan9 R1.out).1⟩)
   ·have up:Same (rm acc (nw H1 I)) (rm acc (nw H1 I2)):=fun b o z=>by
     obtain⟨z1,z2⟩:=zm1 z
     obtain⟨z3,z4⟩:=zan9 z2
     exact zf6 z1 (zy1 z3 (c2 _ _ z1 (s3 _ _ z4)))
    have new:Same (nw I I1) (rm acc (nw H1 I2)):=fun b o z=>by
     obtain⟨z3,z4⟩:=zan9 z
     have nb:b≠acc:=fun w=>by rw[w,hacc] at z3;cases z3
     exact zf6 nb (zy1 (s2.free z3) (c2 _ _ nb z4))
    rcases zq2 e1 with ⟨a1,a2⟩|⟨a1,rfl⟩
    ·rcases zq2 e2 with ⟨b1,b2⟩|⟨b1,_⟩
     ·exact (rp i r' xs' a2 b2).same up
     ·omega
    ·rcases zq2 e2 with ⟨b1,_⟩|⟨b1,rfl⟩
     ·omega
     ·exact R1.same new
   ·rcases zq2 e with ⟨b1,b2⟩|⟨b1,rfl⟩
    ·exact xp i xs' b2
    ·rw[b1,xl]
     exact⟨ri,xl1⟩
  ·rintro acc ys σ I facc s2 hacc ⟨t,rs,xss,rfl,rfl,rl,xl,rp,xp,nd⟩
   walk_at "wh"
   have left:Same (nw H1 I) (nw H I):=zck4 s1
   exact q acc rs xss I (s1.trans s2) ⟨left _ _ (zy1 facc hacc),by walk_at "om",fun i r xs e1 e2=>(rp i r xs e1 e2).same (Same.rm left),nd⟩ ⟨xl,xp⟩
 ·exact qe em _ s1
def okD (n:Nat) (d:PyData):Prop:=sml d=true/\d.canLay0=true/\d.depth<=n
def Rd (H:Hp) (v:V) (n:Nat):Prop:=∃ d,ShV H v d/\okD n d/\(zc6 d).length<60
theorem Rd.same {H H':Hp}{v:V}{n:Nat}(h:Rd H v n) (s:Same H H'):Rd H' v n:=by obtain⟨d,h1,h2⟩:=h;exact⟨d,h1.same s,h2⟩
theorem okD.up {n m:Nat}{d:PyData}(h:okD n d) (l:n<=m):okD m d:=⟨h.1,h.2.1,zdb2 h.2.2 l⟩
theorem Rd.up {H:Hp}{v:V}{n m:Nat}(h:Rd H v n) (l:n<=m:=by decide):Rd H v m:=by obtain⟨d,h1,h2⟩:=h;exact⟨d,h1,h2.1.up l,h2.2⟩
theorem Rd.int {H:Hp}(i:Int) (n:Nat):Rd H (.int i) n:=⟨.int i,.int i,⟨rfl,rfl,zcz3 _⟩,by show (0:Nat)<60;decide⟩
theorem Rd.non {H:Hp}(n:Nat):Rd H .non n:=⟨.none,.non,⟨rfl,rfl,zcz3 _⟩,by show (0:Nat)<60;decide⟩
theorem zce6 {ds:List PyData}(h:∀ d∈ds,d.canLay0=true):PyData.canLayAll0 ds=true:=by
 induction ds with
 | nil=>rfl
 | cons d ds ih=>
  show (d.canLay0&&PyData.canLayAll0 ds)=true
  rw[h d (.head _),ih fun x hx=>h x (.tail _ hx)];rfl
theorem zcd3 {ds:List PyData}{n:Nat}(h:∀ d∈ds,d.depth<=n):PyData.depthAll ds<=n:=by
 induction ds with
 | nil=>exact zcz3 _
 | cons d ds ih=>
  rw[show PyData.depthAll (d :: ds)=max d.depth (PyData.depthAll ds) from rfl]
  exact Nat.max_le.mpr ⟨h d (.head _),ih fun x hx=>h x (.tail _ hx)⟩
theorem okD.list {n:Nat}{ds:List PyData}(l:ds.length<=1000) (h:∀ d∈ds,okD n d):okD (n+1) (.list ds):=
 ⟨by simp only[sml,zcw5,decide_eq_true_eq];exact⟨by walk_at "om",zy4 fun d hd=>(h d hd).1⟩,zce6 fun d hd=>(h d hd).2.1,Nat.succ_le_succ (zcd3 fun d hd=>(h d hd).2.2)⟩
theorem okD.tuple {n:Nat}{ds:List PyData}(l:ds.length<=1000) (h:∀ d∈ds,okD n d):okD (n+1) (.tuple ds):=
 ⟨by simp only[sml,zcw5,decide_eq_true_eq];exact⟨by walk_at "om",zy4 fun d hd=>(h d hd).1⟩,zce6 fun d hd=>(h d hd).2.1,Nat.succ_le_succ (zcd3 fun d hd=>(h d hd).2.2)⟩
theorem Rd.lst {H:Hp}{a:Addr}{xs:List V}{n:Nat}(e:H a=some (.lst xs)) (l:xs.length<60) (h:∀ x∈xs,Rd H x n):Rd H (.ref a) (n+1):=by
 obtain⟨ds,h1,h2⟩:=ShL.ex (P:=fun d=>okD n d) fun x hx=>by obtain⟨d,h1,h2,_⟩:=h x hx;exact⟨d,h1,h2⟩
 exact⟨.list ds,.lst e h1,okD.list (by rw[← h1.len];omega) h2,by show ds.length<60;rw[← h1.len];exact l⟩
theorem Rd.tup {H:Hp}{a:Addr}{xs:List V}{n:Nat}(e:H a=some (.tup xs)) (l:xs.length<60) (h:∀ x∈xs,Rd H x n):Rd H (.ref a) (n+1):=by
 obtain⟨ds,h1,h2⟩:=ShL.ex (P:=fun d=>okD n d) fun x hx=>by obtain⟨d,h1,h2,_⟩:=h x hx;exact⟨d,h1,h2⟩
 exact⟨.tuple ds,.tup e h1,okD.tuple (by rw[← h1.len];omega) h2,by show (0:Nat)<60;decide⟩
theorem zr3:∀ {ns:List Int},(∀ x∈ns,0<=x)->(∀ x∈ns,x<=ns.sum)/\0<=ns.sum
 | [],_=>⟨fun x h=>by (cases h),Int.le_refl _⟩
 | n :: ns,h=>by
  have h0:=h n (.head _)
  obtain⟨i1,i2⟩:=zr3 (ns:=ns) fun y hy=>h y (.tail _ hy)
  rw[zda0]
  refine⟨fun x hx=>?_,by walk_at "om"⟩
  rcases zcw3.mp hx with rfl|hx
  ·omega
  ·have:=i1 x hx;omega
section
variable {κ μ:Type}[DecidableEq κ] [DecidableEq μ]
def atG (zs:List (κ×Int)) (k:κ):Int:=((zs.filter fun z=>decide (z.1=k)).map (·.2)).sum
theorem zbm3 {kv:List (κ×Int)}{k:κ}:k ∉ kv.map (·.1)->valG kv k=none:=by
 induction kv with
 | nil=>intro _;rfl
 | cons z kv ih=>
  intro h
  rw[zcy2,zcw3,not_or] at h
  rw[zt1 (fun e=>h.1 e.symm),ih h.2]
theorem zby4 (kv:List (κ×Int)) (k j:κ) (n:Int):valG (kv.map fun z=>if z.1=k then (z.1,n) else z) j=if j=k then (if j∈kv.map (·.1) then some n else none) else valG kv j:=by
 induction kv with
 | nil=>by_cases e:j=k<;>simp[e,valG]
 | cons z kv ih=>
  rw[zcy2]
  by_cases ez:z.1=j
  ·subst ez
   by_cases ek:z.1=k
   ·rw[if_pos ek,if_pos ek,zt3 (z:=(z.1,n)) rfl,if_pos (by simp)]
   ·rw[if_neg ek,if_neg ek,zt3 rfl,zt3 rfl]
  ·have:¬ (if z.1=k then (z.1,n) else z).1=j:=by split<;>exact ez
   rw[zt1 this,ih,zt1 ez]
   by_cases ek:j=k
   ·rw[if_pos ek,if_pos ek]
    have:(j∈(z :: kv).map (·.1))↔j∈kv.map (·.1):=by
     rw[zcy2,zcw3]
     exact⟨fun h=>h.resolve_left fun e=>ez e.symm,.inr⟩
    by_cases h:j∈kv.map (·.1)
    ·rw[if_pos h,if_pos (this.mpr h)]
    ·rw[if_neg h,if_neg fun z=>h (this.mp z)]
   ·rw[if_neg ek,if_neg ek]
theorem zaq7 (kv:List (κ×Int)) (k:κ):(kv.any fun z=>decide (z.1=k))=true↔k∈kv.map (·.1):=by
 rw[List.any_eq_true,zcx6]
 exact⟨fun ⟨z,h1,h2⟩=>⟨z,h1,of_decide_eq_true h2⟩,fun ⟨z,h1,h2⟩=>⟨z,h1,decide_eq_true h2⟩⟩
theorem zbz6 (kv:List (κ×Int)) (z:κ×Int) (j:κ):valG (kv++[z]) j=match valG kv j with|some n=>some n|none=>if z.1=j then some z.2 else none:=by
 induction kv with
 | nil=>
  by_cases e:z.1=j
  ·show valG [z] j=if z.1=j then some z.2 else none;rw[zt3 e,if_pos e]
  ·show valG [z] j=if z.1=j then some z.2 else none;rw[zt1 e,if_neg e];rfl
 | cons y kv ih=>
  rw[List.cons_append]
  by_cases e:y.1=j
  ·rw[zt3 e,zt3 e]
  ·rw[zt1 e,zt1 e,ih]
theorem zca3 (kv:List (κ×Int)) (k j:κ) (n:Int):valG (putG kv k n) j=if j=k then some n else valG kv j:=by
 unfold putG
 by_cases h:(kv.any fun z=>decide (z.1=k))=true
 ·rw[if_pos h,zby4]
  by_cases e:j=k
  ·rw[if_pos e,if_pos e,if_pos (by rw[e];exact (zaq7 kv k).mp h)]
  ·rw[if_neg e,if_neg e]
 ·rw[if_neg h,zbz6]
  have hk:k ∉ kv.map (·.1):=fun z=>h ((zaq7 kv k).mpr z)
  by_cases e:j=k
  ·subst e
   rw[zbm3 hk,if_pos rfl]
   first|done|exact if_pos rfl
  ·rw[if_neg e]
   cases valG kv j with
   | none=>exact if_neg fun z=>e z.symm
   | some m=>rfl
theorem zby5 (zs:List (κ×Int)) (z:κ×Int) (k:κ):atG (zs++[z]) k=atG zs k+if z.1=k then z.2 else 0:=by
 unfold atG
 rw[List.filter_append,zcx8,List.sum_append]
 by_cases e:z.1=k
 ·rw[if_pos e,zdd0,if_pos (decide_eq_true e)];simp
 ·rw[if_neg e,zdd0,if_neg (by rw[decide_eq_false e];exact zcw2)];simp
theorem zai2 (zs:List (κ×Int)) (z:κ×Int) (k:κ):atG (z :: zs) k=(if z.1=k then z.2 else 0)+atG zs k:=by
 unfold atG
 by_cases e:z.1=k
 ·rw[if_pos e,zdd0,if_pos (decide_eq_true e)];simp
 ·rw[if_neg e,zdd0,if_neg (by rw[decide_eq_false e];exact zcw2)];simp
theorem zbg1 {α:Type}{P:List α->Prop}(h0:P []) (hs:∀ xs x,P xs->P (xs++[x])) (xs:List α):P xs:=by
 have:∀ n (xs:List α),xs.length=n->P xs:=fun n=>by
  induction n with
  | zero=>intro xs h;rw[List.length_eq_zero_iff.mp h];exact h0
  | succ n ih=>
   intro xs h
   have hn:xs≠[]:=fun z=>by rw[z] at h;simp at h
   rw[← List.dropLast_concat_getLast hn]
   exact hs _ _ (ih _ (by rw[List.length_dropLast];omega))
 exact this _ xs rfl
theorem zaf8 (zs:List (κ×Int)) (k:κ):valG (sumG zs) k=if k∈zs.map (·.1) then some (atG zs k) else none:=by
 induction zs using zbg1 with
 | h0=>rfl
 | hs zs z ih=>
  rw[zaj4]
  unfold addG
  rw[zca3,zby5]
  have mm:k∈(zs++[z]).map (·.1)↔(k∈zs.map (·.1)∨k∈[z].map (·.1)):=by rw[zcx8,zcy0]
  by_cases e:k=z.1
  ·subst e
   rw[if_pos rfl,if_pos (mm.mpr (.inr (by simp))),if_pos rfl,ih]
   by_cases h:z.1∈zs.map (·.1)
   ·rw[if_pos h];rfl
   ·rw[if_neg h]
    have:atG zs z.1=0:=by
     unfold atG
     rw[List.filter_eq_nil_iff.mpr fun y hy hd=>h (zcx6.mpr ⟨y,hy,of_decide_eq_true hd⟩)];rfl
    rw[this];rfl
  ·have z0:(if z.1=k then z.2 else 0)=0:=if_neg fun q=>e q.symm
   rw[if_neg e,ih,z0,Int.add_zero]
   have:(k∈zs.map (·.1)∨k∈[z].map (·.1))↔k∈zs.map (·.1):=⟨fun h=>h.resolve_right fun q=>e (by simpa using q),.inl⟩
   by_cases h:k∈zs.map (·.1)
   ·rw[if_pos h,if_pos (mm.mpr (.inl h))]
   ·rw[if_neg h,if_neg fun q=>h (this.mp (mm.mp q))]
theorem zcc6 (kv:List (κ×Int)) (k:κ) (n:Int):(putG kv k n).map (·.1)=if k∈kv.map (·.1) then kv.map (·.1) else kv.map (·.1)++[k]:=by
 unfold putG
 by_cases h:(kv.any fun z=>decide (z.1=k))=true
 ·rw[if_pos h,if_pos ((zaq7 kv k).mp h),zcy1]
  refine zcx5 fun z _=>?_
  show (if z.1=k then (z.1,n) else z).1=z.1
  split<;>rfl
 ·rw[if_neg h,if_neg fun z=>h ((zaq7 kv k).mpr z),zcx8];rfl
theorem zv2 (zs:List (κ×Int)):((sumG zs).map (·.1)).Nodup/\∀ k,k∈(sumG zs).map (·.1)↔k∈zs.map (·.1):=by
 induction zs using zbg1 with
 | h0=>exact⟨List.nodup_nil,fun k=>Iff.rfl⟩
 | hs zs z ih=>
  rw[zaj4]
  unfold addG
  rw[zcc6]
  by_cases h:z.1∈(sumG zs).map (·.1)
  ·rw[if_pos h]
   refine⟨ih.1,fun k=>?_⟩
   rw[ih.2,zcx8,zcy0]
   exact⟨.inl,fun q=>q.elim id fun q=>by rw[show k=z.1 by simpa using q];exact (ih.2 _).mp h⟩
  ·rw[if_neg h]
   refine⟨?_,fun k=>?_⟩
   ·rw[List.nodup_append]
    refine⟨ih.1,by simp,fun a ha b hb=>?_⟩
    rw[show b=z.1 by simpa using hb]
    exact fun q=>h (q▸ha)
   ·rw[zcy0,ih.2,zcx8,zcy0];rfl
theorem zcb0 {kv:List (κ×Int)}(nd:(kv.map (·.1)).Nodup) {z:κ×Int}(h:z∈kv):valG kv z.1=some z.2:=by
 induction kv with
 | nil=>cases h
 | cons y kv ih=>
  rw[zcy2,zdd3] at nd
  rcases zcw3.mp h with rfl|h
  ·exact zt3 rfl
  ·rw[zt1 (fun e=>nd.1 (e▸zcx6.mpr ⟨z,h,rfl⟩))]
   exact ih nd.2 h
theorem zcf2 {zs:List (κ×Int)}(h1:∀ z∈zs,1<=z.2):∀ {k:κ},(0<=atG zs k)/\(k∈zs.map (·.1)->1<=atG zs k):=by
 induction zs with
 | nil=>exact fun {k}=>⟨Int.le_refl _,fun h=>by cases h⟩
 | cons z zs ih=>
  intro k
  obtain⟨i1,i2⟩:=ih (fun y hy=>h1 y (.tail _ hy)) (k:=k)
  have z1:=h1 z (.head _)
  rw[zai2]
  by_cases e:z.1=k
  ·rw[if_pos e]
   exact⟨by walk_at "om",fun _=>by walk_at "om"⟩
  ·rw[if_neg e]
   refine⟨by walk_at "om",fun h=>?_⟩
   rw[zcy2,zcw3] at h
   have:=i2 (h.resolve_left fun q=>e q.symm)
   omega
theorem zbb3 {p:κ->Bool}{a:κ}{c:Int}:∀ {ks:List κ},ks.Nodup->((ks.filter p).map fun k=>if a=k then c else 0).sum=if a∈ks/\p a=true then c else 0
 | [],_=>by simp
 | k :: ks,nd=>by
  rw[zdd3] at nd
  have ih:=zbb3 (p:=p) (a:=a) (c:=c) nd.2
  rw[zdd0]
  by_cases e:a=k
  ·subst e
   have:¬ (a∈ks/\p a=true):=fun h=>nd.1 h.1
   rw[if_neg this] at ih
   by_cases hp:p a=true
   ·rw[if_pos hp,zcy2,zda0,ih,if_pos rfl,if_pos ⟨.head _,hp⟩];omega
   ·rw[if_neg hp,ih,if_neg fun h=>hp h.2]
  ·have:(a∈k :: ks/\p a=true)↔(a∈ks/\p a=true):=by rw[zcw3];exact⟨fun h=>⟨h.1.resolve_left e,h.2⟩,fun h=>⟨.inr h.1,h.2⟩⟩
   have st:∀ b,(if b=true then k :: ks.filter p else ks.filter p).map (fun k=>if a=k then c else 0)=if b=true then 0 :: (ks.filter p).map (fun k=>if a=k then c else 0) else (ks.filter p).map fun k=>if a=k then c else 0:=fun b=>by
    cases b
    ·rfl
    ·show (if a=k then c else 0) :: _=_
     rw[if_neg e];rfl
   rw[st]
   have s0:(if p k=true then (0:Int) :: (ks.filter p).map (fun k=>if a=k then c else 0) else (ks.filter p).map fun k=>if a=k then c else 0).sum=((ks.filter p).map fun k=>if a=k then c else 0).sum:=by
    split
    ·rw[zda0,Int.zero_add]
    ·rfl
   rw[s0,ih]
   by_cases h:a∈ks/\p a=true
   ·rw[if_pos h,if_pos (this.mpr h)]
   ·rw[if_neg h,if_neg fun q=>h (this.mp q)]
theorem zai1 {α:Type}(f g:α->Int):∀ xs:List α,(xs.map fun x=>f x+g x).sum=(xs.map f).sum+(xs.map g).sum
 | []=>rfl
 | x :: xs=>by
  have:=zai1 f g xs
  simp only[zcy2,zda0]
  omega
theorem zbq6 {p:κ->Bool}{ks:List κ}(nd:ks.Nodup):∀ {zs:List (κ×Int)},(∀ z∈zs,z.1∈ks)->((ks.filter p).map (atG zs)).sum=((zs.filter fun z=>p z.1).map (·.2)).sum
 | [],_=>by
  have:((ks.filter p).map (atG ([]:List (κ×Int)))).sum=0:=by
   induction (ks.filter p) with
   | nil=>rfl
   | cons k l ih=>rw[zcy2,zda0,ih];rfl
  rw[this];rfl
 | z :: zs,h=>by
  have ih:=zbq6 (p:=p) nd (zs:=zs) fun y hy=>h y (.tail _ hy)
  have e:(ks.filter p).map (atG (z :: zs))=(ks.filter p).map fun k=>(if z.1=k then z.2 else 0)+atG zs k:=zcx5 fun k _=>zai2 zs z k
  rw[e,zai1,zbb3 nd,ih,zdd0]
  by_cases hp:p z.1=true
  ·rw[if_pos ⟨h z (.head _),hp⟩,if_pos hp];rfl
  ·rw[if_neg fun q=>hp q.2,if_neg hp,Int.zero_add]
end
theorem zcf9 {za zb:List (Int×Int)}(h:∀ k,valG (sumG za) k=valG (sumG zb) k):eqDI (sumG za) (sumG zb)=true:=by
 obtain⟨na,ma⟩:=zv2 za
 obtain⟨nb,mb⟩:=zv2 zb
 have keys:∀ k,k∈(sumG za).map (·.1)↔k∈(sumG zb).map (·.1):=fun k=>by
  rw[ma,mb]
  have:=h k
  rw[zaf8,zaf8] at this
  by_cases h1:k∈za.map (·.1)<;>by_cases h2:k∈zb.map (·.1)<;>simp[h1,h2] at this ⊢
 have len:=((List.perm_ext_iff_of_nodup na nb).mpr keys).length_eq
 rw[zcu6,zcu6] at len
 unfold eqDI
 rw[len,beq_self_eq_true,zcy9,zcx1]
 intro z hz
 have e:valI (sumG zb) z.1=valG (sumG zb) z.1:=rfl
 rw[e,← h,zcb0 na hz]
 exact beq_self_eq_true _
theorem zat5 {x y:Int×Int}:ltP x y=true↔x.1<y.1∨(x.1=y.1/\x.2<y.2):=by
 unfold ltP
 by_cases e:x.1=y.1
 ·rw[if_pos (by simpa using e)]
  by_cases e2:x.2=y.2
  ·rw[if_pos (by simpa using e2)]
   exact⟨fun h=>by (cases h),fun h=>by walk_at "om"⟩
  ·rw[if_neg (by simpa using e2),decide_eq_true_iff];omega
 ·rw[if_neg (by simpa using e),decide_eq_true_iff];omega
def zac6 (z:Int×Int×Int):PyData:=.tuple [.int z.1,.int z.2.1,.int z.2.2]
def zk2 (xs:List (Int×Int×Int)):PyData:=.list (xs.map zac6)
def stmD (xss:List (List (Int×Int×Int))):PyData:=.list (xss.map zk2)
theorem zad9 (xs:List (Int×Int×Int)):rowF (zk2 xs)=xs:=by
 unfold rowF zk2
 show (xs.map zac6).map triD=xs
 rw[zcy1]
 exact (zcx5 fun x _=>rfl).trans (List.map_id _)
theorem zw8 {ns:List Int}(nn:∀ n∈ns,0<=n) {i:Nat}(hi:i<ns.length):0<=ns.getD i 0/\ns.getD i 0<=(ns.drop i).sum/\(ns.drop i).sum - ns.getD i 0=(ns.drop (i+1)).sum:=by
 have e:ns.drop i=ns[i] :: ns.drop (i+1):=List.drop_eq_getElem_cons hi
 have g:ns.getD i 0=ns[i]:=by rw[zcv2,zcu7 hi];rfl
 have z:=(zr3 (ns:=ns.drop (i+1)) fun n hn=>nn n (List.mem_of_mem_drop hn)).2
 rw[g,e,zda0]
 exact⟨nn _ (zdc2 hi),by walk_at "om",by walk_at "om"⟩
structure OkS (ms:List (List Int×Int)) (h:Int) (f:Nat):Prop where
 ne:1<=ms.length
 f1:1<=f
 all:∀ x∈ms,(∀ n∈x.1,0<=n)/\x.1.length=f/\x.1.sum=h/\1<=x.2
theorem zbc9 {ms:List (List Int×Int)}{i:Nat}{xs:List (Int×Int×Int)}(R:zaa1 ms i xs) {z:Int×Int×Int}(hz:z∈xs):∃ x∈ms,z.1=(x.1.drop i).sum/\z.2.1=x.1.getD i 0:=by
 have:keyT z∈(sumG (flw ms i)).map (·.1):=(R.2.1 _).mp (zcx6.mpr ⟨z,hz,rfl⟩)
 rw[(zv2 _).2,zcx6] at this
 obtain⟨y,hy,ey⟩:=this
 unfold flw at hy
 obtain⟨x,hx,rfl⟩:=zcx6.mp hy
 have ey:((x.1.drop i).sum,x.1.getD i 0)=(z.1,z.2.1):=ey
 exact⟨x,hx,(congrArg Prod.fst ey).symm,(congrArg Prod.snd ey).symm⟩
theorem zah8 {ms:List (List Int×Int)}{h:Int}{f i:Nat}{xs:List (Int×Int×Int)}(O:OkS ms h f) (hi:i<f) (R:zaa1 ms i xs) {z:Int×Int×Int}(hz:z∈xs):0<=z.2.1/\z.2.1<=z.1/\z.2.2=atG (flw ms i) (keyT z)/\1<=z.2.2:=by
 obtain⟨x,hx,e1,e2⟩:=zbc9 R hz
 obtain⟨nn,xl,_,_⟩:=O.all x hx
 obtain⟨a,b,_⟩:=zw8 nn (i:=i) (by walk_at "om")
 have v:=R.2.2 z hz
 rw[zaf8] at v
 have km:keyT z∈(flw ms i).map (·.1):=(zv2 _).2 _ |>.mp ((R.2.1 _).mp (zcx6.mpr ⟨z,hz,rfl⟩))
 rw[if_pos km] at v
 have v:=Option.some.inj v
 have w:∀ y∈flw ms i,1<=y.2:=fun y hy=>by
  unfold flw at hy
  obtain⟨x,hx,rfl⟩:=zcx6.mp hy
  exact (O.all x hx).2.2.2
 have g:=(zcf2 w (k:=keyT z)).2 km
 exact⟨by walk_at "om",by walk_at "om",v.symm,by walk_at "om"⟩
theorem zcd1 {ms:List (List Int×Int)}{h:Int}{f i:Nat}{xs:List (Int×Int×Int)}(O:OkS ms h f) (hi:i<f) (R:zaa1 ms i xs):rowD (zk2 xs)=true:=by
 show ((xs.map zac6).all zab9&&incD (xs.map zac6))=true
 rw[zcw5]
 constructor
 ·rw[zdb3,zcx1]
  intro z hz
  obtain⟨a,b,_,c⟩:=zah8 O hi R hz
  show (decide ((0:Int)<=z.1)&&decide ((0:Int)<=z.2.1/\z.2.1<=z.1)&&decide ((1:Int)<=z.2.2))=true
  rw[decide_eq_true (show (0:Int)<=z.1 by walk_at "om"),decide_eq_true (show (0:Int)<=z.2.1/\z.2.1<=z.1 from ⟨a,b⟩),decide_eq_true c];rfl
 ·unfold incD
  rw[zcu6,zcx1]
  intro j hj
  have hj:=zda2.mp hj
  have p:=List.pairwise_iff_getElem.mp R.1.2 j (j+1) (by rw[zcu6];omega) (by rw[zcu6];omega) (by walk_at "om")
  have g:∀ (j:Nat) (hj:j<xs.length),keyD ((xs.map zac6).getD j .none)=(xs.map keyT)[j]'(by rw[zcu6];exact hj):=fun j hj=>by
   rw[zcv2,zcu9,zcu7 hj,List.getElem_map];rfl
  rw[g j (by walk_at "om"),g (j+1) (by walk_at "om")]
  exact p
theorem zak0 {ms:List (List Int×Int)}{i:Nat}{xs:List (Int×Int×Int)}(R:zaa1 ms i xs) (hv:∀ z∈xs,z.2.2=atG (flw ms i) (keyT z)) (g:Int×Int->Int) (k:Int):valG (sumG (xs.map fun z=>(g (keyT z),z.2.2))) k=valG (sumG ((flw ms i).map fun z=>(g z.1,z.2))) k:=by
 rw[zaf8,zaf8]
 have mem:k∈(xs.map fun z=>(g (keyT z),z.2.2)).map (·.1)↔k∈((flw ms i).map fun z=>(g z.1,z.2)).map (·.1):=by
  rw[zcy1,zcy1,zcx6,zcx6]
  constructor
  ·rintro⟨z,hz,rfl⟩
   have:=(zv2 _).2 _ |>.mp ((R.2.1 _).mp (zcx6.mpr ⟨z,hz,rfl⟩))
   obtain⟨y,hy,ey⟩:=zcx6.mp this
   exact⟨y,hy,congrArg g ey⟩
  ·rintro⟨y,hy,rfl⟩
   have:y.1∈xs.map keyT:=(R.2.1 _).mpr ((zv2 _).2 _ |>.mpr (zcx6.mpr ⟨y,hy,rfl⟩))
   obtain⟨z,hz,ez⟩:=zcx6.mp this
   exact⟨z,hz,congrArg g ez⟩
 have at1:atG (xs.map fun z=>(g (keyT z),z.2.2)) k=(((xs.map keyT).filter fun q=>decide (g q=k)).map (atG (flw ms i))).sum:=by
  unfold atG
  rw[List.filter_map,List.filter_map,zcy1,zcy1]
  refine congrArg List.sum (zcx5 fun z hz=>?_)
  exact hv z (List.mem_filter.mp hz).1
 have at2:atG ((flw ms i).map fun z=>(g z.1,z.2)) k=(((flw ms i).filter fun z=>decide (g z.1=k)).map (·.2)).sum:=by
  unfold atG
  rw[List.filter_map,zcy1]
  rfl
 rw[at1,at2,zbq6 (p:=fun q=>decide (g q=k)) R.1.1 fun z hz=>(R.2.1 _).mpr ((zv2 _).2 _ |>.mpr (zcx6.mpr ⟨z,hz,rfl⟩))]
 by_cases h:k∈(xs.map fun z=>(g (keyT z),z.2.2)).map (·.1)
 ·rw[if_pos h,if_pos (mem.mp h)]
 ·rw[if_neg h,if_neg fun q=>h (mem.mpr q)]
theorem zbm8 {ms:List (List Int×Int)}{h:Int}{f i:Nat}{xs ys:List (Int×Int×Int)}(O:OkS ms h f) (hi:i+1<f) (R1:zaa1 ms i xs) (R2:zaa1 ms (i+1) ys):zal2 (zk2 xs) (zk2 ys)=true:=by
 unfold zal2
 rw[zad9,zad9]
 refine zcf9 fun k=>?_
 have a:=zak0 R1 (fun z hz=>(zah8 O (by walk_at "om") R1 hz).2.2.1) (fun q=>q.1 - q.2) k
 have b:=zak0 R2 (fun z hz=>(zah8 O hi R2 hz).2.2.1) (fun q=>q.1) k
 have e:((flw ms i).map fun z=>(z.1.1 - z.1.2,z.2))=(flw ms (i+1)).map fun z=>(z.1.1,z.2):=by
  unfold flw
  rw[zcy1,zcy1]
  refine zcx5 fun x hx=>?_
  obtain⟨nn,xl,_,_⟩:=O.all x hx
  obtain⟨_,_,c⟩:=zw8 nn (i:=i) (by walk_at "om")
  show ((x.1.drop i).sum - x.1.getD i 0,x.2)=((x.1.drop (i+1)).sum,x.2)
  rw[c]
 have a:valG (sumG (xs.map fun z=>(z.1 - z.2.1,z.2.2))) k=valG (sumG ((flw ms i).map fun z=>(z.1.1 - z.1.2,z.2))) k:=a
 have b:valG (sumG (ys.map fun z=>(z.1,z.2.2))) k=valG (sumG ((flw ms (i+1)).map fun z=>(z.1.1,z.2))) k:=b
 rw[a,e,b]
theorem stm_ok {ms:List (List Int×Int)}{h:Int}{f:Nat}{xss:List (List (Int×Int×Int))}(O:OkS ms h f) (S:zbb9 ms f xss):zw6 h f (stmD xss)=true:=by
 have f1:=O.f1
 have gd:∀ (i:Nat) (hi:i<xss.length),(xss.map zk2).getD i .none=zk2 xss[i]:=fun i hi=>by
  rw[zcv2,zcu9,zcu7 hi];rfl
 have ri:∀ (i:Nat) (hi:i<xss.length),zaa1 ms i xss[i]:=fun i hi=>(S.2 i _ (zcu7 hi)).1
 have sl:=S.1
 have l0:0<xss.length:=by walk_at "om"
 have r0:=ri 0 l0
 obtain⟨x0,ex0⟩:∃ x,ms[0]?=some x:=⟨_,zcu7 (by have:=O.ne;omega)⟩
 have n0:0<(xss[0]).length:=by
  have:((x0.1.drop 0).sum,x0.1.getD 0 0)∈(xss[0]).map keyT:=(r0.2.1 _).mpr ((zv2 _).2 _ |>.mpr (by
   unfold flw
   rw[zcy1]
   exact zcx6.mpr ⟨x0,zcv1 ex0,rfl⟩))
  obtain⟨z,hz,_⟩:=zcx6.mp this
  exact List.length_pos_of_mem hz
 have items:zc6 (stmD xss)=xss.map zk2:=rfl
 unfold zw6
 rw[items]
 have b:zq0 (stmD xss)=true:=by
  show (decide (0<(xss.map zk2).length)&&rowD ((xss.map zk2).getD 0 .none)&&decide (0<(zc6 ((xss.map zk2).getD 0 .none)).length))=true
  rw[gd 0 l0,zcu6,decide_eq_true l0,zcd1 O (by walk_at "om") r0]
  show (true&&true&&decide (0<((xss[0]).map zac6).length))=true
  rw[zcu6,decide_eq_true n0];rfl
 have c1:decide ((((xss.map zk2).length:Nat):Int)=(f:Int))=true:=decide_eq_true (by rw[zcu6,sl])
 have c2:(xss.map zk2).all rowD=true:=by
  rw[zdb3,zcx1]
  intro xs hx
  obtain⟨i,ei⟩:=zdb0 hx
  exact zcd1 O (by have:=(zcv3.mp ei).1;omega) (S.2 i xs ei).1
 have c3:zbu3 h ((xss.map zk2).getD 0 .none)=true:=by
  rw[gd 0 l0]
  unfold zbu3
  rw[zad9,zcx1]
  intro z hz
  obtain⟨x,hx,e1,_⟩:=zbc9 r0 hz
  rw[e1,List.drop_zero]
  exact decide_eq_true (O.all x hx).2.2.1
 have c4:goneD ((xss.map zk2).getD ((xss.map zk2).length - 1) .none)=true:=by
  rw[zcu6,gd (xss.length - 1) (by walk_at "om")]
  unfold goneD
  rw[zad9,zcx1]
  intro z hz
  obtain⟨x,hx,e1,e2⟩:=zbc9 (ri _ (by walk_at "om")) hz
  obtain⟨nn,xl,_,_⟩:=O.all x hx
  obtain⟨_,_,c⟩:=zw8 nn (i:=xss.length - 1) (by walk_at "om")
  rw[List.drop_of_length_le (i:=xss.length - 1+1) (by walk_at "om")] at c
  have:([]:List Int).sum=0:=rfl
  rw[e1,e2]
  exact decide_eq_true (by walk_at "om")
 have c5:zal5 (xss.map zk2)=true:=by
  unfold zal5
  rw[zcu6,zcx1]
  intro i hi
  have hi:=zda2.mp hi
  rw[gd i (by walk_at "om"),gd (i+1) (by walk_at "om")]
  exact zbm8 O (by walk_at "om") (ri i (by walk_at "om")) (ri (i+1) (by walk_at "om"))
 rw[b,c1,c2,c3,c4,c5];rfl
theorem RwAt.shL {H:Hp}{p:Addr}{bs:List Addr}{xs:List (Int×Int×Int)}(R:RwAt H p bs xs):ShL H (bs.map V.ref) (xs.map zac6):=ShL.idx (by rw[zcu6,zcu6,R.len]) fun i x d h1 h2=>by
 rw[zcu9] at h1 h2
 obtain⟨b,eb,rfl⟩:=zcv4.mp h1
 obtain⟨z,ez,rfl⟩:=zcv4.mp h2
 exact .tup (R.row i b z eb ez) (.cons (.int _) (.cons (.int _) (.cons (.int _) .nil)))
theorem RwAt.sh {H:Hp}{p:Addr}{bs:List Addr}{xs:List (Int×Int×Int)}(R:RwAt H p bs xs):ShV H (.ref p) (zk2 xs):=.lst R.out R.shL
theorem StAt.sh {H:Hp}{p:Addr}{rs:List (Addr×List Addr)}{xss:List (List (Int×Int×Int))}(R:StAt H p rs xss):ShV H (.ref p) (stmD xss):=.lst R.out (ShL.idx (by rw[zcu6,zcu6,R.len]) fun i x d h1 h2=>by
 rw[zcu9] at h1 h2
 obtain⟨b,eb,rfl⟩:=zcv4.mp h1
 obtain⟨z,ez,rfl⟩:=zcv4.mp h2
 exact ((R.row i b z eb ez).same (zb9 _ _)).sh)
def row7 (c:Bool) (xs:List (Int×Int×Int)):PyData:=.list (xs.map zac6++if c=true then [.int 7] else [])
theorem row7_F (xs:List (Int×Int×Int)):row7 false xs=zk2 xs:=by unfold row7 zk2;rw[if_neg zcw2,List.append_nil]
theorem tri_ok (z:Int×Int×Int):okD 1 (zac6 z):=okD.tuple (n:=0) (by show 3<=1000;decide) fun d hd=>by
 simp only[zcw3,zcx3,or_false] at hd
 rcases hd with rfl|rfl|rfl<;>exact⟨rfl,rfl,zcz3 _⟩
theorem zcg5 {c:Bool}{xs:List (Int×Int×Int)}(h:xs.length<64):okD 2 (row7 c xs):=okD.list (n:=1) (by rw[zcv9,zcu6];split<;>simp<;>omega) fun d hd=>by
 rcases zcy0.mp hd with hd|hd
 ·obtain⟨z,_,rfl⟩:=zcx6.mp hd;exact tri_ok z
 ·split at hd
  ·rw[zcz7.mp hd];exact⟨rfl,rfl,zcz3 _⟩
  ·cases hd
theorem zcg8 {c:Bool}{xss:List (List (Int×Int×Int))}(hl:xss.length<64) (h:∀ xs∈xss,xs.length<64):okD 3 (.list (xss.map (row7 c))):=okD.list (n:=2) (by rw[zcu6];omega) fun d hd=>by
 obtain⟨xs,hx,rfl⟩:=zcx6.mp hd
 exact zcg5 (h xs hx)
theorem zbx8 (xss:List (List (Int×Int×Int))):stmD xss=.list (xss.map (row7 false)):=by
 unfold stmD
 rw[zcx5 fun xs _=>(row7_F xs).symm]
def zl7 (x:List Int×Int):PyData:=.tuple [.list (x.1.map PyData.int),.int x.2]
def zv1 (ms:List (List Int×Int)):PyData:=.list (ms.map zl7)
theorem zcg9 {H:Hp}{p:Addr}{ns:List Int}(h:H p=some (.lst (ns.map V.int))):ShV H (.ref p) (.list (ns.map PyData.int)):=.lst h (ShL.idx (by rw[zcu6,zcu6]) fun i x d h1 h2=>by
 rw[zcu9] at h1 h2
 obtain⟨n,en,rfl⟩:=zcv4.mp h1
 rw[en] at h2
 cases h2
 exact .int n)
theorem ze3.sh {H:Hp}{m:Addr}{ts:List (Addr×Addr)}{ms:List (List Int×Int)}(M:ze3 H m ts ms):ShV H (.ref m) (zv1 ms):=.lst M.out (ShL.idx (by rw[zcu6,zcu6,M.len]) fun i x d h1 h2=>by
 obtain⟨t,y,rfl,e1,e2,e3,e4⟩:=M.elt h1
 rw[zcu9,e2] at h2
 cases h2
 exact .tup e3 (.cons (zcg9 e4) (.cons (.int _) .nil)))
theorem zae7 (ms:List (List Int×Int)):msD (zv1 ms)=ms:=by
 unfold msD zv1
 show (ms.map zl7).map _=ms
 rw[zcy1]
 exact (zcx5 fun x _=>by show (zak5 (zq5 (zl7 x)),x.2)=x;unfold zl7;rw[zu1]).trans (List.map_id _)
theorem zay2 {ms:List (List Int×Int)}{x:List Int×Int}(e:ms[0]?=some x):zp6 (ms.map zl7)=x.1:=by
 unfold zp6
 rw[getD_some (d:=zl7 x) (by rw[zcu9,e];rfl)]
 exact zu1 x.1 x.2
theorem zbn5 {ms:List (List Int×Int)}{h:Int}{f:Nat}(O:OkS ms h f) (hh:0<=h/\h<=40) (hf:f<=8):mixD (zv1 ms)=true/\zv6 (zv1 ms)=f:=by
 obtain⟨x0,ex0⟩:∃ x,ms[0]?=some x:=⟨_,zcu7 (by have:=O.ne;omega)⟩
 obtain⟨_,l0,s0,_⟩:=O.all x0 (zcv1 ex0)
 have f1:=O.f1
 refine⟨?_,by unfold zv6 zv1;show (zp6 (ms.map zl7)).length=f;rw[zay2 ex0,l0]⟩
 unfold zv1
 rw[zy3,zay2 ex0,l0,s0]
 have a1:(ms.map zl7).all zx1=true:=by
  rw[zdb3,zcx1]
  intro x hx
  obtain⟨nn,_,_,w⟩:=O.all x hx
  show ((x.1.map PyData.int).all (zr0 0)&&decide ((1:Int)<=x.2))=true
  rw[zdb3,show x.1.all (zr0 0∘PyData.int)=true from zcx1.mpr fun y hy=>decide_eq_true (nn y hy),decide_eq_true w];rfl
 have a2:zx4 h f=true:=by
  unfold zx4
  rw[decide_eq_true hh,decide_eq_true (show (1:Int)<=(f:Int)/\(f:Int)<=8 by walk_at "om")];rfl
 have a3:((ms.map zl7).all fun d=>zx9 h f (zq5 d))=true:=by
  rw[zdb3,zcx1]
  intro x hx
  obtain⟨nn,xl,xs,w⟩:=O.all x hx
  show (zx9 h f (zq5 (zl7 x)))=true
  unfold zx9
  have e1:zv3 (zq5 (zl7 x))=true:=by
   show (x.1.map PyData.int).all (zr0 0)=true
   rw[zdb3]
   exact zcx1.mpr fun y hy=>decide_eq_true (nn y hy)
  have e2:zak5 (zq5 (zl7 x))=x.1:=zu1 x.1 x.2
  rw[e1,e2,decide_eq_true (show (x.1.length:Int)=(f:Int) by walk_at "om"),decide_eq_true xs];rfl
 rw[decide_eq_true (show (ms.map zl7).length≠0 by rw[zcu6];have:=O.ne;omega),a1,a2,a3];rfl
def zo7 (d:PyData):Int:=((rowF ((zc6 d).getD 0 .none)).getD 0 (0,0,0)).1
def zx5 (d:PyData):Bool:=zq0 d&&(zx4 (zo7 d) (zc6 d).length&&zw6 (zo7 d) (zc6 d).length d)
theorem zay7 {H:Hp}{v:V}{d:PyData}(h:ShV H v d) (e:zq0 d=true):∃ (a r t:Addr) (xs:List V) (ds:List PyData) (ts:List Addr) (j w:Int),v=.ref a/\d=.list ds/\H a=some (.lst xs)/\xs.length=ds.length/\1<=ds.length/\xs[0]?=some (.ref r)/\H r=some (.lst (ts.map V.ref))/\ts[0]?=some t/\H t=some (.tup [.int (zo7 d),.int j,.int w]):=by
 cases h
 case lst a xs ds e1 l=>
  have e:(decide (0<ds.length)&&rowD (ds.getD 0 .none)&&decide (0<(zc6 (ds.getD 0 .none)).length))=true:=e
  rw[zcw5,zcw5,decide_eq_true_eq,decide_eq_true_eq] at e
  obtain⟨⟨h0,h1⟩,h2⟩:=e
  have ll:=l.len
  obtain⟨x0,ex0⟩:∃ x,xs[0]?=some x:=⟨_,zcu7 (by walk_at "om")⟩
  obtain⟨d0,ed0,hd0⟩:=l.get 0 x0 ex0
  rw[getD_some ed0] at h1 h2
  obtain⟨r,ts,es,rfl,rfl,hr,hl,hp,_⟩:=zan3 hd0 h1
  have h2:0<es.length:=h2
  obtain⟨t,et⟩:∃ t,ts[0]?=some t:=⟨_,zcu7 (by walk_at "om")⟩
  obtain⟨z,ez⟩:∃ z,(rowF (.list es))[0]?=some z:=⟨_,zcu7 (by rw[zl8];omega)⟩
  have eh:zo7 (.list ds)=z.1:=by
   show ((rowF (ds.getD 0 .none)).getD 0 (0,0,0)).1=z.1
   rw[getD_some ed0,zcv2,ez];rfl
  refine⟨a,r,t,xs,ds,ts,z.2.1,z.2.2,rfl,rfl,e1,ll,h0,ex0,hr,et,?_⟩
  rw[eh]
  exact hp 0 t z et ez
 all_goals simp[zq0] at e
@[irreducible] def zm7:Sp:=fun vs H Q _=>∃ (v:V) (d:PyData),vs=[v]/\ShV H v d/\zq0 d=true/\Q (.int (zo7 d)) H
theorem zab6 {H:Hp}{v:V}{d:PyData}{Q:VK}{E:XK}(h:ShV H v d) (e:zq0 d=true) (q:Q (.int (zo7 d)) H):zm7 [v] H Q E:=by unfold zm7;exact⟨v,d,rfl,h,e,q⟩
theorem zbb1 {f:Addr}{fd:FuncData}(F:Fun K "hosts_in" "hosts_in" zu3 f fd) (N:Nm mg):FnOk P w K mg base CX0 1 f fd ["stream"] zm7:=by
 refine F.ok zbc0 (fun vs H Q E h=>by unfold zm7 at h;obtain⟨_,_,rfl,_⟩:=h;rfl) (fun cdv A outer s H vs Q E hr h=>?_)
 unfold zm7 at h
 obtain⟨v,d,rfl,h,e,q⟩:=h
 refine⟨_,(za6 (zb0 (zb8 (K:=K) rfl (zb8 (K:=K) rfl (zb8 (K:=K) rfl (pq 0) za2) za2) za2))),?_⟩
 obtain⟨a,r,t,xs,ds,ts,j,w,rfl,_,ha,_,_,hx,hr',ht,htt⟩:=zay7 h e
 refine zg6 (v:=.ref r) ha (zl6 (j:=0) hx) ?_
 refine zg6 (v:=.ref t) hr' (zl6 (j:=0) (by rw[zcu9,ht];rfl)) ?_
 refine zb6 (v:=.int (zo7 d)) htt rfl ?_
 walk_at "wh"
 exact q
@[irreducible] def zg4:Sp:=fun vs H Q _=>∃ (v:V) (d:PyData),vs=[v]/\ShV H v d/\sml d=true/\∀ H',Same H H'->Q (.bl (zx5 d)) H'
theorem any_rd {H:Hp}{v:V}{d:PyData}{Q:VK}{E:XK}(h:ShV H v d) (hs:sml d=true) (q:∀ H',Same H H'->Q (.bl (zx5 d)) H'):zg4 [v] H Q E:=by unfold zg4;exact⟨v,d,rfl,h,hs,q⟩
theorem zah2 {f:Addr}{fd:FuncData}(F:Fun K "is_any_stream" "is_any_stream" zj7 f fd) (N:Nm mg) (zcr5:Def P w K mg base CX0 6 "begins" ["stream"] zs3) (zco7:Def P w K mg base CX0 1 "hosts_in" ["stream"] zm7) (zcq5:Def P w K mg base CX0 4 "is_size" ["hosts","fields"] zo8) (zcr7:Def P w K mg base CX0 7 "is_stream" ["hosts","fields","stream"] zm2):FnOk P w K mg base CX0 8 f fd ["stream"] zg4:=by
 refine F.ok zah4 (fun vs H Q E h=>by unfold zg4 at h;obtain⟨_,_,rfl,_⟩:=h;rfl) (fun cdv A outer s H vs Q E hr h=>?_)
 unfold zg4 at h
 obtain⟨v,d,rfl,h,hs,q⟩:=h
 have hu:=hu40 hr
 refine⟨_,(za4 (psIf (ptW (pwOr (zm0 (ptV (pD zcr5 hr zb5 (za0 (pq 0) za1)))) (zaa8 (zm0 (ptV (pD zcq5 hr zb5 (za0 (pD zco7 hr zb5 (za0 (pq 0) za1)) (za0 (pB (zq4 (K:=K) rfl) N.len_ zj3 (za0 (pq 0) za1)) za1)))))))) (za6 (zb0 zx8)) zc2)
   (za6 (zb0 (pD zcr7 hr zb5 (za0 (pD zco7 hr zb5 (za0 (pq 0) za1)) (za0 (pB (zq4 (K:=K) rfl) N.len_ zj3 (za0 (pq 0) za1)) (za0 (pq 0) za1))))))),?_⟩
 unfold zx5 at q
 refine zap4 h hs (fun H1 s1=>?_)
 have q:=fun H' s'=>q H' (s1.trans s')
 have h1:=h.same s1
 cases eb:zq0 d
 ·have q:=q _ (Same.refl _)
  rw[eb] at q
  refine zd6 (br_F ?_)
  refine br_T ?_
  walk_at "wh"
  exact q
 rw[eb,zcy9] at q
 obtain⟨a,r,t,xs,ds,ts,j,w,rfl,rfl,ha,hl,_⟩:=zay7 h1 eb
 have q:∀ H',Same H1 H'->Q (.bl (zx4 (zo7 (.list ds)) ds.length&&zw6 (zo7 (.list ds)) ds.length (.list ds))) H':=q
 refine zd6 (br_T ?_)
 refine zab6 h1 eb ?_
 refine zh4 ha ?_
 rw[hl]
 refine zbg2 ?_
 cases ez:zx4 (zo7 (.list ds)) ds.length
 ·have q:=q _ (Same.refl _)
  rw[ez] at q
  refine zd6 (br_F ?_)
  walk_at "wh"
  exact q
 rw[ez,zcy9] at q
 refine zd6 (br_T ?_)
 refine zab6 h1 eb ?_
 refine zh4 ha ?_
 rw[hl]
 refine zbi9 h1 hs (fun H2 s2=>?_)
 walk_at "wh"
 exact q _ s2
theorem zcd5 {ms:List (List Int×Int)}{h:Int}{f:Nat}{xss:List (List (Int×Int×Int))}(O:OkS ms h f) (S:zbb9 ms f xss) (hz:zx4 h f=true):zx5 (stmD xss)=true/\zo7 (stmD xss)=h:=by
 have st:=stm_ok O S
 have st':=st
 unfold zw6 at st'
 rw[zcw5,zcw5,zcw5,zcw5] at st'
 obtain⟨b,_,_,fu,_⟩:=st'
 have il:((zc6 (stmD xss)).length:Int)=f:=by
  show (((xss.map zk2).length:Nat):Int)=f
  rw[zcu6,S.1]
 have eh:zo7 (stmD xss)=h:=by
  have b:(decide (0<(zc6 (stmD xss)).length)&&rowD ((zc6 (stmD xss)).getD 0 .none)&&decide (0<(zc6 ((zc6 (stmD xss)).getD 0 .none)).length))=true:=b
  rw[zcw5,decide_eq_true_eq] at b
  unfold zbu3 at fu
  have fu:=zcx1.mp fu
  unfold zo7
  have ll:0<(rowF ((zc6 (stmD xss)).getD 0 .none)).length:=by unfold rowF;rw[zcu6];exact b.2
  generalize rowF ((zc6 (stmD xss)).getD 0 .none)=ys at fu ll ⊢
  have:=fu (ys.getD 0 (0,0,0)) (by rw[zcv2,zcu7 ll];exact zdc2 _)
  exact of_decide_eq_true this
 refine⟨?_,eh⟩
 unfold zx5
 rw[eh,il,b,hz,st];rfl
@[irreducible] def zi9:Sp:=fun vs H Q _=>∃ (v:V) (d:PyData),vs=[v]/\ShV H v d/\sml d=true/\zx5 d=true/\∀ H',Same H H'->Q .non H'
theorem zan5 {H:Hp}{v:V}{d:PyData}{Q:VK}{E:XK}(h:ShV H v d) (hs:sml d=true) (e:zx5 d=true) (q:∀ H',Same H H'->Q .non H'):zi9 [v] H Q E:=by unfold zi9;exact⟨v,d,rfl,h,hs,e,q⟩
theorem zao1 {f:Addr}{fd:FuncData}(F:Fun K "look_stream" "look_stream" zn4 f fd) (N:Nm mg) (zcp7:Def P w K mg base CX0 8 "is_any_stream" ["stream"] zg4) (Z:Cz K mg base zcl8 zcl5 zcm7 zcl6 zcl9 zcm8 zcm2 zcm0 zcm1 zcm9 zcn0 zcn3 zcn1 zcm3 zcm6):FnOk P w K mg base CX0 9 f fd ["stream"] zi9:=by
 refine F.ok zao5 (fun vs H Q E h=>by unfold zi9 at h;obtain⟨_,_,rfl,_⟩:=h;rfl) (fun cdv A outer s H vs Q E hr h=>?_)
 unfold zi9 at h
 obtain⟨v,d,rfl,h,hs,e,q⟩:=h
 have hu:=hu40 hr
 refine⟨_,(za6 (psIf (zm0 (ptV (pD zcp7 hr zb5 (za0 (pq 0) za1)))) (za6 zbf4) zc2)),?_⟩
 refine any_rd h hs (fun H1 s1=>?_)
 rw[e]
 refine zd6 (br_T ?_)
 walk_at "wh"
 exact q _ s1
theorem zck9 (n:Nat):((List.range n).map fun _=>V.bl true)=((List.range n).map fun _=>true).map V.bl:=by rw[zcy1];rfl
theorem zcb7 (n:Nat):((List.range n).map fun _=>true).all id=true:=by rw[zdb3];exact zbi1 n
inductive Fd where
 | more (w t:Int)
 | lead (w l:Int)
 | tab (g:Nat->Nat->Int)
def Fd.won:Fd->Nat->Nat->Int
 | .more w t,x,y=>if x=y then t else if y<x then w else -w
 | .lead w l,x,y=>if l<=(x:Int) - y then w else -w
 | .tab g,x,y=>g x y
def Fd.Ok:Fd->Prop
 | .more w t=>1<=w/\-w<=t/\t<=w
 | .lead w _=>1<=w
 | .tab _=>True
def FdAt (H:Hp) (p:Addr) (a c:Nat):Fd->Prop
 | .more w t=>H p=some (.tup [.str "more",.int w,.int t])
 | .lead w l=>H p=some (.tup [.str "lead",.int w,.int l])
 | .tab g=>∃ q ps,H p=some (.tup [.str "table",.ref q])/\zan0 H q ps (a+1) (c+1) g
theorem FdAt.same {H H':Hp}{p:Addr}{a c:Nat}{f:Fd}(F:FdAt H p a c f) (s:Same H H'):FdAt H' p a c f:=by
 cases f with
 | more w t=>exact s _ _ F
 | lead w l=>exact s _ _ F
 | tab g=>
  obtain⟨q,ps,h1,h2⟩:=F
  exact⟨q,ps,s _ _ h1,h2.same s⟩
theorem FdAt.some {H:Hp}{p:Addr}{a c:Nat}{f:Fd}(F:FdAt H p a c f):∃ xs,H p=some (.tup xs):=by
 cases f with
 | more w t=>exact⟨_,F⟩
 | lead w l=>exact⟨_,F⟩
 | tab g=>
  obtain⟨q,ps,h1,h2⟩:=F
  exact⟨_,h1⟩
structure zq3 (H:Hp) (b l:Addr) (ps:List Addr) (a c:Nat) (fs:List Fd):Prop where
 out:H b=some (.tup [.int a,.int c,.ref l])
 lst:H l=some (.lst (ps.map V.ref))
 len:ps.length=fs.length
 fld:∀ (i:Nat) p f,ps[i]?=some p->fs[i]?=some f->FdAt H p a c f/\f.Ok
abbrev OkB (a c:Nat) (fs:List Fd):Prop:=(a<=10/\c<=10)/\1<=fs.length/\fs.length<=5
theorem zq3.same {H H':Hp}{b l:Addr}{ps:List Addr}{a c:Nat}{fs:List Fd}(B:zq3 H b l ps a c fs) (s:Same H H'):zq3 H' b l ps a c fs:=⟨s _ _ B.out,s _ _ B.lst,B.len,fun i p f h1 h2=>⟨(B.fld i p f h1 h2).1.same s,(B.fld i p f h1 h2).2⟩⟩
theorem zq3.elt {H:Hp}{b l:Addr}{ps:List Addr}{a c:Nat}{fs:List Fd}(B:zq3 H b l ps a c fs) {i:Nat}{v:V}(e:(ps.map V.ref)[i]?=some v):∃ p f,v=.ref p/\ps[i]?=some p/\fs[i]?=some f/\FdAt H p a c f/\f.Ok:=by
 rw[zcu9] at e
 obtain⟨p,ep,rfl⟩:=zcv4.mp e
 obtain⟨f,ef⟩:∃ f,fs[i]?=some f:=⟨_,zcu7 (by have:=(zcv3.mp ep).1;have:=B.len;omega)⟩
 exact⟨p,f,rfl,ep,ef,B.fld i p f ep ef⟩
@[irreducible] def zm3:Sp:=fun vs H Q _=>∃ x y:Int,vs=[.int x,.int y]/\Q (.bl (decide ((0<=x/\x<=10)/\0<=y/\y<=10))) H
theorem zaz5 {H:Hp}{x y:Int}{Q:VK}{E:XK}(q:Q (.bl (decide ((0<=x/\x<=10)/\0<=y/\y<=10))) H):zm3 [.int x,.int y] H Q E:=by unfold zm3;exact⟨x,y,rfl,q⟩
theorem zau8 {f:Addr}{fd:FuncData}(F:Fun K "are_hosts" "are_hosts" zr5 f fd) (N:Nm mg) {zco1:Tok}(c_MOST_HOSTS_fields:mg "MOST_HOSTS_fields"=some (.int 10 zco1)) (zcm4:Def P w K mg base CX0 3 "is_between" ["thing","least","most"] ze4):FnOk P w K mg base CX0 4 f fd ["first","second"] zm3:=by
 refine F.ok zay6 (fun vs H Q E h=>by unfold zm3 at h;obtain⟨_,_,rfl,_⟩:=h;rfl) (fun cdv A outer s H vs Q E hr h=>?_)
 unfold zm3 at h
 obtain⟨x,y,rfl,q⟩:=h
 refine⟨_,(za6 (zb0 (zs8 (pD zcm4 hr zb5 (za0 (pq 0) (za0 za2 (za0 (zk5 (v:=.int 10) rfl c_MOST_HOSTS_fields ⟨_,rfl⟩) za1)))) (zs2 (pD zcm4 hr zb5 (za0 (pq 1) (za0 za2 (za0 (zk5 (v:=.int 10) rfl c_MOST_HOSTS_fields ⟨_,rfl⟩) za1)))))))),?_⟩
 refine zax8 ?_
 refine ze9 (fun h=>?_) (fun h=>?_)
 ·walk_at "wh"
  refine zax8 ?_
  walk_at "wh"
  rw[zah9 h] at q
  exact q
 ·walk_at "wh"
  rw[zai4 h] at q
  exact q
inductive Fx where
 | flat (w:Str) (zs:List Int)
 | tab (rows:List (List Int))
structure zaa5 (H:Hp) (q:Addr) (ps:List Addr) (rows:List (List Int)):Prop where
 out:H q=some (.lst (ps.map V.ref))
 len:ps.length=rows.length
 row:∀ (i:Nat) p r,ps[i]?=some p->rows[i]?=some r->H p=some (.lst (r.map V.int))
theorem zaa5.same {H H':Hp}{q:Addr}{ps:List Addr}{rows:List (List Int)}(R:zaa5 H q ps rows) (s:Same H H'):zaa5 H' q ps rows:=⟨s _ _ R.out,R.len,fun i p r h1 h2=>s _ _ (R.row i p r h1 h2)⟩
theorem zaa5.elt {H:Hp}{q:Addr}{ps:List Addr}{rows:List (List Int)}(R:zaa5 H q ps rows) {i:Nat}{v:V}(e:(ps.map V.ref)[i]?=some v):∃ p r,v=.ref p/\ps[i]?=some p/\rows[i]?=some r/\H p=some (.lst (r.map V.int)):=by
 rw[zcu9] at e
 obtain⟨p,ep,rfl⟩:=zcv4.mp e
 obtain⟨r,er⟩:∃ r,rows[i]?=some r:=⟨_,zcu7 (by have:=(zcv3.mp ep).1;have:=R.len;omega)⟩
 exact⟨p,r,rfl,ep,er,R.row i p r ep er⟩
def FxAt (H:Hp) (p:Addr):Fx->Prop
 | .flat w zs=>H p=some (.tup (.str w :: zs.map V.int))
 | .tab rows=>∃ q ps,H p=some (.tup [.str "table",.ref q])/\zaa5 H q ps rows
def Fx.Gd:Fx->Prop
 | .flat w zs=>w≠"table"/\zs.length<=10
 | .tab rows=>rows.length<=100/\∀ r∈rows,r.length<=100
theorem FxAt.same {H H':Hp}{p:Addr}{f:Fx}(F:FxAt H p f) (s:Same H H'):FxAt H' p f:=by
 cases f with
 | flat w zs=>exact s _ _ F
 | tab rows=>
  obtain⟨q,ps,h1,h2⟩:=F
  exact⟨q,ps,s _ _ h1,h2.same s⟩
def isF (a c:Int):Fx->Bool
 | .flat w [x,y]=>if w="more" then decide (1<=x/\-x<=y/\y<=x) else if w="lead" then decide (1<=x) else false
 | .flat _ _=>false
 | .tab rows=>decide ((rows.length:Int)=a+1)&&rows.all fun r=>decide ((r.length:Int)=c+1)
structure BxAt (H:Hp) (b l:Addr) (ps:List Addr) (a c:Int) (fs:List Fx):Prop where
 out:H b=some (.tup [.int a,.int c,.ref l])
 lst:H l=some (.lst (ps.map V.ref))
 len:ps.length=fs.length
 fld:∀ (i:Nat) p f,ps[i]?=some p->fs[i]?=some f->FxAt H p f/\f.Gd
theorem BxAt.same {H H':Hp}{b l:Addr}{ps:List Addr}{a c:Int}{fs:List Fx}(B:BxAt H b l ps a c fs) (s:Same H H'):BxAt H' b l ps a c fs:=⟨s _ _ B.out,s _ _ B.lst,B.len,fun i p f h1 h2=>⟨(B.fld i p f h1 h2).1.same s,(B.fld i p f h1 h2).2⟩⟩
theorem BxAt.elt {H:Hp}{b l:Addr}{ps:List Addr}{a c:Int}{fs:List Fx}(B:BxAt H b l ps a c fs) {i:Nat}{v:V}(e:(ps.map V.ref)[i]?=some v):∃ p f,v=.ref p/\ps[i]?=some p/\fs[i]?=some f/\FxAt H p f/\f.Gd:=by
 rw[zcu9] at e
 obtain⟨p,ep,rfl⟩:=zcv4.mp e
 obtain⟨f,ef⟩:∃ f,fs[i]?=some f:=⟨_,zcu7 (by have:=(zcv3.mp ep).1;have:=B.len;omega)⟩
 exact⟨p,f,rfl,ep,ef,B.fld i p f ep ef⟩
abbrev Sz (a c:Int) (n:Nat):Prop:=((0<=a/\a<=10)/\0<=c/\c<=10)/\1<=n/\n<=5
def BadB (H:Hp) (b:Addr) (k:Int):Prop:=∃ l ps a c fs,BxAt H b l ps a c fs/\fs.length<=100 /\
 ((¬ Sz a c fs.length/\k=-1)∨(Sz a c fs.length/\∃ (j:Nat) (f:Fx),k=j/\fs[j]?=some f/\isF a c f=false/\∀ (i:Nat) g,i<j->fs[i]?=some g->isF a c g=true))
theorem BadB.same {H H':Hp}{b:Addr}{k:Int}(B:BadB H b k) (s:Same H H'):BadB H' b k:=by
 obtain⟨l,ps,a,c,fs,B,r⟩:=B
 exact⟨l,ps,a,c,fs,B.same s,r⟩
def toFx (a c:Nat):Fd->Fx
 | .more w t=>.flat "more" [w,t]
 | .lead w l=>.flat "lead" [w,l]
 | .tab g=>.tab ((List.range (a+1)).map fun x=>(List.range (c+1)).map (g x))
theorem zbt7 {H:Hp}{q:Addr}{ps:List Addr}{n m:Nat}{g:Nat->Nat->Int}(G:zan0 H q ps n m g):zaa5 H q ps ((List.range n).map fun x=>(List.range m).map (g x)):=by
 refine⟨G.out,by rw[G.len,zcu6,zcy3],fun i p r h1 h2=>?_⟩
 have hi:i<n:=by have:=(zcv3.mp h1).1;have:=G.len;omega
 rw[zcu9,zcz9 hi] at h2
 cases h2
 rw[← zy2]
 exact G.row i p h1
theorem zaq3 {H:Hp}{p:Addr}{a c:Nat}{f:Fd}(F:FdAt H p a c f) (ha:a<=10) (hc:c<=10):FxAt H p (toFx a c f)/\(toFx a c f).Gd:=by
 cases f with
 | more w t=>exact⟨F,by decide,by simp⟩
 | lead w l=>exact⟨F,by decide,by simp⟩
 | tab g=>
  obtain⟨q,ps,h1,h2⟩:=F
  refine⟨⟨q,ps,h1,zbt7 h2⟩,by rw[zcu6,zcy3];omega,fun r hr=>?_⟩
  obtain⟨x,_,rfl⟩:=zcx6.mp hr
  rw[zcu6,zcy3];omega
theorem zbp4 {a c:Nat}{f:Fd}(O:f.Ok):isF a c (toFx a c f)=true:=by
 cases f with
 | more w t=>exact decide_eq_true (show 1<=w/\-w<=t/\t<=w from O)
 | lead w l=>exact decide_eq_true (show 1<=w from O)
 | tab g=>
  show (decide _&&List.all _ _)=true
  rw[zcw5,zcx1]
  refine⟨decide_eq_true (by rw[zcu6,zcy3];rfl),fun r hr=>?_⟩
  obtain⟨x,_,rfl⟩:=zcx6.mp hr
  exact decide_eq_true (by rw[zcu6,zcy3];rfl)
theorem toBx {H:Hp}{b l:Addr}{ps:List Addr}{a c:Nat}{fs:List Fd}(B:zq3 H b l ps a c fs) (ha:a<=10) (hc:c<=10):BxAt H b l ps a c (fs.map (toFx a c)):=by
 refine⟨B.out,B.lst,by rw[B.len,zcu6],fun i p f h1 h2=>?_⟩
 rw[zcu9] at h2
 obtain⟨f',e,rfl⟩:=zcv4.mp h2
 exact zaq3 (B.fld i p f' h1 e).1 ha hc
@[irreducible] def zh5:Sp:=fun vs H Q _=>∃ (r:Addr) (n:Int) (zs:List Int),vs=[.int n,.ref r]/\H r=some (.lst (zs.map V.int))/\zs.length<=1000/\∀ H',Same H H'->Q (.bl (decide ((zs.length:Int)=n))) H'
theorem zaj0 {H:Hp}{r:Addr}{n:Int}{zs:List Int}{Q:VK}{E:XK}(h:H r=some (.lst (zs.map V.int))) (hn:zs.length<=1000) (q:∀ H',Same H H'->Q (.bl (decide ((zs.length:Int)=n))) H'):zh5 [.int n,.ref r] H Q E:=by unfold zh5;exact⟨r,n,zs,rfl,h,hn,q⟩
theorem zak9 {f:Addr}{fd:FuncData}(F:Fun K "is_table_row" "is_table_row" zl2 f fd) (N:Nm mg) (zcn8:Def P w K mg base CX0 1 "is_whole" ["thing"] zj0):FnOk P w K mg base CX0 2 f fd ["many_numbers","row"] zh5:=by
 refine F.ok zai9 (fun vs H Q E h=>by unfold zh5 at h;obtain⟨_,_,_,rfl,_⟩:=h;rfl) (fun cdv A outer s H vs Q E hr h=>?_)
 unfold zh5 at h
 obtain⟨r,n,zs,rfl,h,hn,q⟩:=h
 have hu:=hu40 hr
 refine⟨_,(za6 (zb0 (zs8 (pB (zac5 (K:=K) rfl) N.isinstance_ za8 (za0 (pq 1) (za0 (pTy N.list_ zn7) za1))) (zs8 (peC (oEqK (K:=K) rfl (by exact hu)) (pB (zq4 (K:=K) rfl) N.len_ zj3 (za0 (pq 1) za1)) (pq 0)) (zs2 (pB (zak7 (K:=K) rfl rfl) N.all_ zy8 (za0 (zj5 (N:=["number"]) (ks:=[none]) (zj2 (K:=K) rfl (pq 1)) (fun cl C s3 H3 fp=>(za7 (i:=0) nb_3 rfl (by first|exact Or.inl rfl|exact Or.inr rfl))) (fun cl C s3 H3 fp=>ze2) (fun cl C s3 H3 fp=>(pD zcn8 hr zb5 (za0 (pq 0) za1))) (.skip .nil)) za1))))))),?_⟩
 refine zas0 h ?_
 refine br_T ?_
 refine zh4 h ?_
 rw[zcu6]
 refine ze9 (fun en=>?_) (fun en=>?_)
 ·rw[decide_eq_true en] at q
  refine zd0 h ?_
  refine zq1 (Wk.list (SqL.of h)) (by rw[zcu6,sizeLine_eq];omega) (fun i=>.bl true) (fun _=>true) (fun j σ=>∃ t:Option V,σ=[t]) ⟨none,rfl⟩ ?_ ?_
  ·rintro j v σ H1 R S hj s1 hx ⟨t,rfl⟩ k _
   rw[zcu9] at hx
   obtain⟨z,_,rfl⟩:=zcv4.mp hx
   refine br_T ?_
   refine zcc9 ?_
   walk_at "wh"
   exact k rfl _ _ (Same.refl _) ⟨_,rfl⟩
  intro acc H1 f1 s1 h1
  rw[zg8,zcu6,zck9] at h1
  refine zx7 h1 ?_
  rw[zcb7]
  walk_at "wh"
  exact q _ s1
 ·rw[decide_eq_false en] at q
  walk_at "wh"
  exact q _ (Same.refl _)
theorem zbv8 (l:List Bool):(l.map V.bl)=(List.range l.length).map fun i=>V.bl (l.getD i false):=by
 apply zda7
 intro i
 rw[zcu9,zcu9]
 by_cases h:i<l.length
 ·rw[zcz9 h,zcu7 h]
  simp[h]
 ·rw[zcx4 (by walk_at "om"),zcx4 (by simp;omega)]
  rfl
@[irreducible] def zo3:Sp:=fun vs H Q _=>∃ (r:Addr) (ps:List Addr) (n m:Int) (rows:List (List Int)),vs=[.int n,.int m,.ref r]/\zaa5 H r ps rows/\rows.length<=100/\(∀ r∈rows,r.length<=100)/\∀ H',Same H H'->Q (.bl (decide ((rows.length:Int)=n)&&rows.all fun r=>decide ((r.length:Int)=m))) H'
theorem zbb0 {H:Hp}{r:Addr}{ps:List Addr}{n m:Int}{rows:List (List Int)}{Q:VK}{E:XK}(h:zaa5 H r ps rows) (hn:rows.length<=100) (hm:∀ r∈rows,r.length<=100) (q:∀ H',Same H H'->Q (.bl (decide ((rows.length:Int)=n)&&rows.all fun r=>decide ((r.length:Int)=m))) H'):zo3 [.int n,.int m,.ref r] H Q E:=by unfold zo3;exact⟨r,ps,n,m,rows,rfl,h,hn,hm,q⟩
theorem zbd2 {f:Addr}{fd:FuncData}(F:Fun K "is_table" "is_table" zu2 f fd) (N:Nm mg) (zcq1:Def P w K mg base CX0 2 "is_table_row" ["many_numbers","row"] zh5):FnOk P w K mg base CX0 3 f fd ["many_rows","many_numbers","rows"] zo3:=by
 refine F.ok zbb7 (fun vs H Q E h=>by unfold zo3 at h;obtain⟨_,_,_,_,_,rfl,_⟩:=h;rfl) (fun cdv A outer s H vs Q E hr h=>?_)
 unfold zo3 at h
 obtain⟨r,ps,n,m,rows,rfl,R,hn,hm,q⟩:=h
 have hu:=hu40 hr
 have gl:=R.len
 refine⟨_,(za4 (psIf (ptW (pwOr (zm0 (ptV (pB (zac5 (K:=K) rfl) N.isinstance_ za8 (za0 (pq 2) (za0 (pTy N.list_ zn7) za1))))) (zaa8 (ptC (oNeK (K:=K) rfl (by exact hu)) (pB (zq4 (K:=K) rfl) N.len_ zj3 (za0 (pq 2) za1)) (pq 0))))) (za6 (zb0 zx8)) zc2)
   (za6 (zb0 (pB (zak7 (K:=K) rfl rfl) N.all_ zy8 (za0 (zj5 (N:=["row","many_numbers"]) (ks:=[none,some 1]) (zj2 (K:=K) rfl (pq 2)) (fun cl C s3 H3 fp=>(za7 (i:=0) nb_4 rfl (by first|exact Or.inl rfl|exact Or.inr rfl))) (fun cl C s3 H3 fp=>ze2) (fun cl C s3 H3 fp=>(pD zcq1 hr zb5 (za0 (pq 1) (za0 (pq 0) za1)))) (.skip (.take rfl rfl (by first|exact Or.inl rfl|exact Or.inr rfl) .nil))) za1))))),?_⟩
 refine zas0 R.out ?_
 refine zd6 (br_T ?_)
 refine zh4 R.out ?_
 rw[zcu6,gl]
 refine zd6 (ze9 (fun en=>?_) (fun en=>?_))
 ·rw[decide_eq_true en,zcy9] at q
  refine zd0 R.out ?_
  refine zq1 (Wk.list (SqL.of R.out)) (by rw[zcu6,sizeLine_eq];omega) (fun i=>.bl ((rows.map fun r=>decide ((r.length:Int)=m)).getD i false)) (fun _=>true) (fun j σ=>∃ t:Option V,σ=[t,some (.int m)]) ⟨none,rfl⟩ ?_ ?_
  ·rintro j v σ H1 R' S hj s1 hx ⟨t,rfl⟩ k _
   obtain⟨p,r1,rfl,ep,er,hp⟩:=(R.same s1).elt hx
   have eb:(rows.map fun r=>decide ((r.length:Int)=m)).getD j false=decide ((r1.length:Int)=m):=by
    rw[zcv2,zcu9,er];rfl
   rw[eb] at k
   refine br_T ?_
   refine zaj0 hp (by have:=hm r1 (zcv1 er);omega) (fun H2 s2=>?_)
   walk_at "wh"
   exact k rfl _ _ s2 ⟨_,rfl⟩
  intro acc H1 f1 s1 h1
  have eb:=zbv8 (rows.map fun r=>decide ((r.length:Int)=m))
  rw[zcu6] at eb
  rw[zg8,zcu6,gl,← eb] at h1
  refine zx7 h1 ?_
  rw[zdb3]
  walk_at "wh"
  exact q _ s1
 ·rw[decide_eq_false en,zdd6] at q
  walk_at "wh"
  exact q _ (Same.refl _)
@[irreducible] def zo6:Sp:=fun vs H Q _=>∃ (p:Addr) (a c:Int) (f:Fx),vs=[.int a,.int c,.ref p]/\FxAt H p f/\f.Gd/\∀ H',Same H H'->Q (.bl (isF a c f)) H'
theorem zaj3 {H:Hp}{p:Addr}{a c:Int}{f:Fx}{Q:VK}{E:XK}(F:FxAt H p f) (O:f.Gd) (q:∀ H',Same H H'->Q (.bl (isF a c f)) H'):zo6 [.int a,.int c,.ref p] H Q E:=by unfold zo6;exact⟨p,a,c,f,rfl,F,O,q⟩
theorem zat4 {a c:Int}{w:Str}{zs:List Int}(h:zs.length≠2):isF a c (.flat w zs)=false:=by
 match zs,h with
 | [],_=>rfl
 | [_],_=>rfl
 | [_,_],h=>exact absurd rfl h
 | _ :: _ :: _ :: _,_=>rfl
theorem zbb6 {f:Addr}{fd:FuncData}(F:Fun K "is_field" "is_field" zt7 f fd) (N:Nm mg) (zcm4:Def P w K mg base CX0 3 "is_between" ["thing","least","most"] ze4) (zcn2:Def P w K mg base CX0 2 "is_from" ["thing","least"] zi2) (zcs3:Def P w K mg base CX0 3 "is_table" ["many_rows","many_numbers","rows"] zo3) (zcn8:Def P w K mg base CX0 1 "is_whole" ["thing"] zj0):FnOk P w K mg base CX0 4 f fd ["first","second","field"] zo6:=by
 refine F.ok zbc5 (fun vs H Q E h=>by unfold zo6 at h;obtain⟨_,_,_,_,rfl,_⟩:=h;rfl) (fun cdv A outer s H vs Q E hr h=>?_)
 unfold zo6 at h
 obtain⟨p,a,c,f,rfl,F,O,q⟩:=h
 have hu:=hu40 hr
 refine⟨_,(za4 (psIf (zm0 (ptV (pB (zac5 (K:=K) rfl) N.isinstance_ za8 (za0 (pq 2) (za0 (pTy N.tuple_ zai0) za1))))) (za6 (zb0 zx8)) zc2)
   (za4 (psIf (ptW (pwAnd (ptC (oEqK (K:=K) rfl (by exact hu)) (pB (zq4 (K:=K) rfl) N.len_ zj3 (za0 (pq 2) za1)) za2) (zas1 (ptC (oEqK (K:=K) rfl (by exact hu)) (zb8 (K:=K) rfl (pq 2) za2) zg5)))) (za6 (zb0 (zs8 (pD zcn2 hr zb5 (za0 (zb8 (K:=K) rfl (pq 2) za2) (za0 za2 za1))) (zs2 (pD zcm4 hr zb5 (za0 (zb8 (K:=K) rfl (pq 2) za2) (za0 (zaa3 uNeg (zb8 (K:=K) rfl (pq 2) za2)) (za0 (zb8 (K:=K) rfl (pq 2) za2) za1)))))))) zc2)
   (za4 (psIf (ptW (pwAnd (ptC (oEqK (K:=K) rfl (by exact hu)) (pB (zq4 (K:=K) rfl) N.len_ zj3 (za0 (pq 2) za1)) za2) (zas1 (ptC (oEqK (K:=K) rfl (by exact hu)) (zb8 (K:=K) rfl (pq 2) za2) zg5)))) (za6 (zb0 (zs8 (pD zcn2 hr zb5 (za0 (zb8 (K:=K) rfl (pq 2) za2) (za0 za2 za1))) (zs2 (pD zcn8 hr zb5 (za0 (zb8 (K:=K) rfl (pq 2) za2) za1)))))) zc2)
   (za4 (psIf (ptW (pwAnd (ptC (oEqK (K:=K) rfl (by exact hu)) (pB (zq4 (K:=K) rfl) N.len_ zj3 (za0 (pq 2) za1)) za2) (zas1 (ptC (oEqK (K:=K) rfl (by exact hu)) (zb8 (K:=K) rfl (pq 2) za2) zg5)))) (za6 (zb0 (pD zcs3 hr zb5 (za0 (zb4 oAdd (pq 0) za2) (za0 (zb4 oAdd (pq 1) za2) (za0 (zb8 (K:=K) rfl (pq 2) za2) za1)))))) zc2)
   (za6 (zb0 zx8)))))),?_⟩
 cases f with
 | flat w zs=>
  have F:H p=some (.tup (.str w :: zs.map V.int)):=F
  obtain⟨nt,zl⟩:w≠"table"/\zs.length<=10:=O
  have q:=q _ (Same.refl _)
  refine zas8 F ?_
  refine zd6 (br_T ?_)
  refine zu4 F ?_
  rw[zcx0,zcu6]
  walk_at "wh"
  by_cases e2:zs.length=2
  ·obtain⟨x,y,rfl⟩:∃ x y,zs=[x,y]:=by
    match zs,e2 with
    | [x,y],_=>exact⟨x,y,rfl⟩
   refine zad2 rfl ?_
   refine zb6 (v:=.str w) F rfl ?_
   refine ze9 (fun em=>?_) (fun em=>?_)
   ·subst em
    have q:Q (.bl (decide (1<=x/\-x<=y/\y<=x))) H:=q
    refine zb6 (v:=.int x) F rfl ?_
    refine zcc7 ?_
    refine ze9 (fun e1=>?_) (fun e1=>?_)
    ·rw[zah9 e1] at q
     refine zb6 (v:=.int y) F rfl ?_
     refine zb6 (v:=.int x) F rfl ?_
     refine zb6 (v:=.int x) F rfl ?_
     refine zax8 ?_
     walk_at "wh"
     exact q
    ·rw[zai4 e1] at q
     walk_at "wh"
     exact q
   ·have q:Q (.bl (if w="more" then decide (1<=x/\-x<=y/\y<=x) else if w="lead" then decide (1<=x) else false)) H:=q
    rw[if_neg em] at q
    refine zu4 F ?_
    refine zad2 rfl ?_
    refine zb6 (v:=.str w) F rfl ?_
    refine ze9 (fun el=>?_) (fun el=>?_)
    ·rw[if_pos el] at q
     refine zb6 (v:=.int x) F rfl ?_
     refine zcc7 ?_
     refine ze9 (fun e1=>?_) (fun e1=>?_)
     ·rw[decide_eq_true e1] at q
      refine zb6 (v:=.int y) F rfl ?_
      refine zcc9 ?_
      walk_at "wh"
      exact q
     ·rw[decide_eq_false e1] at q
      walk_at "wh"
      exact q
    ·rw[if_neg el] at q
     refine zu4 F ?_
     refine zy6 (by show ¬ ((3:Nat):Int)=2;decide) ?_
     refine br_F ?_
     walk_at "wh"
     exact q
  ·rw[zat4 e2] at q
   refine zy6 (by walk_at "om") ?_
   refine br_F ?_
   refine zu4 F ?_
   rw[zcx0,zcu6]
   refine zy6 (by walk_at "om") ?_
   refine br_F ?_
   refine zu4 F ?_
   rw[zcx0,zcu6]
   refine ze9 (fun e1=>?_) (fun e1=>?_)
   ·obtain⟨z,rfl⟩:∃ z,zs=[z]:=by
     match zs,(show zs.length=1 by walk_at "om") with
     | [z],_=>exact⟨z,rfl⟩
    refine zb6 (v:=.str w) F rfl ?_
    refine zy6 nt ?_
    walk_at "wh"
    exact q _ (Same.refl _)
   ·walk_at "wh"
    refine br_F ?_
    walk_at "wh"
    exact q
 | tab rows=>
  obtain⟨q',ps,F,R⟩:=F
  obtain⟨o1,o2⟩:rows.length<=100/\∀ r∈rows,r.length<=100:=O
  refine zas8 F ?_
  refine zd6 (br_T ?_)
  refine zu4 F ?_
  refine zy6 (by show ¬ ((2:Nat):Int)=3;decide) ?_
  refine br_F ?_
  refine zu4 F ?_
  refine zy6 (by show ¬ ((2:Nat):Int)=3;decide) ?_
  refine br_F ?_
  refine zu4 F ?_
  refine zad2 rfl ?_
  refine zb6 (v:=.str "table") F rfl ?_
  refine zad2 rfl ?_
  refine zb6 (v:=.ref q') F rfl ?_
  refine zbb0 (n:=a+1) (m:=c+1) R o1 o2 (fun H1 s1=>?_)
  walk_at "wh"
  exact q _ s1
@[irreducible] def zo4:Sp:=fun vs H Q _=>∃ (b l:Addr) (ys:List V) (a c:Int),vs=[.ref b]/\H b=some (.tup [.int a,.int c,.ref l])/\H l=some (.lst ys)/\Q (.bl (decide (Sz a c ys.length))) H
theorem zab7 {H:Hp}{b l:Addr}{ys:List V}{a c:Int}{Q:VK}{E:XK}(h1:H b=some (.tup [.int a,.int c,.ref l])) (h2:H l=some (.lst ys)) (q:Q (.bl (decide (Sz a c ys.length))) H):zo4 [.ref b] H Q E:=by unfold zo4;exact⟨b,l,ys,a,c,rfl,h1,h2,q⟩
theorem zbe1 {f:Addr}{fd:FuncData}(F:Fun K "has_size" "has_size" zt6 f fd) (N:Nm mg) {zcn6:Tok}(c_MOST_FIELDS_fields:mg "MOST_FIELDS_fields"=some (.int 5 zcn6)) (zcr8:Def P w K mg base CX0 4 "are_hosts" ["first","second"] zm3):FnOk P w K mg base CX0 5 f fd ["battle"] zo4:=by
 refine F.ok zbd0 (fun vs H Q E h=>by unfold zo4 at h;obtain⟨_,_,_,_,_,rfl,_⟩:=h;rfl) (fun cdv A outer s H vs Q E hr h=>?_)
 unfold zo4 at h
 obtain⟨b,l,ys,a,c,rfl,h1,h2,q⟩:=h
 refine⟨_,(za6 (zb0 (zs8 (pD zcr8 hr zb5 (za0 (zb8 (K:=K) rfl (pq 0) za2) (za0 (zb8 (K:=K) rfl (pq 0) za2) za1))) (zs2 (zck8 oLe oLe za2 (pB (zq4 (K:=K) rfl) N.len_ zj3 (za0 (zb8 (K:=K) rfl (pq 0) za2) za1)) (zk5 (v:=.int 5) rfl c_MOST_FIELDS_fields ⟨_,rfl⟩)))))),?_⟩
 refine zb6 (v:=.int a) h1 rfl ?_
 refine zb6 (v:=.int c) h1 rfl ?_
 refine zaz5 ?_
 refine ze9 (fun e1=>?_) (fun e1=>?_)
 ·walk_at "wh"
  refine zb6 (v:=.ref l) h1 rfl ?_
  refine zh4 h2 ?_
  walk_at "wh"
  rw[zah9 e1] at q
  refine ze9 (fun e2=>?_) (fun e2=>?_)
  ·walk_at "wh"
   rw[show decide (1<=ys.length/\ys.length<=5)=decide ((ys.length:Int)<=5) by rw[zdd2,decide_eq_true_iff,decide_eq_true_iff];omega] at q
   exact q
  ·walk_at "wh"
   rw[decide_eq_false (by walk_at "om")] at q
   exact q
 ·rw[zai4 e1] at q
  walk_at "wh"
  exact q
@[irreducible] def zf4 (zcl5:Addr):Sp:=fun vs H Q E=>∃ b:Addr,vs=[.ref b] /\
 ((∃ (l:Addr) (ps:List Addr) (a c:Nat) (fs:List Fd),zq3 H b l ps a c fs/\OkB a c fs/\∀ H',Same H H'->Q .non H') ∨
  ∃ k:Int,BadB H b k/\∀ d H',H d=none->Same H H'->H' d=some (.xd [("field",.int k)])->E (.ref zcl5) (some d) H')
theorem zao9 {zcl5:Addr}{H:Hp}{b l:Addr}{ps:List Addr}{a c:Nat}{fs:List Fd}{Q:VK}{E:XK}(B:zq3 H b l ps a c fs) (O:OkB a c fs) (q:∀ H',Same H H'->Q .non H'):zf4 zcl5 [.ref b] H Q E:=by unfold zf4;exact⟨b,rfl,.inl ⟨l,ps,a,c,fs,B,O,q⟩⟩
theorem zbc6 {zcl5:Addr}{H:Hp}{b:Addr}{k:Int}{Q:VK}{E:XK}(B:BadB H b k) (q:∀ d H',H d=none->Same H H'->H' d=some (.xd [("field",.int k)])->E (.ref zcl5) (some d) H'):zf4 zcl5 [.ref b] H Q E:=by unfold zf4;exact⟨b,rfl,.inr ⟨k,B,q⟩⟩
theorem zao6 {f:Addr}{fd:FuncData}(F:Fun K "look_battle" "look_battle" zn1 f fd) (N:Nm mg) (zcs4:Def P w K mg base CX0 5 "has_size" ["battle"] zo4) (zcs5:Def P w K mg base CX0 4 "is_field" ["first","second","field"] zo6) (Z:Cz K mg base zcl8 zcl5 zcm7 zcl6 zcl9 zcm8 zcm2 zcm0 zcm1 zcm9 zcn0 zcn3 zcn1 zcm3 zcm6):FnOk P w K mg base (CXR P w) 6 f fd ["battle"] (zf4 zcl5):=by
 refine F.okR zv5 (fun vs H Q E h=>by unfold zf4 at h;obtain⟨_,rfl,_⟩:=h;rfl) (fun cdv A outer s H vs Q E hr hX h=>?_)
 unfold zf4 at h
 obtain⟨b,rfl,h⟩:=h
 refine⟨_,(za4 (psIf (zm0 (ptV (pD zcs4 hr zb5 (za0 (pq 0) za1)))) (za6 (zbf3 Z.z_NoBattle Z.g_NoBattle (zag4 Z.fi_NoBattle Z.z_NoBattle) (hr.mono (by decide)) rfl hX (zaa3 uNeg za2))) zc2)
   (za6 (zac3 PassesOwn.leaving rfl (zas5 (K:=K) rfl N.enumerate_ (za0 (zb8 (K:=K) rfl (pq 0) za2) za1)) (zk3 (K:=K) (n:=2) rfl rfl (zb1 (za7 (i:=1) zv5.nd rfl (by first|exact Or.inl rfl|exact Or.inr rfl)) (zb1 (za7 (i:=2) zv5.nd rfl (by first|exact Or.inl rfl|exact Or.inr rfl)) zk1))) (za6 (psIf (zm0 (ptV (pD zcs5 hr zb5 (za0 (zb8 (K:=K) rfl (pq 0) za2) (za0 (zb8 (K:=K) rfl (pq 0) za2) (za0 (pq 2) za1)))))) (za6 (zbf3 Z.z_NoBattle Z.g_NoBattle (zag4 Z.fi_NoBattle Z.z_NoBattle) (hr.mono (by decide)) rfl hX (pq 1))) zc2))))),?_⟩
 rcases h with ⟨l,ps,a,c,fs,B,O,q⟩|⟨k,⟨l,ps,a,c,fs,B,hl,hk⟩,q⟩
 ·have X:=toBx B O.1.1 O.1.2
  have bl:=B.len
  refine zab7 B.out B.lst ?_
  rw[decide_eq_true (by rw[zcu6,bl];exact⟨⟨⟨by walk_at "om",by walk_at "om"⟩,by walk_at "om",by walk_at "om"⟩,O.2⟩)]
  refine zd6 (br_T ?_)
  refine zb6 (v:=.ref l) B.out rfl ?_
  refine zak2 B.lst ?_
  refine zav0 (xs:=ps.map V.ref) (fun i σ H1=>∃ x y:Option V,σ=[some (.ref b),x,y]/\Same H H1) ?_ ?_ ?_ ?_
  ·exact⟨_,_,rfl,Same.refl _⟩
  ·rintro i σ H1 _ ⟨_,_,_,s1⟩
   exact SqL.of (s1 _ _ B.lst)
  ·rintro i v σ H1 p H2 hi ⟨x,y,rfl,s1⟩ f2 s2 h2
   have s12:=s1.trans s2
   obtain⟨p',f,rfl,e1,e2,hf,ok⟩:=(X.same s12).elt hi
   rw[zcu9] at e2
   obtain⟨f',e3,rfl⟩:=zcv4.mp e2
   refine ze7 h2 ?_
   refine zb6 (v:=.int a) (s12 _ _ B.out) rfl ?_
   refine zb6 (v:=.int c) (s12 _ _ B.out) rfl ?_
   refine zaj3 hf ok (fun H3 s3=>?_)
   rw[zbp4 (B.fld i p' f' e1 e3).2]
   refine zd6 (br_T ?_)
   walk_at "wh"
   exact⟨_,_,rfl,s12.trans s3⟩
  ·rintro σ H1 ⟨x,y,rfl,s1⟩
   walk_at "wh"
   exact q _ s1
 ·have bl:=B.len
  rcases hk with ⟨nz,rfl⟩|⟨sz,j,f,rfl,ej,bad,good⟩
  ·walk_at "wh"
   refine zab7 B.out B.lst ?_
   rw[decide_eq_false (by rw[zcu6,bl];exact nz)]
   refine zd6 (br_F ?_)
   walk_at "wh"
   exact zav1 q
  ·have hj:j<ps.length:=by have:=(zcv3.mp ej).1;omega
   refine zab7 B.out B.lst ?_
   rw[decide_eq_true (by rw[zcu6,bl];exact sz)]
   refine zd6 (br_T ?_)
   refine zb6 (v:=.ref l) B.out rfl ?_
   refine zak2 B.lst ?_
   refine zav0 (xs:=ps.map V.ref) (fun i σ H1=>∃ x y:Option V,σ=[some (.ref b),x,y]/\Same H H1/\i<=j) ?_ ?_ ?_ ?_
   ·exact⟨_,_,rfl,Same.refl _,zcz3 _⟩
   ·rintro i σ H1 _ ⟨_,_,_,s1,_⟩
    exact SqL.of (s1 _ _ B.lst)
   ·rintro i v σ H1 p H2 hi ⟨x,y,rfl,s1,ij⟩ f2 s2 h2
    have s12:=s1.trans s2
    obtain⟨p',f',rfl,e1,e2,hf,ok⟩:=(B.same s12).elt hi
    refine ze7 h2 ?_
    refine zb6 (v:=.int a) (s12 _ _ B.out) rfl ?_
    refine zb6 (v:=.int c) (s12 _ _ B.out) rfl ?_
    refine zaj3 hf ok (fun H3 s3=>?_)
    by_cases e:i=j
    ·subst e
     have:f'=f:=Option.some.inj (e2.symm.trans ej)
     subst this
     rw[bad]
     refine zd6 (br_F ?_)
     walk_at "wh"
     exact zav1 (fun d H4 f4 s4 h4=>q d H4 ((s12.trans s3).free f4) ((s12.trans s3).trans s4) h4)
    ·rw[good i f' (by walk_at "om") e2]
     refine zd6 (br_T ?_)
     walk_at "wh"
     exact⟨_,_,rfl,s12.trans s3,by walk_at "om"⟩
   ·rintro σ H1 ⟨x,y,rfl,s1,ij⟩
    rw[zcu6] at ij
    omega
@[irreducible] def zh9:Sp:=fun vs H Q _=>∃ n k:Int,vs=[.int n,.int k]/\0<=n/\n<2147483629/\0<=k/\k<=10000000/\∀ r:Int,0<=r->r<2147483587->Q (.int r) H
theorem zbk4 {H:Hp}{n k:Int}{Q:VK}{E:XK}(h0:0<=n) (h1:n<2147483629) (h2:0<=k) (h3:k<=10000000) (q:∀ r:Int,0<=r->r<2147483587->Q (.int r) H):zh9 [.int n,.int k] H Q E:=by
 unfold zh9;exact⟨n,k,rfl,h0,h1,h2,h3,q⟩
theorem zal8 {f:Addr}{fd:FuncData}(F:Fun K "_law_stirred" "_law_stirred" zl3 f fd) (N:Nm mg):FnOk P w K mg base CX0 1 f fd ["_law_number","_law_k"] zh9:=by
 refine F.ok zy0 (fun vs H Q E h=>by unfold zh9 at h;obtain⟨n,k,rfl,_⟩:=h;rfl) (fun cdv A outer s H vs Q E hr h=>?_)
 unfold zh9 at h
 obtain⟨n,k,rfl,h1,h2,h3,h4,q⟩:=h
 refine⟨_,(za4 (psS (i:=2) zy0.nd (zb4 oMod (zb4 oMul (zb4 oAdd (zb4 oAdd (zb4 oMul (pq 0) (pq 0)) (zb4 oMul (pq 1) (pq 0))) (zb4 oMul (zb4 oMul za2 (pq 1)) (pq 1))) za2) za2))
   (za6 (zb0 (zb4 oMod (zb4 oMul (pq 2) (pq 2)) za2)))),?_⟩
 repeat walk_at "st"
 walk_at "wh"
 exact q _ (by assumption) (by assumption)
def zc1 (H:Hp) (a:Addr) (b:Int):Prop:=∃ x y z:Int,H a=some (.lst [.int x,.int y,.int z])/\(y=1∨(y=0/\0<=x/\x<2147483629))/\0<=z/\z<=b
theorem zc1.same {H H':Hp}{a:Addr}{b:Int}(h:zc1 H a b) (s:Same H H'):zc1 H' a b:=by
 obtain⟨x,y,z,e,r⟩:=h
 exact⟨x,y,z,s _ _ e,r⟩
local macro_rules | `(tactic| walk_at "la")=>`(tactic| first|assumption|(refine zc1.same (H:=?H) ?l ?s;(case s=>assumption);(case l=>walk_at "la"))|fail "la")
theorem zc1.up {H:Hp}{a:Addr}{b c:Int}(h:zc1 H a b) (l:b<=c):zc1 H a c:=by
 obtain⟨x,y,z,e1,e2,e3,e4⟩:=h
 exact⟨x,y,z,e1,e2,e3,by walk_at "om"⟩
theorem zc1.ne {H:Hp}{a p:Addr}{b:Int}(h:zc1 H a b) (f:H p=none):p≠a:=by
 obtain⟨x,y,z,e,_⟩:=h
 exact Ne.symm (za5 e f)
local macro_rules | `(tactic| walk_at "ne")=>`(tactic| first|assumption|(apply Ne.symm;assumption)|(refine zc1.ne (H:=?H) (b:=?b) ?l ?f;(case f=>assumption);(case l=>walk_at "la"))|fail "ne")
@[irreducible] def zj1:Sp:=fun vs H Q _=>∃ c:Int,vs=[.int c]/\∀ p H',H p=none->Same H H'->zc1 H' p 0->Q (.ref p) H'
theorem zbt9 {H:Hp}{c:Int}{Q:VK}{E:XK}(q:∀ p H',H p=none->Same H H'->zc1 H' p 0->Q (.ref p) H'):zj1 [.int c] H Q E:=by
 unfold zj1;exact⟨c,rfl,q⟩
theorem zan6 {f:Addr}{fd:FuncData}(F:Fun K "_law_opened" "_law_opened" zn0 f fd) (N:Nm mg):FnOk P w K mg base CX0 1 f fd ["_law_cell"] zj1:=by
 refine F.ok zan7 (fun vs H Q E h=>by unfold zj1 at h;obtain⟨n,rfl,_⟩:=h;rfl) (fun cdv A outer s H vs Q E hr h=>?_)
 unfold zj1 at h
 obtain⟨c,rfl,q⟩:=h
 refine⟨_,(za4 (psIf (ptC oLt (pq 0) (zb4 oPow za2 za2)) (za6 (zb0 (zi6 (za0 (zb4 oMod (pq 0) za2) (za0 za2 (za0 za2 za1)))))) zc2)
   (za6 (zb0 (zi6 (za0 (zb4 oSub (pq 0) (zb4 oPow za2 za2)) (za0 za2 (za0 za2 za1))))))),?_⟩
 walk_at "st"
 refine ze9 (fun h=>?_) (fun h=>?_)
 ·repeat walk_at "st"
  walk_at "wh"
  exact q _ _ (by assumption) (by assumption) ⟨_,_,_,by assumption,.inr ⟨rfl,by assumption,by assumption⟩,by walk_at "om",by walk_at "om"⟩
 ·repeat walk_at "st"
  walk_at "wh"
  exact q _ _ (by assumption) (by assumption) ⟨_,_,_,by assumption,.inl rfl,by walk_at "om",by walk_at "om"⟩
@[irreducible] def zd5:Sp:=fun vs H Q _=>∃ (a:Addr) (m b:Int),vs=[.ref a,.int m]/\zc1 H a b/\b<=1000000/\0<m/\m<10 ^ 60/\∀ (d:Int) H',0<=d->d<m->Chg a H H'->zc1 H' a (b+4)->Q (.int d) H'
theorem zd3 {H:Hp}{a:Addr}{m b:Int}{Q:VK}{E:XK}(hL:zc1 H a b) (hb:b<=1000000) (h0:0<m) (h1:m<10 ^ 60) (q:∀ (d:Int) H',0<=d->d<m->Chg a H H'->zc1 H' a (b+4)->Q (.int d) H'):zd5 [.ref a,.int m] H Q E:=by
 unfold zd5;exact⟨a,m,b,rfl,hL,hb,h0,h1,q⟩
theorem zaw1 {f:Addr}{fd:FuncData}(F:Fun K "_law_draw" "_law_draw" zr6 f fd) (N:Nm mg) (zcq2:Def P w K mg base CX0 1 "_law_stirred" ["_law_number","_law_k"] zh9):FnOk P w K mg base CX0 2 f fd ["_law_left","_law_base"] zd5:=by
 refine F.ok zp2 (fun vs H Q E h=>by unfold zd5 at h;obtain⟨a,m,b,rfl,_⟩:=h;rfl) (fun cdv A outer s H vs Q E hr h=>?_)
 unfold zd5 at h
 obtain⟨a,m,b,rfl,⟨x,y,z,hl,hy,hz0,hz1⟩,hb,hm0,hm1,q⟩:=h
 have hu:=hu40 hr
 refine⟨_,(za4 (psIf (ptC (oEqK (K:=K) rfl (by exact hu)) (zb8 (K:=K) rfl (pq 0) za2) za2) (za4 (psS (i:=2) zp2.nd (zb4 oMod (zb8 (K:=K) rfl (pq 0) za2) (pq 1)))
   (za4 (zag2 (zb4 oDiv (zb8 (K:=K) rfl (pq 0) za2) (pq 1)) (zbw7 (pq 0) za2 setM))
   (za6 (zb0 (pq 2))))) zc2)
   (za4 (psS (i:=3) zp2.nd za2)
   (za4 (zac3 PassesOwn.never rfl (zac1 N.range_ (za0 (zb8 (K:=K) rfl (zi6 (za0 za2 (za0 za2 za1))) (pT cInt N.int_ zam9 (za0 (peC oGt (pq 1) (zb4 oPow za2 za2)) za1))) za1)) (za7 (i:=4) zp2.nd rfl (by first|exact Or.inl rfl|exact Or.inr rfl)) (za4 (zag2 (zb4 oAdd (zb8 (K:=K) rfl (pq 0) za2) za2) (zbw7 (pq 0) za2 setM))
   (za4 (psS (i:=5) zp2.nd (pD zcq2 hr zb5 (za0 (zb8 (K:=K) rfl (pq 0) za2) (za0 (zb8 (K:=K) rfl (pq 0) za2) za1))))
   (za6 (psS (i:=3) zp2.nd (zb4 oAdd (zb4 oMul (pq 3) za2) (zb4 oMod (zb4 oMul (pq 5) (zb4 oAdd (pq 5) za2)) za2)))))))
   (za6 (zb0 (zb4 oMod (pq 3) (pq 1))))))),?_⟩
 walk_at "st"
 refine ze9 (fun h=>?_) (fun h=>?_)
 ·subst h
  walk_at "st"
  walk_at "st"
  walk_at "st"
  walk_at "st"
  refine zbo0 hl (by rfl) (fun H1 hc h1=>?_)
  walk_at "wh"
  exact q _ _ (by assumption) (by assumption) hc ⟨_,_,_,h1,.inl rfl,hz0,by walk_at "om"⟩
 ·obtain⟨rfl,hx0,hx1⟩:y=0/\0<=x/\x<2147483629:=by walk_at "om"
  refine zc5 (fun p1 H1 hf1 hs1 ha1=>?_)
  walk_at "st"
  refine zo1 ha1 (by split<;>decide) (by show _<((2:Nat):Int);split<;>decide) (fun v hv=>?_)
  obtain⟨j,rfl,hj1,hj4⟩:∃ j:Int,v=.int j/\1<=j/\j<=4:=by
   simp only[zcw3,zcx3,or_false] at hv
   rcases hv with rfl|rfl
   ·exact⟨1,rfl,by decide,by decide⟩
   ·exact⟨4,rfl,by decide,by decide⟩
  refine zt5 (by decide) (by decide) (by walk_at "om") (by walk_at "om") ?_
  refine zw1 (fun i σ H2=>∃ (num:Int) (t mx:Option V),σ=[some (.ref a),some (.int m),none,some (.int num),t,mx]/\0<=num/\Chg a H H2/\H2 a=some (.lst [.int x,.int 0,.int (z+i)])) ?_ ?_ ?_
  ·exact⟨0,none,none,rfl,by decide,hs1.toChg,by rw[hs1 _ _ hl];simp⟩
  ·rintro i σ H2 hi ⟨num,t,mx,rfl,hn,hc,h2⟩
   have hi4:(i:Int)<4:=by walk_at "om"
   walk_at "st"
   refine zbo0 h2 (by rfl) (fun H3 hc3 h3=>?_)
   walk_at "st"
   walk_at "st"
   refine zbk4 hx0 hx1 (by walk_at "om") (by walk_at "om") (fun r hr0 hr1=>?_)
   walk_at "st"
   walk_at "st"
   walk_at "st"
   walk_at "wh"
   refine⟨_,_,_,rfl,?_,hc.trans hc3,?_⟩
   ·rename_i r2 hr20 hr21
    omega
   ·rw[h3]
    have e:z+(i:Int)+1=z+((i+1:Nat):Int):=by walk_at "om"
    rw[← e]
    rfl
  ·rintro σ H2 ⟨num,t,mx,rfl,hn,hc,h2⟩
   walk_at "st"
   walk_at "wh"
   exact q _ _ (by assumption) (by assumption) hc ⟨_,_,_,h2,.inr ⟨rfl,hx0,hx1⟩,by walk_at "om",by walk_at "om"⟩
theorem Chg.free' {a l:Addr}{H H':Hp}(x:Chg a H H') (h:H' l=none) (n:l≠a):H l=none:=by
 cases e:H l with
 | none=>rfl
 | some o=>
  have:=x l o n e
  rw[h] at this
  cases this
theorem zc1.chg {H H':Hp}{a p:Addr}{b:Int}(h:zc1 H a b) (c:Chg p H H') (n:a≠p):zc1 H' a b:=by
 obtain⟨x,y,z,e,r⟩:=h
 exact⟨x,y,z,c _ _ n e,r⟩
theorem zc1.some {H:Hp}{a:Addr}{b:Int}(h:zc1 H a b):∃ o,H a=some o:=by
 obtain⟨x,y,z,e,r⟩:=h
 exact⟨_,e⟩
@[irreducible] def ze0:Sp:=fun vs H Q _=>∃ (a:Addr) (b:Int),vs=[.ref a]/\zc1 H a b/\b<=100000/\∀ (d:Int) H',1<=d->d<=2*10 ^ 28->Chg a H H'->zc1 H' a (b+16)->Q (.int d) H'
theorem zao4 {H:Hp}{a:Addr}{b:Int}{Q:VK}{E:XK}(hL:zc1 H a b) (hb:b<=100000) (q:∀ (d:Int) H',1<=d->d<=2*10 ^ 28->Chg a H H'->zc1 H' a (b+16)->Q (.int d) H'):ze0 [.ref a] H Q E:=by unfold ze0;exact⟨a,b,rfl,hL,hb,q⟩
theorem zab3 {f:Addr}{fd:FuncData}(F:Fun K "_law_drawn_worth" "_law_drawn_worth" zf8 f fd) (N:Nm mg) (zcl7:Def P w K mg base CX0 2 "_law_draw" ["_law_left","_law_base"] zd5):FnOk P w K mg base CX0 3 f fd ["_law_left"] ze0:=by
 refine F.ok zu9 (fun vs H Q E h=>by unfold ze0 at h;obtain⟨_,_,rfl,_⟩:=h;rfl) (fun cdv A outer s H vs Q E hr h=>?_)
 unfold ze0 at h
 obtain⟨a,b,rfl,hL,hb,q⟩:=h
 refine⟨_,(za4 (psS (i:=1) zu9.nd (zb4 oAdd (zb4 oPow za2 za2) (pD zcl7 hr zb5 (za0 (pq 0) (za0 (zb4 oPow za2 za2) za1)))))
   (za6 (zb0 (zb8 (K:=K) rfl (zi6 (za0 (zb4 oAdd za2 (pD zcl7 hr zb5 (za0 (pq 0) (za0 za2 za1)))) (za0 (zb4 oAdd za2 (pD zcl7 hr zb5 (za0 (pq 0) (za0 za2 za1)))) (za0 (pq 1) za1)))) (zb4 oDiv (pD zcl7 hr zb5 (za0 (pq 0) (za0 za2 za1))) za2))))),?_⟩
 walk_at "st"
 walk_at "st"
 refine zd3 hL (by walk_at "om") (by walk_at "om") (by walk_at "om") (fun d1 H1 d10 d11 c1 L1=>?_)
 refine zd3 L1 (by walk_at "om") (by walk_at "om") (by walk_at "om") (fun d2 H2 d20 d21 c2 L2=>?_)
 refine zd3 L2 (by walk_at "om") (by walk_at "om") (by walk_at "om") (fun d3 H3 d30 d31 c3 L3=>?_)
 refine zc5 (fun p4 H4 f4 s4 h4=>?_)
 refine zd3 (L3.same s4) (by walk_at "om") (by walk_at "om") (by walk_at "om") (fun d5 H5 d50 d51 c5 L5=>?_)
 have h45:=c5 _ _ (L3.ne f4) h4
 walk_at "st"
 refine zo1 h45 (by walk_at "om") (by simp only[zcx0,zcz4];omega) ?_
 intro v hv
 obtain⟨m,rfl,m1,m2⟩:∃ m:Int,v=.int m/\1<=m/\m<=2*10 ^ 28:=by
  simp only[zcw3,zcx3,or_false] at hv
  rcases hv with rfl|rfl|rfl<;>exact⟨_,rfl,by walk_at "om",by walk_at "om"⟩
 clear hv
 walk_at "wh"
 exact q m H5 m1 m2 ((((c1.trans c2).trans c3).same s4).trans c5) (L5.up (by walk_at "om"))
theorem zcj7 {z:List Int}{n:Nat}(h:z.length=n):z.map V.int=rowV n fun y=>z.getD y 0:=by
 subst h
 apply zda7
 intro i
 by_cases hi:i<z.length
 ·rw[zas2 hi,zcu9,zcu7 hi,zcv2,zcu7 hi]
  rfl
 ·rw[zcx4 (by simp;omega),zcx4 (by rw[zby1];omega)]
def Fd.Bd (a c:Nat):Fd->Prop
 | .more w _=>w<=2*10 ^ 28
 | .lead w _=>w<=2*10 ^ 28
 | .tab g=>∀ x y,x<=a->y<=c->-(2*10 ^ 28)<=g x y/\g x y<=2*10 ^ 28
@[irreducible] def zd9:Sp:=fun vs H Q _=>∃ (a:Addr) (b:Int) (n m:Nat),vs=[.ref a,.int n,.int m]/\zc1 H a b/\b<=90000/\n<=10/\m<=10/\∀ p f H',Chg a H H'->zc1 H' a (b+1000)->FdAt (nw H H') p n m f->f.Ok->f.Bd n m->Q (.ref p) H'
theorem zao2 {H:Hp}{a:Addr}{b:Int}{n m:Nat}{Q:VK}{E:XK}(hL:zc1 H a b) (hb:b<=90000) (h1:n<=10) (h2:m<=10) (q:∀ p f H',Chg a H H'->zc1 H' a (b+1000)->FdAt (nw H H') p n m f->f.Ok->f.Bd n m->Q (.ref p) H'):zd9 [.ref a,.int n,.int m] H Q E:=by unfold zd9;exact⟨a,b,n,m,rfl,hL,hb,h1,h2,q⟩
theorem zab5 {f:Addr}{fd:FuncData}(F:Fun K "_law_drawn_field" "_law_drawn_field" zf7 f fd) (N:Nm mg) (zcl7:Def P w K mg base CX0 2 "_law_draw" ["_law_left","_law_base"] zd5) (zco4:Def P w K mg base CX0 3 "_law_drawn_worth" ["_law_left"] ze0):FnOk P w K mg base CX0 4 f fd ["_law_left","_law_first","_law_second"] zd9:=by
 refine F.ok zd1 (fun vs H Q E h=>by unfold zd9 at h;obtain⟨_,_,_,_,rfl,_⟩:=h;rfl) (fun cdv A outer s H vs Q E hr h=>?_)
 unfold zd9 at h
 obtain⟨a,b,n,m,rfl,hL,hb,h1,h2,q⟩:=h
 have hu:=hu40 hr
 obtain⟨oa,ea⟩:=hL.some
 refine⟨_,(za4 (psS (i:=3) zd1.nd (pD zcl7 hr zb5 (za0 (pq 0) (za0 za2 za1))))
   (za4 (psS (i:=4) zd1.nd (pD zco4 hr zb5 (za0 (pq 0) za1)))
   (za4 (psIf (ptC (oEqK (K:=K) rfl (by exact hu)) (pq 3) za2) (za4 (psS (i:=5) zd1.nd (zb8 (K:=K) rfl (zi6 (za0 (zb4 oSub (pD zcl7 hr zb5 (za0 (pq 0) (za0 (zb4 oAdd (zb4 oMul za2 (pq 4)) za2) za1))) (pq 4)) (za0 za2 (za0 (pq 4) (za0 (zb4 oSub za2 (pq 4)) za1))))) (pD zcl7 hr zb5 (za0 (pq 0) (za0 za2 za1)))))
   (za6 (zb0 (zh2 (za0 zg5 (za0 (pq 4) (za0 (pq 5) za1))))))) zc2)
   (za4 (psIf (ptC (oEqK (K:=K) rfl (by exact hu)) (pq 3) za2) (za4 (psS (i:=6) zd1.nd (zb4 oSub (zb4 oSub (pD zcl7 hr zb5 (za0 (pq 0) (za0 (zb4 oAdd (zb4 oAdd (pq 1) (pq 2)) za2) za1))) (pq 2)) za2))
   (za4 (psS (i:=7) zd1.nd (zb4 oMul (zb8 (K:=K) rfl (zi6 (za0 za2 (za0 (zaa3 uNeg za2) za1))) (pD zcl7 hr zb5 (za0 (pq 0) (za0 za2 za1)))) (zb4 oPow za2 za2)))
   (za6 (zb0 (zh2 (za0 zg5 (za0 (pq 4) (za0 (zb8 (K:=K) rfl (zi6 (za0 (pq 6) (za0 (pq 6) (za0 (pq 6) (za0 (pq 7) za1))))) (pD zcl7 hr zb5 (za0 (pq 0) (za0 za2 za1)))) za1)))))))) zc2)
   (za4 (psS (i:=8) zd1.nd (zi6 za1))
   (za4 (zac3 PassesOwn.never rfl (zac1 N.range_ (za0 (zb4 oAdd (pq 1) za2) za1)) (za7 (i:=9) zd1.nd rfl (by first|exact Or.inl rfl|exact Or.inr rfl)) (za6 (zr7 (zr4 (pq 8) (za0 (zj5 (N:=["_law_y","_law_left","_law_worth"]) (ks:=[none,some 0,some 4]) (zac1 N.range_ (za0 (zb4 oAdd (pq 2) za2) za1)) (fun cl C s3 H3 fp=>(za7 (i:=0) nb_22 rfl (by first|exact Or.inl rfl|exact Or.inr rfl))) (fun cl C s3 H3 fp=>ze2) (fun cl C s3 H3 fp=>(zb4 oSub (pD zcl7 hr zb5 (za0 (pq 1) (za0 (zb4 oAdd (zb4 oMul za2 (pq 2)) za2) za1))) (pq 2))) (.skip (.take rfl rfl (by first|exact Or.inl rfl|exact Or.inr rfl) (.take rfl rfl (by first|exact Or.inl rfl|exact Or.inr rfl) .nil)))) za1)))))
   (za6 (zb0 (zh2 (za0 zg5 (za0 (pq 8) za1))))))))))),?_⟩
 refine zd3 hL (by walk_at "om") (by walk_at "om") (by walk_at "om") (fun kd H1 k0 k1 c1 L1=>?_)
 refine zao4 L1 (by walk_at "om") (fun wt H2 w0 w1 c2 L2=>?_)
 have c02:=c1.trans c2
 refine ze9 (fun e0=>?_) (fun e0=>?_)
 ·walk_at "st"
  refine zd3 L2 (by walk_at "om") (by walk_at "om") (by walk_at "om") (fun d3 H3 d30 d31 c3 L3=>?_)
  refine zc5 (fun p4 H4 f4 s4 h4=>?_)
  refine zd3 (L3.same s4) (by walk_at "om") (by walk_at "om") (by walk_at "om") (fun d5 H5 d50 d51 c5 L5=>?_)
  have h45:=c5 _ _ (L3.ne f4) h4
  refine zo1 h45 (by walk_at "om") (by simp only[zcx0,zcz4];omega) ?_
  intro v hv
  obtain⟨t,rfl,t1,t2⟩:∃ t:Int,v=.int t/\-wt<=t/\t<=wt:=by
   simp only[zcw3,zcx3,or_false] at hv
   rcases hv with rfl|rfl|rfl|rfl<;>exact⟨_,rfl,by walk_at "om",by walk_at "om"⟩
  clear hv
  refine zb7 (fun p6 H6 f6 s6 h6=>?_)
  walk_at "wh"
  have c05:Chg a H H5:=(((c02.trans c3).same s4).trans c5)
  refine q p6 (.more wt t) H6 (c05.same s6) ((L5.same s6).up (by walk_at "om")) ?_ ⟨w0,t1,t2⟩ w1
  exact zy1 (Chg.free' c05 f6 (L5.ne f6)) h6
 refine ze9 (fun e1=>?_) (fun e1=>?_)
 ·walk_at "wh"
  refine zd3 L2 (by walk_at "om") (by walk_at "om") (by walk_at "om") (fun d3 H3 d30 d31 c3 L3=>?_)
  refine zc5 (fun p4 H4 f4 s4 h4=>?_)
  refine zd3 (L3.same s4) (by walk_at "om") (by walk_at "om") (by walk_at "om") (fun d5 H5 d50 d51 c5 L5=>?_)
  have h45:=c5 _ _ (L3.ne f4) h4
  refine zo1 h45 (by walk_at "om") (by simp only[zcx0,zcz4];omega) ?_
  intro v hv
  obtain⟨sg,rfl,sg1,sg2⟩:∃ t:Int,v=.int t/\-1<=t/\t<=1:=by
   simp only[zcw3,zcx3,or_false] at hv
   rcases hv with rfl|rfl<;>exact⟨_,rfl,by walk_at "om",by walk_at "om"⟩
  clear hv
  walk_at "st"
  refine zbs2 (by walk_at "om") (by walk_at "om") ?_
  refine zc5 (fun p6 H6 f6 s6 h6=>?_)
  refine zd3 (L5.same s6) (by walk_at "om") (by walk_at "om") (by walk_at "om") (fun d7 H7 d70 d71 c7 L7=>?_)
  have h67:=c7 _ _ (L5.ne f6) h6
  refine zo1 h67 (by walk_at "om") (by simp only[zcx0,zcz4];omega) ?_
  intro v hv
  obtain⟨t,rfl⟩:∃ t:Int,v=.int t:=by
   simp only[zcw3,zcx3,or_false] at hv
   rcases hv with rfl|rfl|rfl|rfl<;>exact⟨_,rfl⟩
  clear hv
  refine zb7 (fun p8 H8 f8 s8 h8=>?_)
  walk_at "wh"
  have c07:Chg a H H7:=((((c02.trans c3).same s4).trans c5).same s6).trans c7
  refine q p8 (.lead wt t) H8 (c07.same s8) ((L7.same s8).up (by walk_at "om")) ?_ w0 w1
  exact zy1 (Chg.free' c07 f8 (L7.ne f8)) h8
 refine zc5 (fun r H3 f3 s3 h3=>?_)
 have nr:r≠a:=L2.ne f3
 have fr:H r=none:=Chg.free' c02 f3 nr
 refine zt5 (by decide) (by decide) (by walk_at "om") (by walk_at "om") ?_
 rw[show ((n:Int)+1 - 0).toNat=n+1 by walk_at "om"]
 refine zw1 (fun i σ H4=>∃ (x:Option V) (t1 t2 t3:Option V) (qs:List Addr) (zs:List (List Int)),σ=[some (.ref a),some (.int n),some (.int m),some (.int kd),some (.int wt),t1,t2,t3,some (.ref r),x]/\Chg a H H4/\zc1 H4 a (b+20+50*i)/\H4 r=some (.lst (qs.map V.ref))/\qs.length=i/\zs.length=i/\∀ (k:Nat) q z,qs[k]?=some q->zs[k]?=some z->H q=none/\q≠r/\q≠a/\H4 q=some (.lst (z.map V.int))/\z.length=m+1/\∀ v∈z,-wt<=v/\v<=wt) ?_ ?_ ?_
 ·exact⟨_,_,_,_,[],[],rfl,c02.same s3,(L2.same s3).up (by walk_at "om"),h3,rfl,rfl,fun k q z e=>by simp at e⟩
 ·rintro i σ H4 hi ⟨x0,t1,t2,t3,qs,zs,rfl,c4,L4,h4,ql,zl,pr⟩
  have hi:i<n+1:=hi
  refine zaa7 h4 ?_
  refine zt5 (by decide) (by decide) (by walk_at "om") (by walk_at "om") ?_
  rw[show ((m:Int)+1 - 0).toNat=m+1 by walk_at "om"]
  refine zaj7 (by rw[sizeLine_eq];omega) (fun acc H5 f5 s5 h5=>?_)
  have na:acc≠a:=L4.ne f5
  have nra:r≠acc:=za5 h4 f5
  refine⟨fun j ys σ H6=>∃ (t:Option V) (z:List Int),σ=[t,some (.ref a),some (.int wt)]/\ys=z.map V.int/\z.length=j/\(∀ v∈z,-wt<=v/\v<=wt)/\zc1 H6 a (b+20+50*i+4*j)/\Chg2 a acc H4 H6,?_,?_,?_⟩
  ·exact⟨none,[],rfl,rfl,rfl,fun v hv=>(by cases hv),(L4.same s5).up (by walk_at "om"),s5.to2⟩
  ·rintro j m' ys σ H6 hj hm hl h6 ⟨t,z,rfl,rfl,lz,bz,L6,c6⟩
   have hj:j<m+1:=hj
   refine br_T ?_
   walk_at "st"
   refine zd3 L6 (by walk_at "om") (by walk_at "om") (by walk_at "om") (fun d H7 d0 d1 c7 L7=>?_)
   refine zbe7 hj hm hl (c7 _ _ na h6) (fun H8 c8 h8=>?_)
   exact⟨_,z++[d - wt],rfl,by rw[zcx8];rfl,by rw[zcv9,lz];rfl,fun v hv=>by
    rcases zcy0.mp hv with hv|hv
    ·exact bz v hv
    ·rw[zcz7.mp hv];omega,(L7.chg c8 (Ne.symm na)).up (by walk_at "om"),(c6.trans c7.toL).trans c8.toR⟩
  ·rintro ys σ H6 h6 ⟨t,z,rfl,rfl,lz,bz,L6,c6⟩
   walk_at "wh"
   have h4r:H6 r=some (.lst (qs.map V.ref)):=c6 _ _ nr nra h4
   refine zai6 h4r (by rw[zcu6,sizeLine_eq];omega) (fun H7 c7 h7=>?_)
   walk_at "wh"
   have facc:H acc=none:=Chg.free' c4 f5 na
   refine⟨_,_,_,_,qs++[acc],zs++[z],rfl,fun b o z1 e=>c7 _ _ (za5 e fr) (c6 _ _ z1 (za5 e facc) (c4 _ _ z1 e)),(L6.chg c7 (Ne.symm nr)).up (by walk_at "om"),by rw[h7,zcx8];rfl,by rw[zcv9,ql];rfl,by rw[zcv9,zl];rfl,fun k q z' g1 g2=>?_⟩
   by_cases hk:k<qs.length
   ·rw[zcy4 hk] at g1
    rw[zcy4 (by walk_at "om")] at g2
    obtain⟨y1,y2,y3,y4,y5,y6⟩:=pr k q z' g1 g2
    exact⟨y1,y2,y3,c7 _ _ y2 (c6 _ _ y3 (za5 y4 f5) y4),y5,y6⟩
   ·rw[zcy8 (by walk_at "om")] at g1 g2
    have k0:k - qs.length=0:=by
     have:=(zcv3.mp g1).1
     simp at this;omega
    rw[k0] at g1
    rw[show k - zs.length=0 by walk_at "om"] at g2
    cases g1
    cases g2
    exact⟨facc,Ne.symm nra,na,c7 _ _ (Ne.symm nra) h6,lz,bz⟩
 ·rintro σ H4 ⟨x0,t1,t2,t3,qs,zs,rfl,c4,L4,h4,ql,zl,pr⟩
  refine zb7 (fun p5 H5 f5 s5 h5=>?_)
  walk_at "wh"
  refine q p5 (.tab fun x y=>(zs.getD x []).getD y 0) H5 (c4.same s5) ((L4.same s5).up (by walk_at "om")) ⟨r,qs,zy1 (Chg.free' c4 f5 (L4.ne f5)) h5,zy1 fr (s5 _ _ h4),ql,fun i p e=>?_⟩ trivial (fun x y hx hy=>?_)
  case refine_2=>
   obtain⟨q0,eq0⟩:∃ q0,qs[x]?=some q0:=⟨_,zcu7 (by walk_at "om")⟩
   obtain⟨z,ez⟩:∃ z,zs[x]?=some z:=⟨_,zcu7 (by walk_at "om")⟩
   obtain⟨_,_,_,_,y5,y6⟩:=pr x q0 z eq0 ez
   have eg:zs.getD x []=z:=by rw[zcv2,ez];rfl
   obtain⟨v,ev⟩:∃ v,z[y]?=some v:=⟨_,zcu7 (by walk_at "om")⟩
   have ev2:z.getD y 0=v:=by rw[zcv2,ev];rfl
   show -(2*10 ^ 28)<=(zs.getD x []).getD y 0/\(zs.getD x []).getD y 0<=2*10 ^ 28
   rw[eg,ev2]
   have:=y6 v (zcv1 ev)
   omega
  obtain⟨z,ez⟩:∃ z,zs[i]?=some z:=⟨_,zcu7 (by have:=(zcv3.mp e).1;omega)⟩
  obtain⟨y1,y2,y3,y4,y5,_⟩:=pr i p z e ez
  have eg:zs.getD i []=z:=by rw[zcv2,ez];rfl
  show nw H H5 p=some (.lst (rowV (m+1) fun y=>(zs.getD i []).getD y 0))
  rw[eg,← zcj7 y5]
  exact zy1 y1 (s5 _ _ y4)
theorem zca8 (k:Nat) (q:Addr):(List.replicate k [V.ref q]).flatten=(List.replicate k q).map V.ref:=by
 induction k with
 | zero=>rfl
 | succ n ih=>rw[zda3,zdb8,ih];rfl
@[irreducible] def zd4:Sp:=fun vs H Q _=>∃ (a:Addr) (b:Int),vs=[.ref a,.int 10,.int 5]/\zc1 H a b/\b<=1000/\∀ bt l ps n m fs H',Chg a H H'->zc1 H' a (b+10000)->zq3 (rm a H') bt l ps n m fs->OkB n m fs->(∀ f∈fs,f.Bd n m)->Q (.ref bt) H'
theorem zal7 {H:Hp}{a:Addr}{b:Int}{Q:VK}{E:XK}(hL:zc1 H a b) (hb:b<=1000) (q:∀ bt l ps n m fs H',Chg a H H'->zc1 H' a (b+10000)->zq3 (rm a H') bt l ps n m fs->OkB n m fs->(∀ f∈fs,f.Bd n m)->Q (.ref bt) H'):zd4 [.ref a,.int 10,.int 5] H Q E:=by unfold zd4;exact⟨a,b,rfl,hL,hb,q⟩
theorem zz9 {f:Addr}{fd:FuncData}(F:Fun K "_law_drawn_battle" "_law_drawn_battle" zf2 f fd) (N:Nm mg) (zcl7:Def P w K mg base CX0 2 "_law_draw" ["_law_left","_law_base"] zd5) (zco5:Def P w K mg base CX0 4 "_law_drawn_field" ["_law_left","_law_first","_law_second"] zd9):FnOk P w K mg base CX0 5 f fd ["_law_left","_law_most","_law_many"] zd4:=by
 refine F.ok zg7 (fun vs H Q E h=>by unfold zd4 at h;obtain⟨_,_,rfl,_⟩:=h;rfl) (fun cdv A outer s H vs Q E hr h=>?_)
 unfold zd4 at h
 obtain⟨a,b,rfl,hL,hb,q⟩:=h
 have hu:=hu40 hr
 refine⟨_,(za4 (psS (i:=3) zg7.nd (pD zcl7 hr zb5 (za0 (pq 0) (za0 (zb4 oAdd (pq 1) za2) za1))))
   (za4 (psS (i:=4) zg7.nd (pD zcl7 hr zb5 (za0 (pq 0) (za0 (zb4 oAdd (pq 1) za2) za1))))
   (za4 (psC (i:=5) (N:=["_law_k","_law_left","_law_first","_law_second"]) (ks:=[none,some 0,some 3,some 4]) zg7.nd (zac1 N.range_ (za0 (zb4 oAdd za2 (pD zcl7 hr zb5 (za0 (pq 0) (za0 (pq 2) za1)))) za1)) (fun cl C s3 H3 fp=>(za7 (i:=0) nb_23 rfl (by first|exact Or.inl rfl|exact Or.inr rfl))) (fun cl C s3 H3 fp=>ze2) (fun cl C s3 H3 fp=>(pD zco5 hr zb5 (za0 (pq 1) (za0 (pq 2) (za0 (pq 3) za1))))) (.skip (.take rfl rfl (by first|exact Or.inl rfl|exact Or.inr rfl) (.take rfl rfl (by first|exact Or.inl rfl|exact Or.inr rfl) (.take rfl rfl (by first|exact Or.inl rfl|exact Or.inr rfl) .nil)))))
   (za4 (zbk0 (psIf (ptC (oEqK (K:=K) rfl (by exact hu)) (pD zcl7 hr zb5 (za0 (pq 0) (za0 za2 za1))) za2) (za6 (psS (i:=5) zg7.nd (zb4 oMul (zj4 (slK (K:=K) rfl) (pq 5) zn8 (zt0 za2)) (pB (zq4 (K:=K) rfl) N.len_ zj3 (za0 (pq 5) za1))))) zc2))
   (za6 (zb0 (zh2 (za0 (pq 3) (za0 (pq 4) (za0 (pq 5) za1)))))))))),?_⟩
 refine zd3 hL (by walk_at "om") (by walk_at "om") (by walk_at "om") (fun d1 H1 d10 d11 c1 L1=>?_)
 obtain⟨n,rfl⟩:∃ n:Nat,d1=n:=⟨d1.toNat,by walk_at "om"⟩
 refine zd3 L1 (by walk_at "om") (by walk_at "om") (by walk_at "om") (fun d2 H2 d20 d21 c2 L2=>?_)
 obtain⟨m,rfl⟩:∃ n:Nat,d2=n:=⟨d2.toNat,by walk_at "om"⟩
 refine zd3 L2 (by walk_at "om") (by walk_at "om") (by walk_at "om") (fun d3 H3 d30 d31 c3 L3=>?_)
 have c03:=(c1.trans c2).trans c3
 refine zt5 (by decide) (by decide) (by walk_at "om") (by walk_at "om") ?_
 obtain⟨z,ez⟩:∃ z:Nat,(1+d3 - 0).toNat=z:=⟨_,rfl⟩
 rw[ez]
 have hz:1<=z/\z<=5:=by walk_at "om"
 refine zaj7 (by rw[sizeLine_eq];omega) (fun acc H4 f4 s4 h4=>?_)
 have na:acc≠a:=L3.ne f4
 have facc:H acc=none:=Chg.free' c03 f4 na
 refine⟨fun j ys σ H5=>∃ (t:Option V) (qs:List Addr) (fs:List Fd),σ=[t,some (.ref a),some (.int n),some (.int m)]/\ys=qs.map V.ref/\qs.length=j/\fs.length=j/\(∀ f∈fs,f.Bd n m)/\zc1 H5 a (b+12+1000*j)/\Chg2 a acc H3 H5/\∀ (k:Nat) q f,qs[k]?=some q->fs[k]?=some f->FdAt (rm a (rm acc H5)) q n m f/\f.Ok,?_,?_,?_⟩
 ·exact⟨none,[],[],rfl,rfl,rfl,rfl,fun f hf=>(by cases hf),(L3.same s4).up (by walk_at "om"),s4.to2,fun k q f e=>by simp at e⟩
 ·rintro j m' ys σ H5 hj hm hl h5 ⟨t,qs,fs,rfl,rfl,ql,fl,fb,L5,c5,pr⟩
  have hj:j<z:=hj
  obtain⟨oa,ea⟩:=L5.some
  refine br_T ?_
  refine zao2 L5 (by walk_at "om") (by walk_at "om") (by walk_at "om") (fun p6 f H6 c6 L6 F6 ok bd=>?_)
  refine zbe7 hj hm hl (c6 _ _ na h5) (fun H7 c7 h7=>?_)
  refine⟨_,qs++[p6],fs++[f],rfl,by rw[zcx8];rfl,by rw[zcv9,ql];rfl,by rw[zcv9,fl];rfl,fun f' hf=>by
   rcases zcy0.mp hf with hf|hf
   ·exact fb f' hf
   ·rw[zcz7.mp hf];exact bd,(L6.chg c7 (Ne.symm na)).up (by walk_at "om"),(c5.trans c6.toL).trans c7.toR,fun k p f' g1 g2=>?_⟩
  by_cases hk:k<qs.length
  ·rw[zcy4 hk] at g1
   rw[zcy4 (by walk_at "om")] at g2
   obtain⟨y1,y2⟩:=pr k p f' g1 g2
   refine⟨y1.same (fun b o e=>?_),y2⟩
   have e1:=zm1 e
   have e2:=zm1 e1.2
   exact zf6 e1.1 (zf6 e2.1 (c7 _ _ e2.1 (c6 _ _ e1.1 e2.2)))
  ·rw[zcy8 (by walk_at "om")] at g1 g2
   have k0:k - qs.length=0:=by
    have:=(zcv3.mp g1).1
    simp at this;omega
   rw[k0] at g1
   rw[show k - fs.length=0 by walk_at "om"] at g2
   cases g1
   cases g2
   refine⟨F6.same (fun b o e=>?_),ok⟩
   have e1:=zan9 e
   have n1:b≠a:=fun w=>by rw[w,ea] at e1;cases e1.1
   have n2:b≠acc:=fun w=>by rw[w,h5] at e1;cases e1.1
   exact zf6 n1 (zf6 n2 (c7 _ _ n2 e1.2))
 ·rintro ys σ H5 h5 ⟨t,qs,fs,rfl,rfl,ql,fl,fb,L5,c5,pr⟩
  have c05:Chg a H H5:=fun b o z1 e=>c5 _ _ z1 (za5 e facc) (c03 _ _ z1 e)
  have pr':∀ (k:Nat) q f,qs[k]?=some q->fs[k]?=some f->FdAt (rm a H5) q n m f/\f.Ok:=fun k q f g1 g2=>⟨(pr k q f g1 g2).1.same (Same.rm (zb9 acc H5)),(pr k q f g1 g2).2⟩
  refine zbg5 (fun σ H6=>∃ (l:Addr) (ps:List Addr) (fs:List Fd),σ=[some (.ref a),some (.int 10),some (.int 5),some (.int n),some (.int m),some (.ref l)]/\Chg a H H6/\zc1 H6 a (b+10000)/\l≠a/\H6 l=some (.lst (ps.map V.ref))/\ps.length=fs.length/\(1<=fs.length/\fs.length<=5)/\(∀ f∈fs,f.Bd n m)/\∀ (k:Nat) p f,ps[k]?=some p->fs[k]?=some f->FdAt (rm a H6) p n m f/\f.Ok) ?_ ?_
  ·walk_at "wh"
   refine zd3 L5 (by walk_at "om") (by walk_at "om") (by walk_at "om") (fun d6 H6 d60 d61 c6 L6=>?_)
   have h6:=c6 _ _ na h5
   have pr6:∀ (k:Nat) q f,qs[k]?=some q->fs[k]?=some f->FdAt (rm a H6) q n m f/\f.Ok:=fun k q f g1 g2=>⟨(pr' k q f g1 g2).1.same (Chg.rm c6),(pr' k q f g1 g2).2⟩
   refine ze9 (fun e0=>?_) (fun e0=>?_)
   ·obtain⟨q0,eq0⟩:∃ q0,qs[0]?=some q0:=⟨_,zcu7 (by walk_at "om")⟩
    obtain⟨g0,eg0⟩:∃ q0,fs[0]?=some q0:=⟨_,zcu7 (by walk_at "om")⟩
    have tk:cutV (qs.map V.ref) none (some 1)=[V.ref q0]:=by
     rw[zw0 (by decide)]
     cases qs with
     | nil=>simp at eq0
     | cons x xs=>simp at eq0;subst eq0;rfl
    refine zam7 (SqL.of h6) (fun p7 H7 f7 s7 h7=>?_)
    rw[tk] at h7
    refine zh4 (s7 _ _ h6) ?_
    rw[zcu6,ql]
    refine zbu2 h7 (by walk_at "om") (by walk_at "om") (by rw[sizeLine_eq,zcw7];omega) (fun p8 H8 f8 s8 h8=>?_)
    rw[zca8] at h8
    walk_at "wh"
    have s68:=s7.trans s8
    refine⟨p8,List.replicate (z:Int).toNat q0,List.replicate (z:Int).toNat g0,rfl,(c05.trans c6).same s68,(L6.same s68).up (by walk_at "om"),(L6.same s7).ne f8,h8,by rw[zdc1,zdc1],by rw[zdc1];omega,fun f hf=>by rw[zdb5 hf];exact fb g0 (zcv1 eg0),fun k p f g1 g2=>?_⟩
    have e1:p=q0:=zdb5 (zcv1 g1)
    have e2:f=g0:=zdb5 (zcv1 g2)
    subst e1 e2
    exact⟨(pr6 0 p f eq0 eg0).1.same (Same.rm s68),(pr6 0 p f eq0 eg0).2⟩
   ·walk_at "wh"
    exact⟨acc,qs,fs,rfl,c05.trans c6,L6.up (by walk_at "om"),na,h6,by walk_at "om",by walk_at "om",fb,pr6⟩
  ·rintro σ H6 ⟨l,ps,fs',rfl,c6,L6,nl,h6,pl',fl',fb',pr6⟩
   refine zb7 (fun p7 H7 f7 s7 h7=>?_)
   walk_at "wh"
   exact q p7 l ps n m fs' H7 (c6.same s7) (L6.same s7) ⟨zf6 (L6.ne f7) h7,zf6 nl (s7 _ _ h6),pl',fun i p f g1 g2=>⟨(pr6 i p f g1 g2).1.same (Same.rm s7),(pr6 i p f g1 g2).2⟩⟩ ⟨⟨by walk_at "om",by walk_at "om"⟩,fl'⟩ fb'
@[irreducible] def zaj1:Sp:=fun vs H Q _=>∃ (p:Addr) (a c x y:Nat) (f:Fd),vs=[.ref p,.int x,.int y]/\FdAt H p a c f/\x<=a/\y<=c/\Q (.int (f.won x y)) H
theorem won_rd {H:Hp}{p:Addr}{a c x y:Nat}{f:Fd}{Q:VK}{E:XK}(F:FdAt H p a c f) (h1:x<=a) (h2:y<=c) (q:Q (.int (f.won x y)) H):zaj1 [.ref p,.int x,.int y] H Q E:=by unfold zaj1;exact⟨p,a,c,x,y,f,rfl,F,h1,h2,q⟩
theorem ok_won {f:Addr}{fd:FuncData}(F:Fun K "won" "won" zbl3 f fd) (N:Nm mg):FnOk P w K mg base CX0 1 f fd ["field","x","y"] zaj1:=by
 refine F.ok sc_won (fun vs H Q E h=>by unfold zaj1 at h;obtain⟨_,_,_,_,_,_,rfl,_⟩:=h;rfl) (fun cdv A outer s H vs Q E hr h=>?_)
 unfold zaj1 at h
 obtain⟨p,a,c,x,y,f,rfl,F,h1,h2,q⟩:=h
 have hu:=hu40 hr
 refine⟨_,(za4 (psIf (ptC (oEqK (K:=K) rfl (by exact hu)) (zb8 (K:=K) rfl (pq 0) za2) zg5) (za6 (zb0 (zb8 (K:=K) rfl (zb8 (K:=K) rfl (zb8 (K:=K) rfl (pq 0) za2) (pq 1)) (pq 2)))) zc2)
   (za4 (psIf (ptC (oEqK (K:=K) rfl (by exact hu)) (zb8 (K:=K) rfl (pq 0) za2) zg5) (za6 (zb0 (peIf (ptC oGe (zb4 oSub (pq 1) (pq 2)) (zb8 (K:=K) rfl (pq 0) za2)) (zb8 (K:=K) rfl (pq 0) za2) (zaa3 uNeg (zb8 (K:=K) rfl (pq 0) za2))))) zc2)
   (za4 (psIf (ptC (oEqK (K:=K) rfl (by exact hu)) (pq 1) (pq 2)) (za6 (zb0 (zb8 (K:=K) rfl (pq 0) za2))) zc2)
   (za6 (zb0 (peIf (ptC oGt (pq 1) (pq 2)) (zb8 (K:=K) rfl (pq 0) za2) (zaa3 uNeg (zb8 (K:=K) rfl (pq 0) za2)))))))),?_⟩
 cases f with
 | more wt t=>
  have F:H p=some (.tup [.str "more",.int wt,.int t]):=F
  refine zb6 (v:=.str "more") F rfl ?_
  refine zy6 (by decide) ?_
  refine zb6 (v:=.str "more") F rfl ?_
  refine zy6 (by decide) ?_
  walk_at "wh"
  have q:Q (.int (if x=y then t else if y<x then wt else -wt)) H:=q
  refine ze9 (fun h=>?_) (fun h=>?_)
  ·walk_at "wh"
   refine zb6 (v:=.int t) F rfl ?_
   walk_at "wh"
   rw[if_pos (by walk_at "om")] at q
   exact q
  ·rw[if_neg (by walk_at "om")] at q
   refine ze9 (fun h=>?_) (fun h=>?_)
   ·walk_at "wh"
    refine zb6 (v:=.int wt) F rfl ?_
    walk_at "wh"
    rw[if_pos (by walk_at "om")] at q
    exact q
   ·walk_at "wh"
    refine zb6 (v:=.int wt) F rfl ?_
    walk_at "wh"
    rw[if_neg (by walk_at "om")] at q
    exact q
 | lead wt l=>
  have F:H p=some (.tup [.str "lead",.int wt,.int l]):=F
  refine zb6 (v:=.str "lead") F rfl ?_
  refine zy6 (by decide) ?_
  refine zb6 (v:=.str "lead") F rfl ?_
  refine zad2 rfl ?_
  refine zb6 (v:=.int l) F rfl ?_
  walk_at "wh"
  have q:Q (.int (if l<=(x:Int) - y then wt else -wt)) H:=q
  refine ze9 (fun h=>?_) (fun h=>?_)
  ·walk_at "wh"
   refine zb6 (v:=.int wt) F rfl ?_
   walk_at "wh"
   rw[if_pos (by walk_at "om")] at q
   exact q
  ·walk_at "wh"
   refine zb6 (v:=.int wt) F rfl ?_
   walk_at "wh"
   rw[if_neg (by walk_at "om")] at q
   exact q
 | tab g=>
  obtain⟨q',ps,F,G⟩:=F
  obtain⟨r,er,hr'⟩:=G.some (i:=x) (by walk_at "om")
  refine zb6 (v:=.str "table") F rfl ?_
  refine zad2 rfl ?_
  refine zb6 (v:=.ref q') F rfl ?_
  refine zg6 (v:=.ref r) G.out (zl6 (by rw[zcu9,er];rfl)) ?_
  refine zg6 (v:=.int (g x y)) hr' (zl6 (zas2 (by walk_at "om"))) ?_
  walk_at "wh"
  exact q
theorem zau0 {α:Type}(c:Int) (f:α->Int):∀ xs:List α,(xs.map fun x=>c*f x).sum=c*(xs.map f).sum
 | []=>by simp
 | x :: xs=>by
  rw[zcy2,zcy2,zda0,zda0,zau0 c f xs,Int.mul_add]
theorem zar5 {α β:Type}(F:α->β->Int):∀ (xs:List α) (ys:List β),(xs.map fun x=>(ys.map fun y=>F x y).sum).sum=(ys.map fun y=>(xs.map fun x=>F x y).sum).sum
 | [],ys=>by
  have:∀ ys:List β,(ys.map fun _=>(0:Int)).sum=0:=fun ys=>by
   induction ys with
   | nil=>rfl
   | cons y ys ih=>rw[zcy2,zda0,ih];rfl
  exact (this ys).symm
 | x :: xs,ys=>by
  rw[zcy2,zda0,zar5 F xs ys,← zai1]
  rfl
theorem zbt0 {B:Int}:∀ {xs:List Int},(∀ x∈xs,-B<=x/\x<=B)->-(xs.length*B)<=xs.sum/\xs.sum<=xs.length*B
 | [],_=>by simp
 | x :: xs,h=>by
  have h0:=h x (.head _)
  have:=zbt0 (xs:=xs) fun y hy=>h y (.tail _ hy)
  rw[zda0,zcx0]
  have e:((xs.length+1:Nat):Int)*B=xs.length*B+B:=by push_cast;rw[Int.add_mul,Int.one_mul]
  rw[e]
  omega
theorem zbg3 {x y A B:Int}(hx:-A<=x/\x<=A) (hy:-B<=y/\y<=B):-(A*B)<=x*y/\x*y<=A*B:=by
 have h1:0<=A:=by walk_at "om"
 have h2:0<=B:=by walk_at "om"
 have a:(x*y).natAbs<=(A*B).natAbs:=by
  rw[Int.natAbs_mul,Int.natAbs_mul]
  exact Nat.mul_le_mul (by walk_at "om") (by walk_at "om")
 have b:0<=A*B:=Int.mul_nonneg h1 h2
 omega
def shr (h:Nat) (xs:List (Int×Int×Int)):List Int:=(List.range (h+1)).map fun (c:Nat)=>(valG (sumG (xs.map fun z=>(z.2.1,z.2.2))) (c:Int)).getD 0
theorem val_at {κ:Type}[DecidableEq κ] (zs:List (κ×Int)) (k:κ):(valG (sumG zs) k).getD 0=atG zs k:=by
 rw[zaf8]
 by_cases h:k∈zs.map (·.1)
 ·rw[if_pos h];rfl
 ·rw[if_neg h]
  have:(zs.filter fun z=>decide (z.1=k))=[]:=List.filter_eq_nil_iff.mpr fun z hz e=>h (zcx6.mpr ⟨z,hz,of_decide_eq_true e⟩)
  unfold atG
  rw[this];rfl
theorem zcd4 {ms:List (List Int×Int)}{h:Int}{f i:Nat}{xs:List (Int×Int×Int)}(O:OkS ms h f) (hi:i<f) (R:zaa1 ms i xs) (n:Nat):shr n xs=(List.range (n+1)).map fun (c:Nat)=>atG (ms.map fun x=>(x.1.getD i 0,x.2)) (c:Int):=by
 unfold shr
 refine zcx5 fun c _=>?_
 have a:=zak0 R (fun z hz=>(zah8 O hi R hz).2.2.1) (fun q=>q.2) (c:Int)
 have a:valG (sumG (xs.map fun z=>(z.2.1,z.2.2))) (c:Int)=valG (sumG ((flw ms i).map fun z=>(z.1.2,z.2))) (c:Int):=a
 rw[a,val_at]
 unfold flw
 rw[zcy1]
 rfl
theorem zbs3 (n:Nat) (k:Int) (w:Int) (g:Nat->Int) (h0:0<=k) (h1:k<=n):((List.range (n+1)).map fun (c:Nat)=>(if k=(c:Int) then w else 0)*g c).sum=w*g k.toNat:=by
 have e:∀ c:Nat,(if k=(c:Int) then w else 0)*g c=if k.toNat=c then w*g k.toNat else 0:=fun c=>by
  by_cases e:k=(c:Int)
  ·rw[if_pos e,if_pos (by walk_at "om")]
   have:k.toNat=c:=by walk_at "om"
   rw[this]
  ·rw[if_neg e,if_neg (by walk_at "om"),Int.zero_mul]
 have e2:((List.range (n+1)).map fun (c:Nat)=>(if k=(c:Int) then w else 0)*g c)=((List.range (n+1)).filter fun _=>true).map fun c=>if k.toNat=c then w*g k.toNat else 0:=by
  rw[List.filter_eq_self.mpr fun _ _=>rfl]
  exact zcx5 fun c _=>e c
 rw[e2,zbb3 (p:=fun _=>true) List.nodup_range,if_pos ⟨zda2.mpr (by walk_at "om"),rfl⟩]
theorem zcd6 (n:Nat) (g:Nat->Int):∀ {zs:List (Int×Int)},(∀ z∈zs,0<=z.1/\z.1<=n)->((List.range (n+1)).map fun (c:Nat)=>atG zs (c:Int)*g c).sum=(zs.map fun z=>z.2*g z.1.toNat).sum
 | [],_=>by
  have:∀ xs:List Nat,(xs.map fun (c:Nat)=>atG ([]:List (Int×Int)) (c:Int)*g c).sum=0:=fun xs=>by
   induction xs with
   | nil=>rfl
   | cons x xs ih=>
    rw[zcy2,zda0,ih]
    show (0:Int)*g x+0=0
    rw[Int.zero_mul];rfl
  exact this _
 | z :: zs,h=>by
  have ih:=zcd6 n g (zs:=zs) fun y hy=>h y (.tail _ hy)
  have h0:=h z (.head _)
  have e:((List.range (n+1)).map fun (c:Nat)=>atG (z :: zs) (c:Int)*g c)=(List.range (n+1)).map fun (c:Nat)=>(if z.1=(c:Int) then z.2 else 0)*g c+atG zs (c:Int)*g c:=zcx5 fun c _=>by rw[zai2,Int.add_mul]
  rw[e,zai1,ih,zbs3 n z.1 z.2 g h0.1 h0.2,zcy2,zda0]
def dotG (ns:List Int) (g:Nat->Int):Int:=((List.range ns.length).map fun c=>ns.getD c 0*g c).sum
theorem zba5 (n:Nat) (xs:List (Int×Int×Int)):(shr n xs).length=n+1:=by unfold shr;rw[zcu6,zcy3]
theorem zbo5 {ms:List (List Int×Int)}{n f i:Nat}{xs:List (Int×Int×Int)}(O:OkS ms n f) (hi:i<f) (R:zaa1 ms i xs) (g:Nat->Int):dotG (shr n xs) g=(ms.map fun x=>x.2*g (x.1.getD i 0).toNat).sum:=by
 unfold dotG
 rw[zba5,zcd4 O hi R]
 have e:((List.range (n+1)).map fun c=>((List.range (n+1)).map fun (c:Nat)=>atG (ms.map fun x=>(x.1.getD i 0,x.2)) (c:Int)).getD c 0*g c)=(List.range (n+1)).map fun (c:Nat)=>atG (ms.map fun x=>(x.1.getD i 0,x.2)) (c:Int)*g c:=zcx5 fun c hc=>by
  rw[zcv2,zcu9,zcz9 (zda2.mp hc)];rfl
 rw[e,zcd6 n g,zcy1]
 ·rfl
 ·intro z hz
  obtain⟨x,hx,rfl⟩:=zcx6.mp hz
  obtain⟨nn,xl,xs',_⟩:=O.all x hx
  have d0:=zw8 nn (i:=0) (by walk_at "om")
  have hin:x.1.getD i 0∈x.1:=by rw[zcv2,zcu7 (by walk_at "om")];exact zdc2 _
  have:=(zr3 nn).1 _ hin
  exact⟨nn _ hin,by show x.1.getD i 0<=(n:Int);omega⟩
theorem zcf5 {ms:List (List Int×Int)}{n f i:Nat}{xs:List (Int×Int×Int)}{B:Int}(O:OkS ms n f) (hi:i<f) (R:zaa1 ms i xs) (hB:(ms.map fun x=>x.2).sum<=B):∀ v∈shr n xs,0<=v/\v<=B:=fun v hv=>by
 rw[zcd4 O hi R] at hv
 obtain⟨c,_,rfl⟩:=zcx6.mp hv
 have w:∀ z∈ms.map fun x=>(x.1.getD i 0,x.2),1<=z.2:=fun z hz=>by
  obtain⟨x,hx,rfl⟩:=zcx6.mp hz
  exact (O.all x hx).2.2.2
 refine⟨(zcf2 w).1,?_⟩
 have le:∀ {zs:List (Int×Int)},(∀ z∈zs,1<=z.2)->∀ k,atG zs k<=(zs.map (·.2)).sum:=fun {zs} h k=>by
  induction zs with
  | nil=>exact Int.le_refl _
  | cons z zs ih=>
   have h0:=h z (.head _)
   have:=ih fun y hy=>h y (.tail _ hy)
   rw[zai2,zcy2,zda0]
   split<;>omega
 have:=le w (c:Int)
 rw[zcy1] at this
 exact Int.le_trans this hB
def wonF (fs:List Fd) (i x y:Nat):Int:=match fs[i]? with
 | some f=>f.won x y
 | none=>0
def gnL (fs:List Fd) (ns ks:List Int):Int:=((List.range fs.length).map fun i=>wonF fs i (ns.getD i 0).toNat (ks.getD i 0).toNat).sum
def totM (fs:List Fd) (ms ls:List (List Int×Int)):Int:=(ms.map fun x=>(ls.map fun y=>x.2*y.2*gnL fs x.1 y.1).sum).sum
def wbc (f:Fd) (x:Nat) (os:List Int):Int:=dotG os fun y=>f.won x y
def wbs (f:Fd) (ns os:List Int):Int:=dotG ns fun x=>wbc f x os
theorem wbs_eq {ms ls:List (List Int×Int)}{a c n i:Nat}{xs ys:List (Int×Int×Int)}{f:Fd}(O:OkS ms a n) (O':OkS ls c n) (hi:i<n) (R:zaa1 ms i xs) (R':zaa1 ls i ys):wbs f (shr a xs) (shr c ys)=(ms.map fun x=>(ls.map fun y=>x.2*y.2*f.won (x.1.getD i 0).toNat (y.1.getD i 0).toNat).sum).sum:=by
 unfold wbs
 rw[zbo5 O hi R]
 refine congrArg List.sum (zcx5 fun x _=>?_)
 unfold wbc
 rw[zbo5 O' hi R',← zau0]
 exact congrArg List.sum (zcx5 fun y _=>(Int.mul_assoc _ _ _).symm)
theorem tot_eq {ms ls:List (List Int×Int)}{a c n:Nat}{xss yss:List (List (Int×Int×Int))}{fs:List Fd}(O:OkS ms a n) (O':OkS ls c n) (S:zbb9 ms n xss) (S':zbb9 ls n yss) (hf:fs.length=n):((List.range n).map fun i=>wbs (fs.getD i (.more 0 0)) (shr a (xss.getD i [])) (shr c (yss.getD i []))).sum=totM fs ms ls:=by
 have e:((List.range n).map fun i=>wbs (fs.getD i (.more 0 0)) (shr a (xss.getD i [])) (shr c (yss.getD i [])))=(List.range n).map fun i=>(ms.map fun x=>(ls.map fun y=>x.2*y.2*wonF fs i (x.1.getD i 0).toNat (y.1.getD i 0).toNat).sum).sum:=zcx5 fun i hi=>by
  have hi:=zda2.mp hi
  have e1:xss[i]?=some (xss.getD i []):=by rw[zcv2,zcu7 (by rw[S.1];exact hi)];rfl
  have e2:yss[i]?=some (yss.getD i []):=by rw[zcv2,zcu7 (by rw[S'.1];exact hi)];rfl
  have e3:fs[i]?=some (fs.getD i (.more 0 0)):=by rw[zcv2,zcu7 (by rw[hf];exact hi)];rfl
  rw[wbs_eq O O' hi (S.2 i _ e1).1 (S'.2 i _ e2).1]
  unfold wonF
  rw[e3]
 rw[e,zar5]
 unfold totM
 refine congrArg List.sum (zcx5 fun x _=>?_)
 rw[zar5]
 refine congrArg List.sum (zcx5 fun y _=>?_)
 unfold gnL
 rw[hf,← zau0]
theorem Fd.won_bd {f:Fd}{a c x y:Nat}(O:f.Ok) (B:f.Bd a c) (hx:x<=a) (hy:y<=c):-(2*10 ^ 28)<=f.won x y/\f.won x y<=2*10 ^ 28:=by
 cases f with
 | more w t=>
  have O:1<=w/\-w<=t/\t<=w:=O
  have B:w<=2*10 ^ 28:=B
  unfold Fd.won
  dsimp only
  split
  ·omega
  ·split<;>omega
 | lead w l=>
  have O:1<=w:=O
  have B:w<=2*10 ^ 28:=B
  unfold Fd.won
  dsimp only
  split<;>omega
 | tab g=>exact B x y hx hy
theorem dot_bd {ns:List Int}{g:Nat->Int}{A B:Int}(h:∀ n∈ns,-A<=n/\n<=A) (hg:∀ c,c<ns.length->-B<=g c/\g c<=B):-(ns.length*(A*B))<=dotG ns g/\dotG ns g<=ns.length*(A*B):=by
 unfold dotG
 have:=zbt0 (B:=A*B) (xs:=(List.range ns.length).map fun c=>ns.getD c 0*g c) fun x hx=>by
  obtain⟨c,hc,rfl⟩:=zcx6.mp hx
  have hc:=zda2.mp hc
  have:ns.getD c 0∈ns:=by rw[zcv2,zcu7 hc];exact zdc2 _
  exact zbg3 (h _ this) (hg c hc)
 rw[zcu6,zcy3] at this
 exact this
@[irreducible] def zk6:Sp:=fun vs H Q _=>∃ (h:Nat) (v:V) (d:PyData),vs=[.int h,v]/\ShV H v d/\rowD d=true/\(zc6 d).length<=1000/\h<=40/\∀ r H',H r=none->Same H H'->H' r=some (.lst ((shr h (rowF d)).map V.int))->Q (.ref r) H'
theorem zas7 {H:Hp}{h:Nat}{v:V}{d:PyData}{Q:VK}{E:XK}(hv:ShV H v d) (rd:rowD d=true) (ld:(zc6 d).length<=1000) (hh:h<=40) (q:∀ r H',H r=none->Same H H'->H' r=some (.lst ((shr h (rowF d)).map V.int))->Q (.ref r) H'):zk6 [.int h,v] H Q E:=by unfold zk6;exact⟨h,v,d,rfl,hv,rd,ld,hh,q⟩
theorem zat1 {f:Addr}{fd:FuncData}(F:Fun K "row_shares" "row_shares" zp4 f fd) (N:Nm mg) (zco9:Def P w K mg base CX0 1 "summed" ["pairs"] zm6):FnOk P w K mg base CX0 2 f fd ["hosts","row"] zk6:=by
 refine F.ok zac8 (fun vs H Q E h=>by unfold zk6 at h;obtain⟨_,_,_,rfl,_⟩:=h;rfl) (fun cdv A outer s H vs Q E hr h=>?_)
 unfold zk6 at h
 obtain⟨h,v,d,rfl,hv,rd,ld,hh,q⟩:=h
 have hu:=hu40 hr
 obtain⟨a,ts,ds,rfl,rfl,ha,hl,hp,_⟩:=zan3 hv rd
 have ld:ds.length<=1000:=ld
 refine⟨_,(za4 (psS (i:=2) zac8.nd (pD zco9 hr zb5 (za0 (zj5 (N:=["left","sent","flow"]) (ks:=[none,none,none]) (zj2 (K:=K) rfl (pq 1)) (fun cl C s3 H3 fp=>(zk3 (K:=K) (n:=3) rfl rfl (zb1 (za7 (i:=0) nb_15 rfl (by first|exact Or.inl rfl|exact Or.inr rfl)) (zb1 (za7 (i:=1) nb_15 rfl (by first|exact Or.inl rfl|exact Or.inr rfl)) (zb1 (za7 (i:=2) nb_15 rfl (by first|exact Or.inl rfl|exact Or.inr rfl)) zk1))))) (fun cl C s3 H3 fp=>ze2) (fun cl C s3 H3 fp=>(zh2 (za0 (pq 1) (za0 (pq 2) za1)))) (.skip (.skip (.skip .nil)))) za1)))
   (za6 (zb0 (zj5 (N:=["count","flows"]) (ks:=[none,some 2]) (zac1 N.range_ (za0 (zb4 oAdd (pq 0) za2) za1)) (fun cl C s3 H3 fp=>(za7 (i:=0) nb_16 rfl (by first|exact Or.inl rfl|exact Or.inr rfl))) (fun cl C s3 H3 fp=>ze2) (fun cl C s3 H3 fp=>(zbh2 (by exact hu) (pq 1) (pq 0) za2)) (.skip (.take rfl rfl (by first|exact Or.inl rfl|exact Or.inr rfl) .nil)))))),?_⟩
 refine zd0 ha ?_
 refine zam8 (Wk.list (SqL.of ha)) (by rw[zcu6,sizeLine_eq];omega) (fun i=>.tup [.int ((rowF (.list ds)).getD i (0,0,0)).2.1,.int ((rowF (.list ds)).getD i (0,0,0)).2.2]) (fun j σ=>∃ t u w:Option V,σ=[t,u,w]) ⟨none,none,none,rfl⟩ ?_ ?_
 ·rintro i x σ I R S hi s1 hx ⟨_,_,_,rfl⟩ k
  rw[zcu6] at hi
  rw[zcu9] at hx
  obtain⟨t,et,rfl⟩:=zcv4.mp hx
  obtain⟨z,ez⟩:∃ z,(rowF (.list ds))[i]?=some z:=⟨_,zcu7 (by rw[zl8];omega)⟩
  rw[show (rowF (.list ds)).getD i (0,0,0)=z by rw[zcv2,ez];rfl] at k
  refine ze7 (s1 _ _ (hp i t z et ez)) ?_
  refine br_T ?_
  refine zb7 (fun p I1 f1 r1 k1=>?_)
  walk_at "wh"
  exact k _ _ _ f1 r1 k1 ⟨_,_,_,rfl⟩
 rintro l1 ps1 H1 F1
 rw[zcu6] at F1
 refine zae9 (zs:=(rowF (.list ds)).map fun z=>(z.2.1,z.2.2)) F1.out (by rw[F1.len,zcu6,zl8];exact hl) (by rw[zcu6,zl8];omega) (fun i t z g1 g2=>?_) (fun r2 H2 f2 s2 h2=>?_)
 ·rw[zcu9] at g2
  obtain⟨y,ey,rfl⟩:=zcv4.mp g2
  have:=(F1.row i t g1).2
  rw[show (rowF (.list ds)).getD i (0,0,0)=y by rw[zcv2,ey];rfl] at this
  exact this
 refine zt5 (by walk_at "om") (by walk_at "om") (by walk_at "om") (by walk_at "om") ?_
 rw[show ((h:Int)+1 - 0).toNat=h+1 by walk_at "om"]
 refine zq1 (n:=h+1) Wk.range (by rw[sizeLine_eq];omega) (fun i=>.int ((valG (sumG ((rowF (.list ds)).map fun z=>(z.2.1,z.2.2))) (i:Int)).getD 0)) (fun _=>true) (fun j σ=>∃ t:Option V,σ=[t,some (.ref r2)]) ⟨none,rfl⟩ ?_ ?_
 ·rintro i x σ I R S hi s3 hx ⟨_,rfl⟩ k _
  obtain rfl:x=.int i:=by rw[hx,Int.zero_add]
  have ev:(valV (dF Sum.inl (sumG ((rowF (.list ds)).map fun z=>(z.2.1,z.2.2)))) (Sum.inl (i:Int):Key)).getD (V.int 0)=.int ((valG (sumG ((rowF (.list ds)).map fun z=>(z.2.1,z.2.2))) (i:Int)).getD 0):=by
   rw[zai5 zar4]
   cases valG (sumG ((rowF (.list ds)).map fun z=>(z.2.1,z.2.2))) (i:Int)<;>rfl
  refine br_T ?_
  refine zbw2 (s3 _ _ h2) ?_
  refine zbp6 (s3 _ _ h2) ?_
  rw[ev]
  walk_at "wh"
  exact k rfl _ _ (Same.refl _) ⟨_,rfl⟩
 intro acc H3 f3 s3 h3
 rw[zg8] at h3
 have s02:=F1.same.trans s2
 walk_at "wh"
 exact q acc H3 (s02.free f3) (s02.trans s3) (by rw[h3];unfold shr;rw[zcy1];rfl)
theorem any_of {d:PyData}(e:zx5 d=true) (hs:sml d=true):∃ ds,d=.list ds/\zq0 d=true/\(0<=zo7 d/\zo7 d<=40)/\ds.length<=8/\∀ x∈ds,rowD x=true/\(zc6 x).length<=1000:=by
 unfold zx5 zx4 zw6 at e
 simp only[zcw5,decide_eq_true_eq] at e
 obtain⟨eb,⟨hz,hf⟩,_,_,ea,_⟩:=e
 cases d with
 | list ds=>
  have ea:ds.all rowD=true:=ea
  have ea:=zcx1.mp ea
  have hf:1<=(ds.length:Int)/\(ds.length:Int)<=8:=hf
  refine⟨ds,rfl,eb,hz,by walk_at "om",fun x hx=>⟨ea x hx,?_⟩⟩
  have m:=(zq8 hs).2 x hx
  have r:=ea x hx
  cases x with
  | list es=>exact (zq8 m).1
  | _=>simp[rowD] at r
 | _=>simp[zq0] at eb
@[irreducible] def zm4:Sp:=fun vs H Q _=>∃ (v:V) (d:PyData),vs=[v]/\ShV H v d/\sml d=true/\zx5 d=true/\∀ (r:Addr) (ps:List Addr) (H':Hp),H r=none->Same H H'->H' r=some (.lst (ps.map V.ref))->ps.length=(zc6 d).length->(∀ (i:Nat) p,ps[i]?=some p->H' p=some (.lst ((shr (zo7 d).toNat (rowF ((zc6 d).getD i .none))).map V.int)))->Q (.ref r) H'
theorem zag1 {H:Hp}{v:V}{d:PyData}{Q:VK}{E:XK}(h:ShV H v d) (hs:sml d=true) (e:zx5 d=true) (q:∀ (r:Addr) (ps:List Addr) (H':Hp),H r=none->Same H H'->H' r=some (.lst (ps.map V.ref))->ps.length=(zc6 d).length->(∀ (i:Nat) p,ps[i]?=some p->H' p=some (.lst ((shr (zo7 d).toNat (rowF ((zc6 d).getD i .none))).map V.int)))->Q (.ref r) H'):zm4 [v] H Q E:=by unfold zm4;exact⟨v,d,rfl,h,hs,e,q⟩
theorem zax4 {f:Addr}{fd:FuncData}(F:Fun K "shares_of" "shares_of" zq9 f fd) (N:Nm mg) (zco7:Def P w K mg base CX0 1 "hosts_in" ["stream"] zm7) (zcq6:Def P w K mg base CX0 9 "look_stream" ["stream"] zi9) (zcr2:Def P w K mg base CX0 2 "row_shares" ["hosts","row"] zk6):FnOk P w K mg base CX0 10 f fd ["stream"] zm4:=by
 refine F.ok zau6 (fun vs H Q E h=>by unfold zm4 at h;obtain⟨_,_,rfl,_⟩:=h;rfl) (fun cdv A outer s H vs Q E hr h=>?_)
 unfold zm4 at h
 obtain⟨v,d,rfl,h,hs,e,q⟩:=h
 have hu:=hu40 hr
 refine⟨_,(za4 (zr7 (pD zcq6 hr zb5 (za0 (pq 0) za1)))
   (za6 (zb0 (zj5 (N:=["row","stream"]) (ks:=[none,some 0]) (zj2 (K:=K) rfl (pq 0)) (fun cl C s3 H3 fp=>(za7 (i:=0) nb_17 rfl (by first|exact Or.inl rfl|exact Or.inr rfl))) (fun cl C s3 H3 fp=>ze2) (fun cl C s3 H3 fp=>(pD zcr2 hr zb5 (za0 (pD zco7 hr zb5 (za0 (pq 1) za1)) (za0 (pq 0) za1)))) (.skip (.take rfl rfl (by first|exact Or.inl rfl|exact Or.inr rfl) .nil)))))),?_⟩
 obtain⟨ds,rfl,eb,hz,dl,ok⟩:=any_of e hs
 refine zan5 h hs e (fun H1 s1=>?_)
 have h1:=h.same s1
 cases h1
 case lst a xs e1 l=>
  have h1:=h.same s1
  have ll:=l.len
  refine zd0 e1 ?_
  refine zam8 (Wk.list (SqL.of e1)) (by rw[sizeLine_eq];omega) (fun i=>.lst ((shr (zo7 (.list ds)).toNat (rowF (ds.getD i .none))).map V.int)) (fun j σ=>∃ t:Option V,σ=[t,some (.ref a)]) ⟨none,rfl⟩ ?_ ?_
  ·rintro i x σ I R S hi s2 hx ⟨_,rfl⟩ k
   obtain⟨d,ed,hd⟩:=l.get i x hx
   rw[getD_some ed] at k
   refine br_T ?_
   refine zab6 (h1.same s2) eb ?_
   rw[show zo7 (.list ds)=(((zo7 (.list ds)).toNat:Nat):Int) by walk_at "om"]
   refine zas7 (hd.same s2) (ok d (zcv1 ed)).1 (ok d (zcv1 ed)).2 (by walk_at "om") (fun r3 H3 f3 s3 h3=>?_)
   walk_at "wh"
   exact k _ _ _ f3 s3 h3 ⟨_,rfl⟩
  rintro r ps H2 F2
  walk_at "wh"
  exact q r ps H2 (s1.free F2.facc) (s1.trans F2.same) F2.out (by rw[F2.len];exact ll) fun i p ep=>(F2.row i p ep).2
theorem zau5 {ns:List Int}{n:Nat}(g:Nat->Int) (hn:ns.length=n):((List.range n).map fun i=>V.int (ns.getD i 0*g i))=((List.range ns.length).map fun c=>ns.getD c 0*g c).map V.int:=by rw[zcy1,hn];rfl
theorem zbm2 {ns:List Int}{i:Nat}{v:V}(e:(ns.map V.int)[i]?=some v):v=.int (ns.getD i 0)/\ns.getD i 0∈ns:=by
 rw[zcu9] at e
 obtain⟨z,ez,rfl⟩:=zcv4.mp e
 have:ns.getD i 0=z:=by rw[zcv2,ez];rfl
 rw[this]
 exact⟨rfl,zcv1 ez⟩
@[irreducible] def zh3:Sp:=fun vs H Q _=>∃ (p o:Addr) (a c x:Nat) (f:Fd) (os:List Int),vs=[.ref p,.int x,.ref o]/\FdAt H p a c f/\f.Ok/\f.Bd a c/\x<=a/\c<=10/\H o=some (.lst (os.map V.int))/\os.length=c+1/\(∀ n∈os,0<=n/\n<=10 ^ 31)/\∀ H',Same H H'->Q (.int (wbc f x os)) H'
theorem zak1 {H:Hp}{p o:Addr}{a c x:Nat}{f:Fd}{os:List Int}{Q:VK}{E:XK}(F:FdAt H p a c f) (O:f.Ok) (B:f.Bd a c) (hx:x<=a) (hc:c<=10) (ho:H o=some (.lst (os.map V.int))) (hl:os.length=c+1) (hb:∀ n∈os,0<=n/\n<=10 ^ 31) (q:∀ H',Same H H'->Q (.int (wbc f x os)) H'):zh3 [.ref p,.int x,.ref o] H Q E:=by unfold zh3;exact⟨p,o,a,c,x,f,os,rfl,F,O,B,hx,hc,ho,hl,hb,q⟩
theorem zak6 {f:Addr}{fd:FuncData}(F:Fun K "won_by_count" "won_by_count" zl1 f fd) (N:Nm mg) (D_won:Def P w K mg base CX0 1 "won" ["field","x","y"] zaj1):FnOk P w K mg base CX0 2 f fd ["field","x","others"] zh3:=by
 refine F.ok zan1 (fun vs H Q E h=>by unfold zh3 at h;obtain⟨_,_,_,_,_,_,_,rfl,_⟩:=h;rfl) (fun cdv A outer s H vs Q E hr h=>?_)
 unfold zh3 at h
 obtain⟨p,o,a,c,x,f,os,rfl,F,O,B,hx,hc,ho,hl,hb,q⟩:=h
 have hu:=hu40 hr
 refine⟨_,(za6 (zb0 (pB (zan4 (K:=K) rfl rfl) N.sum_ zab0 (za0 (zj5 (N:=["y","share","field","x"]) (ks:=[none,none,some 0,some 1]) (zas5 (K:=K) rfl N.enumerate_ (za0 (pq 2) za1)) (fun cl C s3 H3 fp=>(zk3 (K:=K) (n:=2) rfl rfl (zb1 (za7 (i:=0) nb_19 rfl (by first|exact Or.inl rfl|exact Or.inr rfl)) (zb1 (za7 (i:=1) nb_19 rfl (by first|exact Or.inl rfl|exact Or.inr rfl)) zk1)))) (fun cl C s3 H3 fp=>ze2) (fun cl C s3 H3 fp=>(zb4 oMul (pq 1) (pD D_won hr zb5 (za0 (pq 2) (za0 (pq 3) (za0 (pq 0) za1)))))) (.skip (.skip (.take rfl rfl (by first|exact Or.inl rfl|exact Or.inr rfl) (.take rfl rfl (by first|exact Or.inl rfl|exact Or.inr rfl) .nil))))) za1)))),?_⟩
 refine zak2 ho ?_
 refine zq1 (Wk.enum (SqL.of ho)) (by rw[zcu6,sizeLine_eq];omega) (fun i=>.int (os.getD i 0*f.won x i)) (fun _=>true) (fun j σ=>∃ t u:Option V,σ=[t,u,some (.ref p),some (.int x)]) ⟨none,none,rfl⟩ ?_ ?_
 ·rintro i v σ I R S hi s1 ⟨t,y,rfl,ht,hy⟩ ⟨_,_,rfl⟩ k _
  rw[zcu6] at hi
  obtain⟨rfl,hm⟩:=zbm2 hy
  have b1:=hb _ hm
  have b2:=Fd.won_bd O B hx (show i<=c by walk_at "om")
  refine ze7 ht ?_
  refine br_T ?_
  refine won_rd (F.same s1) hx (by walk_at "om") ?_
  refine zag3 (zy9 (by walk_at "om") (by walk_at "om") (by walk_at "om") (by walk_at "om")) ?_
  walk_at "wh"
  exact k rfl _ _ (Same.refl _) ⟨_,_,rfl⟩
 intro acc H1 f1 s1 h1
 rw[zg8,zcu6,zau5 (fun y=>f.won x y) rfl] at h1
 refine zab2 h1 ?_
 walk_at "wh"
 exact q _ s1
@[irreducible] def zg1:Sp:=fun vs H Q _=>∃ (p o1 o:Addr) (a c:Nat) (f:Fd) (ns os:List Int),vs=[.ref p,.ref o1,.ref o]/\FdAt H p a c f/\f.Ok/\f.Bd a c/\a<=10/\c<=10/\H o1=some (.lst (ns.map V.int))/\ns.length=a+1/\(∀ n∈ns,0<=n/\n<=10 ^ 31)/\H o=some (.lst (os.map V.int))/\os.length=c+1/\(∀ n∈os,0<=n/\n<=10 ^ 31)/\∀ H',Same H H'->Q (.int (wbs f ns os)) H'
theorem zah3 {H:Hp}{p o1 o:Addr}{a c:Nat}{f:Fd}{ns os:List Int}{Q:VK}{E:XK}(F:FdAt H p a c f) (O:f.Ok) (B:f.Bd a c) (ha:a<=10) (hc:c<=10) (ho1:H o1=some (.lst (ns.map V.int))) (hl1:ns.length=a+1) (hb1:∀ n∈ns,0<=n/\n<=10 ^ 31) (ho:H o=some (.lst (os.map V.int))) (hl:os.length=c+1) (hb:∀ n∈os,0<=n/\n<=10 ^ 31) (q:∀ H',Same H H'->Q (.int (wbs f ns os)) H'):zg1 [.ref p,.ref o1,.ref o] H Q E:=by unfold zg1;exact⟨p,o1,o,a,c,f,ns,os,rfl,F,O,B,ha,hc,ho1,hl1,hb1,ho,hl,hb,q⟩
theorem zah1 {f:Addr}{fd:FuncData}(F:Fun K "won_by_shares" "won_by_shares" zj8 f fd) (N:Nm mg) (zcq3:Def P w K mg base CX0 2 "won_by_count" ["field","x","others"] zh3):FnOk P w K mg base CX0 3 f fd ["field","own","others"] zg1:=by
 refine F.ok zag7 (fun vs H Q E h=>by unfold zg1 at h;obtain⟨_,_,_,_,_,_,_,_,rfl,_⟩:=h;rfl) (fun cdv A outer s H vs Q E hr h=>?_)
 unfold zg1 at h
 obtain⟨p,o1,o,a,c,f,ns,os,rfl,F,O,B,ha,hc,ho1,hl1,hb1,ho,hl,hb,q⟩:=h
 have hu:=hu40 hr
 refine⟨_,(za6 (zb0 (pB (zan4 (K:=K) rfl rfl) N.sum_ zab0 (za0 (zj5 (N:=["x","share","field","others"]) (ks:=[none,none,some 0,some 2]) (zas5 (K:=K) rfl N.enumerate_ (za0 (pq 1) za1)) (fun cl C s3 H3 fp=>(zk3 (K:=K) (n:=2) rfl rfl (zb1 (za7 (i:=0) nb_20 rfl (by first|exact Or.inl rfl|exact Or.inr rfl)) (zb1 (za7 (i:=1) nb_20 rfl (by first|exact Or.inl rfl|exact Or.inr rfl)) zk1)))) (fun cl C s3 H3 fp=>ze2) (fun cl C s3 H3 fp=>(zb4 oMul (pq 1) (pD zcq3 hr zb5 (za0 (pq 2) (za0 (pq 0) (za0 (pq 3) za1)))))) (.skip (.skip (.take rfl rfl (by first|exact Or.inl rfl|exact Or.inr rfl) (.take rfl rfl (by first|exact Or.inl rfl|exact Or.inr rfl) .nil))))) za1)))),?_⟩
 refine zak2 ho1 ?_
 refine zq1 (Wk.enum (SqL.of ho1)) (by rw[zcu6,sizeLine_eq];omega) (fun i=>.int (ns.getD i 0*wbc f i os)) (fun _=>true) (fun j σ=>∃ t u:Option V,σ=[t,u,some (.ref p),some (.ref o)]) ⟨none,none,rfl⟩ ?_ ?_
 ·rintro i v σ I R S hi s1 ⟨t,y,rfl,ht,hy⟩ ⟨_,_,rfl⟩ k _
  rw[zcu6] at hi
  obtain⟨rfl,hm⟩:=zbm2 hy
  have b1:=hb1 _ hm
  have b2:=dot_bd (ns:=os) (g:=fun y=>f.won i y) (A:=10 ^ 31) (B:=2*10 ^ 28) (fun n hn=>by have:=hb n hn;omega) fun y hy=>Fd.won_bd O B (show i<=a by walk_at "om") (show y<=c by walk_at "om")
  have b3:(os.length:Int)*(10 ^ 31*(2*10 ^ 28))<=10 ^ 70:=by
   have h11:(os.length:Int)<=11:=by walk_at "om"
   have:=zdc5 h11 (show (0:Int)<=10 ^ 31*(2*10 ^ 28) by decide)
   exact Int.le_trans this (by decide)
  have b4:-(10 ^ 240)<wbc f i os/\wbc f i os<10 ^ 240:=by
   unfold wbc
   generalize (os.length:Int)*(10 ^ 31*(2*10 ^ 28))=B at b2 b3
   generalize dotG os (fun y=>f.won i y)=D at b2 ⊢
   omega
  refine ze7 ht ?_
  refine br_T ?_
  refine zak1 (F.same s1) O B (by walk_at "om") hc (s1 _ _ ho) hl hb (fun H2 s2=>?_)
  refine zag3 (zy9 (by walk_at "om") (by walk_at "om") b4.1 b4.2) ?_
  walk_at "wh"
  exact k rfl _ _ s2 ⟨_,_,rfl⟩
 intro acc H1 f1 s1 h1
 rw[zg8,zcu6,zau5 (fun x=>wbc f x os) rfl] at h1
 refine zab2 h1 ?_
 walk_at "wh"
 exact q _ s1
theorem zaq5 {α:Type}{l:List α}{x y:α}{j:Nat}(h:(l++[x])[j]?=some y):(j<l.length/\l[j]?=some y)∨(j=l.length/\y=x):=zq2 h
theorem ofFx {H:Hp}{p:Addr}{a c:Nat}{f:Fd}(F:FxAt H p (toFx a c f)):FdAt H p a c f:=by
 cases f with
 | more w t=>exact F
 | lead w l=>exact F
 | tab g=>
  obtain⟨q,ps,h1,R⟩:=F
  refine⟨q,ps,h1,R.out,by have:=R.len;rwa [zcu6,zcy3] at this,fun i p' e=>?_⟩
  have hi:i<a+1:=by have:=(zcv3.mp e).1;have:=R.len;rw[zcu6,zcy3] at this;omega
  have:=R.row i p' _ e (by rw[zcu9,zcz9 hi];rfl)
  rw[zy2];exact this
structure FlX (z:Addr) (H:Hp) (l:Addr) (ps:List Addr) (fs:List Fx):Prop where
 lst:H l=some (.lst (ps.map V.ref))
 len:ps.length=fs.length
 fld:∀ (i:Nat) p f,ps[i]?=some p->fs[i]?=some f->FxAt (rm z (rm l H)) p f/\f.Gd
theorem FlX.same {z:Addr}{H H':Hp}{l:Addr}{ps:List Addr}{fs:List Fx}(F:FlX z H l ps fs) (s:Same H H'):FlX z H' l ps fs:=⟨s _ _ F.lst,F.len,fun i p f h1 h2=>⟨(F.fld i p f h1 h2).1.same (Same.rm (Same.rm s)),(F.fld i p f h1 h2).2⟩⟩
@[irreducible] def zi7:Sp:=fun vs H Q _=>∃ (z b l:Addr) (ps:List Addr) (a c:Int) (fs:List Fx),vs=[.ref b]/\(∃ o,H z=some o)/\BxAt (rm z H) b l ps a c fs/\fs.length<=100/\∀ b' l' ps' H',Same H H'->H l'=none->H b'=none->H' b'=some (.tup [.int a,.int c,.ref l'])->FlX z H' l' ps' fs->Q (.ref b') H'
theorem zbm4 {H:Hp}{z b l:Addr}{ps:List Addr}{a c:Int}{fs:List Fx}{Q:VK}{E:XK}(hz:∃ o,H z=some o) (B:BxAt (rm z H) b l ps a c fs) (hl:fs.length<=100) (q:∀ b' l' ps' H',Same H H'->H l'=none->H b'=none->H' b'=some (.tup [.int a,.int c,.ref l'])->FlX z H' l' ps' fs->Q (.ref b') H'):zi7 [.ref b] H Q E:=by unfold zi7;exact⟨z,b,l,ps,a,c,fs,rfl,hz,B,hl,q⟩
theorem zao0 {f:Addr}{fd:FuncData}(F:Fun K "_law_copied" "_law_copied" zn2 f fd) (N:Nm mg):FnOk P w K mg base CX0 1 f fd ["_law_battle"] zi7:=by
 refine F.ok zl4 (fun vs H Q E h=>by unfold zi7 at h;obtain⟨_,_,_,_,_,_,_,rfl,_⟩:=h;rfl) (fun cdv A outer s H vs Q E hr h=>?_)
 unfold zi7 at h
 obtain⟨zz,b,l,ps,a,c,fs,rfl,⟨oz,ez⟩,B,hl,q⟩:=h
 have hu:=hu40 hr
 have bl:=B.len
 refine⟨_,(za4 (zag2 (pq 0) (zk3 (K:=K) (n:=3) rfl rfl (zb1 (za7 (i:=1) zl4.nd rfl (by first|exact Or.inl rfl|exact Or.inr rfl)) (zb1 (za7 (i:=2) zl4.nd rfl (by first|exact Or.inl rfl|exact Or.inr rfl)) (zb1 (za7 (i:=3) zl4.nd rfl (by first|exact Or.inl rfl|exact Or.inr rfl)) zk1)))))
   (za4 (psS (i:=4) zl4.nd (zi6 za1))
   (za4 (zac3 PassesOwn.never rfl (zj2 (K:=K) rfl (pq 3)) (za7 (i:=5) zl4.nd rfl (by first|exact Or.inl rfl|exact Or.inr rfl)) (za6 (psIf (ptC (oEqK (K:=K) rfl (by exact hu)) (zb8 (K:=K) rfl (pq 5) za2) zg5) (za6 (zr7 (zr4 (pq 4) (za0 (zh2 (za0 zg5 (za0 (zj5 (N:=["_law_row"]) (ks:=[none]) (zj2 (K:=K) rfl (zb8 (K:=K) rfl (pq 5) za2)) (fun cl C s3 H3 fp=>(za7 (i:=0) nb_24 rfl (by first|exact Or.inl rfl|exact Or.inr rfl))) (fun cl C s3 H3 fp=>ze2) (fun cl C s3 H3 fp=>(pT (zaa4 (K:=K) rfl) N.list_ zn7 (za0 (pq 0) za1))) (.skip .nil)) za1))) za1)))) (za6 (zr7 (zr4 (pq 4) (za0 (pq 5) za1)))))))
   (za6 (zb0 (zh2 (za0 (pq 1) (za0 (pq 2) (za0 (pq 4) za1))))))))),?_⟩
 refine ze7 (zb9 _ _ _ _ B.out) ?_
 refine zc5 (fun l' H1 f1 s1 h1=>?_)
 refine zd0 (s1 _ _ (zb9 _ _ _ _ B.lst)) ?_
 refine zp7 (xs:=ps.map V.ref) (fun i σ H2=>∃ (t:Option V) (qs:List Addr),σ=[some (.ref b),some (.int a),some (.int c),some (.ref l),some (.ref l'),t]/\Same H H2/\H2 l'=some (.lst (qs.map V.ref))/\qs.length=i/\∀ (k:Nat) p f,qs[k]?=some p->fs[k]?=some f->FxAt (rm zz (rm l' H2)) p f) ?_ ?_ ?_ ?_
 ·exact⟨_,[],rfl,s1,h1,rfl,fun k p f e=>by simp at e⟩
 ·rintro i σ H2 _ ⟨_,_,_,s2,_⟩
  exact SqL.of (s2 _ _ (zb9 _ _ _ _ B.lst))
 ·rintro i v σ H2 hx ⟨t,qs,rfl,s2,h2,ql,pf⟩
  have hi:=(zcv3.mp hx).1
  rw[zcu6] at hi
  obtain⟨p,f,rfl,ep,ef,hf,gd⟩:=(B.same (Same.rm s2)).elt hx
  have fin:∀ (p':Addr) (H3:Hp),Same H2 H3->FxAt (rm zz (rm l' H3)) p' f->∀ H4,Chg l' H3 H4->H4 l'=some (.lst (qs.map V.ref++[.ref p']))->∃ (t:Option V) (qs:List Addr),[some (.ref b),some (.int a),some (.int c),some (.ref l),some (.ref l'),some (.ref p)]=[some (V.ref b),some (V.int a),some (V.int c),some (V.ref l),some (V.ref l'),t]/\Same H H4/\H4 l'=some (.lst (qs.map V.ref))/\qs.length=i+1/\∀ (k:Nat) p f,qs[k]?=some p->fs[k]?=some f->FxAt (rm zz (rm l' H4)) p f:=fun p' H3 s3 hp' H4 c4 h4=>by
   refine⟨_,qs++[p'],rfl,(s2.trans s3).chg f1 c4,by rw[h4,zcx8];rfl,by rw[zcv9,ql];rfl,fun k p2 f2 g1 g2=>?_⟩
   rcases zaq5 g1 with ⟨hk,g1⟩|⟨hk,rfl⟩
   ·exact (pf k p2 f2 g1 g2).same (Same.rm (fun b o e=>zf6 (zm1 e).1 (c4 _ _ (zm1 e).1 (s3 _ _ (zm1 e).2))))
   ·have:f=f2:=Option.some.inj (ef.symm.trans (by rw[show i=k by walk_at "om"];exact g2))
    subst this
    exact hp'.same (Same.rm (Chg.rm c4))
  have nl:∀ b xs,H2 b=some (.tup xs)->b≠l':=fun b xs e z=>by rw[z,h2] at e;cases e
  cases f with
  | flat w zs=>
   have nz:=(zm1 (show rm zz H2 p=some (.tup (.str w :: zs.map V.int)) from hf)).1
   have hf:H2 p=some (.tup (.str w :: zs.map V.int)):=(zm1 (show rm zz H2 p=some (.tup (.str w :: zs.map V.int)) from hf)).2
   refine zb6 (v:=.str w) hf (by unfold atI ixN;simp) ?_
   refine zy6 gd.1 ?_
   refine zaa7 h2 ?_
   refine zai6 h2 (by rw[zcu6,sizeLine_eq];omega) (fun H4 c4 h4=>?_)
   walk_at "wh"
   exact fin p H2 (Same.refl _) (zf6 nz (zf6 (nl _ _ hf) hf)) H4 c4 h4
  | tab rows=>
   obtain⟨q0,rs,hp,R⟩:=hf
   have hp:=zb9 _ _ _ _ hp
   have R:=R.same (zb9 _ _)
   have nzz:∀ {x:Addr},H2 x=none->x≠zz:=fun hx z=>by rw[z,s2 _ _ ez] at hx;cases hx
   obtain⟨g1,g2⟩:rows.length<=100/\∀ r∈rows,r.length<=100:=gd
   have rl:=R.len
   refine zb6 (v:=.str "table") hp rfl ?_
   refine zad2 rfl ?_
   refine zaa7 h2 ?_
   refine zb6 (v:=.ref q0) hp rfl ?_
   refine zd0 R.out ?_
   refine zam8 (n:=(rs.map V.ref).length) (Wk.list (SqL.of R.out)) (by rw[zcu6,sizeLine_eq];omega) (fun i=>.lst ((rows.getD i []).map V.int)) (fun j σ=>∃ t:Option V,σ=[t]) ⟨none,rfl⟩ ?_ ?_
   ·rintro j v σ H3 R' S hj s3 hx ⟨t,rfl⟩ k
    obtain⟨p1,r1,rfl,e1,e2,hp1⟩:=(R.same s3).elt hx
    have eg:rows.getD j []=r1:=by rw[zcv2,e2];rfl
    rw[eg] at k
    refine br_T ?_
    refine zs0 (SqL.of hp1) (fun q2 H4 f4 s4 h4=>?_)
    walk_at "wh"
    exact k _ _ _ f4 s4 h4 ⟨_,rfl⟩
   ·intro acc qs2 H3 F3
    rw[zcu6,rl] at F3
    refine zb7 (fun p3 H4 f4 s4 h4=>?_)
    have s24:=F3.same.trans s4
    refine zai6 (s24 _ _ h2) (by rw[zcu6,sizeLine_eq];omega) (fun H5 c5 h5=>?_)
    walk_at "wh"
    have na:acc≠l':=Ne.symm (za5 h2 F3.facc)
    refine fin p3 H4 s24 ⟨acc,qs2,zf6 (nzz (F3.same.free f4)) (zf6 (Ne.symm (za5 (F3.same _ _ h2) f4)) h4),zf6 (nzz F3.facc) (zf6 na (s4 _ _ F3.out)),F3.len,fun k p' r' k1 k2=>?_⟩ H5 c5 h5
    have rr:=F3.row k p' k1
    have eg:rows.getD k []=r':=by rw[zcv2,k2];rfl
    rw[eg] at rr
    exact zf6 (nzz rr.1) (zf6 (Ne.symm (za5 h2 rr.1)) (s4 _ _ rr.2))
 ·rintro σ H2 ⟨t,qs,rfl,s2,h2,ql,pf⟩
  rw[zcu6] at ql
  refine zb7 (fun b' H3 f3 s3 h3=>?_)
  walk_at "wh"
  refine q b' l' qs H3 (s2.trans s3) f1 (s2.free f3) h3 ⟨s3 _ _ h2,by walk_at "om",fun i p f e1 e2=>⟨(pf i p f e1 e2).same (Same.rm (Same.rm s3)),?_⟩⟩
  obtain⟨p0,ep0⟩:∃ p0,ps[i]?=some p0:=⟨_,zcu7 (by have:=(zcv3.mp e2).1;omega)⟩
  exact (B.fld i p0 f ep0 e2).2
theorem zq3.oks {H:Hp}{b l:Addr}{ps:List Addr}{a c:Nat}{fs:List Fd}(B:zq3 H b l ps a c fs):∀ f∈fs,f.Ok:=fun f hf=>by
 obtain⟨i,ei⟩:=zdb0 hf
 obtain⟨p,ep⟩:∃ p,ps[i]?=some p:=⟨_,zcu7 (by have:=(zcv3.mp ei).1;have:=B.len;omega)⟩
 exact (B.fld i p f ep ei).2
theorem FdAt.eq {K:zcu8}{H:Hp}{p p':Addr}{a c:Nat}{f:Fd}(F:FdAt H p a c f) (F':FdAt H p' a c f):EqR K H 3 (.ref p) (.ref p') true:=by
 have flat:∀ v:V,zu8 v=true->EqR K H 2 v v true:=fun v hv=>by
  have:=EqR.flat (K:=K) (H:=H) (n:=2) (x:=v) (y:=v) hv hv
  rwa [zac9 hv] at this
 cases f with
 | more w t=>
  exact EqR.tup (K:=K) (H:=H) (n:=2) (fun _=>true) (SqT.of F) (SqT.of F') (fun j x y hx hy=>by
   match j with
   | 0=>cases hx;cases hy;exact flat _ rfl
   | 1=>cases hx;cases hy;exact flat _ rfl
   | 2=>cases hx;cases hy;exact flat _ rfl
   | j+3=>simp at hx)
 | lead w l=>
  exact EqR.tup (K:=K) (H:=H) (n:=2) (fun _=>true) (SqT.of F) (SqT.of F') (fun j x y hx hy=>by
   match j with
   | 0=>cases hx;cases hy;exact flat _ rfl
   | 1=>cases hx;cases hy;exact flat _ rfl
   | 2=>cases hx;cases hy;exact flat _ rfl
   | j+3=>simp at hx)
 | tab g=>
  obtain⟨q,ps,F,G⟩:=F
  obtain⟨q',ps',F',G'⟩:=F'
  exact EqR.tup (K:=K) (H:=H) (n:=2) (fun _=>true) (SqT.of F) (SqT.of F') (fun j x y hx hy=>by
   match j with
   | 0=>cases hx;cases hy;exact flat _ rfl
   | 1=>
    cases hx;cases hy
    exact EqR.rows (SqL.of G.out) (SqL.of G'.out) (by rw[G.len,G'.len]) fun i r r' e1 e2=>⟨_,by have:=G.row i r e1;rw[zy2] at this;exact SqL.of this,by have:=G'.row i r' e2;rw[zy2] at this;exact SqL.of this⟩
   | j+2=>simp at hx)
theorem zq3.eq {K:zcu8}{H:Hp}{b l b' l':Addr}{ps ps':List Addr}{a c:Nat}{fs:List Fd}(B:zq3 H b l ps a c fs) (B':zq3 H b' l' ps' a c fs):EqR K H 5 (.ref b) (.ref b') true:=by
 have flat:∀ v:V,zu8 v=true->EqR K H 4 v v true:=fun v hv=>by
  have:=EqR.flat (K:=K) (H:=H) (n:=4) (x:=v) (y:=v) hv hv
  rwa [zac9 hv] at this
 exact EqR.tup (K:=K) (H:=H) (n:=4) (fun _=>true) (SqT.of B.out) (SqT.of B'.out) (fun j x y hx hy=>by
  match j with
  | 0=>cases hx;cases hy;exact flat _ rfl
  | 1=>cases hx;cases hy;exact flat _ rfl
  | 2=>
   cases hx;cases hy
   refine EqR.allT (SqL.of B.lst) (SqL.of B'.lst) (by rw[zcu6,zcu6,B.len,B'.len]) fun i u v hu hv=>?_
   obtain⟨r,f,rfl,er,ef,hf,_⟩:=B.elt hu
   rw[zcu9] at hv
   obtain⟨r',er',rfl⟩:=zcv4.mp hv
   exact hf.eq (B'.fld i r' f er' ef).1
  | j+3=>simp at hx)
abbrev Rw:=List (Addr×List Int)
def refs (zs:Rw):List V:=zs.map fun z=>V.ref z.1
theorem zr9 (zs:Rw):(refs zs).length=zs.length:=by unfold refs;rw[zcu6]
theorem zbx1 (zs:Rw) (k:Int) (h:0<=k):cutV (refs zs) none (some k)=refs (zs.take k.toNat):=by rw[zw0 h];unfold refs;rw[List.map_take]
theorem zbu0 (zs:Rw) (k:Int) (h:0<=k):cutV (refs zs) (some k) none=refs (zs.drop k.toNat):=by rw[zae0 h];unfold refs;rw[List.map_drop]
theorem zz7 (zs ys:Rw):refs zs++refs ys=refs (zs++ys):=by unfold refs;rw[zcx8]
theorem zbe3 {zs:Rw}{k:Int}{z:Addr×List Int}(h:0<=k) (e:zs[k.toNat]?=some z):atI (refs zs) k=some (.ref z.1):=by
 have:(refs zs)[k.toNat]?=some (.ref z.1):=by unfold refs;rw[zcu9,e];rfl
 have:=zl6 this
 rwa [show ((k.toNat:Nat):Int)=k by walk_at "om"] at this
theorem zci2 {H:Hp}{q:Addr}{zs:Rw}(h:H q=some (.lst (refs zs))) (k:∀ z∈zs,H z.1=some (.lst (z.2.map V.int))):zaa5 H q (zs.map (·.1)) (zs.map (·.2)):=by
 refine⟨by rw[h];unfold refs;rw[zcy1];rfl,by rw[zcu6,zcu6],fun i p r e1 e2=>?_⟩
 rw[zcu9] at e1 e2
 obtain⟨z,ez,rfl⟩:=zcv4.mp e1
 rw[ez] at e2
 cases e2
 exact k z (zcv1 ez)
theorem zat0 {a c:Int}{rows:List (List Int)}(h:(rows.length:Int)≠a+1):isF a c (.tab rows)=false:=by
 show (decide _&&_)=false
 rw[decide_eq_false h,zdd6]
theorem zbu1 {a c:Int}{rows:List (List Int)}{r:List Int}(h:r∈rows) (hr:(r.length:Int)≠c+1):isF a c (.tab rows)=false:=by
 show (decide _&&List.all _ _)=false
 rw[Bool.and_eq_false_iff]
 right
 rw[List.all_eq_false]
 exact⟨r,h,by rw[decide_eq_false hr];exact zcw2⟩
@[irreducible] def zf1:Sp:=fun vs H Q _=>∃ (a p:Addr) (b:Int) (n m:Nat) (f:Fd),vs=[.ref a,.ref p,.int n,.int m]/\zc1 H a b/\b<=100000/\FdAt (rm a H) p n m f/\f.Ok/\n<=10/\m<=10/\∀ q f' H',Chg a H H'->zc1 H' a (b+100)->FxAt (nw H H') q f'->f'.Gd->isF n m f'=false->Q (.ref q) H'
theorem zay8 {H:Hp}{a p:Addr}{b:Int}{n m:Nat}{f:Fd}{Q:VK}{E:XK}(L:zc1 H a b) (hb:b<=100000) (F:FdAt (rm a H) p n m f) (O:f.Ok) (h1:n<=10) (h2:m<=10) (q:∀ q f' H',Chg a H H'->zc1 H' a (b+100)->FxAt (nw H H') q f'->f'.Gd->isF n m f'=false->Q (.ref q) H'):zf1 [.ref a,.ref p,.int n,.int m] H Q E:=by unfold zf1;exact⟨a,p,b,n,m,f,rfl,L,hb,F,O,h1,h2,q⟩
theorem zbg0 {n m:Nat}{w:Str}{x y:Int}(hw:w="more"∨w="lead") (h:x<1):isF n m (.flat w [x,y])=false:=by
 show (if w="more" then decide (1<=x/\-x<=y/\y<=x) else if w="lead" then decide (1<=x) else false)=false
 by_cases e:w="more"
 ·rw[if_pos e,decide_eq_false (by walk_at "om")]
 ·rw[if_neg e]
  rcases hw with hw|hw
  ·exact absurd hw e
  ·rw[if_pos hw,decide_eq_false (by walk_at "om")]
theorem zap7 {n m:Nat}{w:Str}{x y:Int}(h1:w≠"more") (h2:w≠"lead"):isF n m (.flat w [x,y])=false:=by
 show (if w="more" then decide (1<=x/\-x<=y/\y<=x) else if w="lead" then decide (1<=x) else false)=false
 rw[if_neg h1,if_neg h2]
set_option maxHeartbeats 0 in
theorem zae6 {f:Addr}{fd:FuncData}(F:Fun K "_law_bad_field" "_law_bad_field" zi0 f fd) (N:Nm mg) (zcl7:Def P w K mg base CX0 2 "_law_draw" ["_law_left","_law_base"] zd5):FnOk P w K mg base CX0 3 f fd ["_law_left","_law_field","_law_first","_law_second"] zf1:=by
 refine F.ok zc0 (fun vs H Q E h=>by unfold zf1 at h;obtain⟨_,_,_,_,_,_,rfl,_⟩:=h;rfl) (fun cdv A outer s H vs Q E hr h=>?_)
 unfold zf1 at h
 obtain⟨a,p,b,n,m,f,rfl,L,hb,F,O,h1,h2,q⟩:=h
 have hu:=hu40 hr
 refine⟨_,(za4 (psS (i:=4) zc0.nd (pD zcl7 hr zb5 (za0 (pq 0) (za0 za2 za1))))
   (za4 (psS (i:=5) zc0.nd (pD zcl7 hr zb5 (za0 (pq 0) (za0 (zb4 oPow za2 za2) za1))))
   (za4 (zbk0 (psIf (ptW (pwAnd (ptC (oEqK (K:=K) rfl (by exact hu)) (zb8 (K:=K) rfl (pq 1) za2) zg5) (zas1 (ptC oLt (pq 4) za2)))) (za4 (psC (i:=6) (N:=["_law_row"]) (ks:=[none]) zc0.nd (zj2 (K:=K) rfl (zb8 (K:=K) rfl (pq 1) za2)) (fun cl C s3 H3 fp=>(za7 (i:=0) nb_25 rfl (by first|exact Or.inl rfl|exact Or.inr rfl))) (fun cl C s3 H3 fp=>ze2) (fun cl C s3 H3 fp=>(pT (zaa4 (K:=K) rfl) N.list_ zn7 (za0 (pq 0) za1))) (.skip .nil))
   (za4 (psS (i:=7) zc0.nd (pD zcl7 hr zb5 (za0 (pq 0) (za0 (pB (zq4 (K:=K) rfl) N.len_ zj3 (za0 (pq 6) za1)) za1))))
   (za4 (psS (i:=8) zc0.nd (zi6 (za0 (zb4 oAdd (zj4 (slK (K:=K) rfl) (pq 6) zn8 (zt0 (pq 7))) (zj4 (slK (K:=K) rfl) (pq 6) (zt0 (zb4 oAdd (pq 7) za2)) zn8)) (za0 (zb4 oAdd (pq 6) (zi6 (za0 (zb8 (K:=K) rfl (pq 6) (pq 7)) za1))) (za0 (zb4 oAdd (zb4 oAdd (zj4 (slK (K:=K) rfl) (pq 6) zn8 (zt0 (pq 7))) (zi6 (za0 (zj4 (slK (K:=K) rfl) (zb8 (K:=K) rfl (pq 6) (pq 7)) (zt0 za2) zn8) za1))) (zj4 (slK (K:=K) rfl) (pq 6) (zt0 (zb4 oAdd (pq 7) za2)) zn8)) za1)))))
   (za4 (psS (i:=8) zc0.nd (zb4 oAdd (pq 8) (zi6 (za0 (zb4 oAdd (zb4 oAdd (zj4 (slK (K:=K) rfl) (pq 6) zn8 (zt0 (pq 7))) (zi6 (za0 (zb4 oAdd (zb8 (K:=K) rfl (pq 6) (pq 7)) (zi6 (za0 za2 za1))) za1))) (zj4 (slK (K:=K) rfl) (pq 6) (zt0 (zb4 oAdd (pq 7) za2)) zn8)) (za0 (zi6 za1) za1)))))
   (za6 (zb0 (zh2 (za0 zg5 (za0 (zb8 (K:=K) rfl (pq 8) (pq 4)) za1))))))))) zc2))
   (za4 (zbk0 (psIf (ptC (oEqK (K:=K) rfl (by exact hu)) (zb8 (K:=K) rfl (pq 1) za2) zg5) (za6 (psS (i:=1) zc0.nd (zh2 (za0 zg5 (za0 za2 (za0 za2 za1)))))) zc2))
   (za4 (zag2 (pq 1) (zk3 (K:=K) (n:=3) rfl rfl (zb1 (za7 (i:=9) zc0.nd rfl (by first|exact Or.inl rfl|exact Or.inr rfl)) (zb1 (za7 (i:=10) zc0.nd rfl (by first|exact Or.inl rfl|exact Or.inr rfl)) (zb1 (za7 (i:=11) zc0.nd rfl (by first|exact Or.inl rfl|exact Or.inr rfl)) zk1)))))
   (za4 (psS (i:=8) zc0.nd (zi6 (za0 (zh2 (za0 (pq 9) (za0 za2 (za0 (pq 11) za1)))) (za0 (zh2 (za0 (pq 9) (za0 (zb4 oSub (zaa3 uNeg za2) (pq 5)) (za0 (pq 11) za1)))) (za0 (zh2 (za0 (pq 9) (za0 (pq 10) za1))) (za0 (zh2 (za0 (pq 9) (za0 (pq 10) (za0 (pq 11) (za0 za2 za1))))) (za0 (zh2 (za0 (pq 9) za1)) za1)))))))
   (za4 (psS (i:=8) zc0.nd (zb4 oAdd (pq 8) (zi6 (za0 (zh2 (za0 zg5 (za0 (pq 10) (za0 (zb4 oAdd (zb4 oAdd (pq 10) za2) (pq 5)) za1)))) (za0 (zh2 (za0 zg5 (za0 (pq 10) (za0 (zb4 oSub (zb4 oSub (zaa3 uNeg za2) (pq 10)) (pq 5)) za1)))) (za0 (zh2 (za0 zg5 (za0 (pq 10) (za0 (pq 11) za1)))) za1))))))
   (za6 (zb0 (zb8 (K:=K) rfl (zb4 oAdd (pq 8) (zi6 (za0 (zh2 (za0 (zb8 (K:=K) rfl (zi6 (za0 zg5 (za0 zg5 (za0 zg5 za1)))) (pD zcl7 hr zb5 (za0 (pq 0) (za0 za2 za1)))) (za0 (pq 10) (za0 (pq 11) za1)))) za1))) (pq 4))))))))))),?_⟩
 refine zd3 L (by walk_at "om") (by walk_at "om") (by walk_at "om") (fun kd H1 kd0 kd1 c1 L1=>?_)
 walk_at "st"
 refine zd3 L1 (by walk_at "om") (by walk_at "om") (by walk_at "om") (fun far H2 far0 far1 c2 L2=>?_)
 have c02:=c1.trans c2
 have F2:=F.same (Chg.rm c02)
 have fresh:∀ {Hk:Hp}{x:Addr}{bb:Int},Chg a H Hk->zc1 Hk a bb->Hk x=none->H x=none:=fun c L f=>Chg.free' c f (L.ne f)
 refine zbg5 (fun σ H3=>σ=[some (.ref a),some (.ref p),some (.int n),some (.int m),some (.int kd),some (.int far),none,none,none,none,none,none]/\H3=H2) ?_ ?_
 rotate_left
 ·rintro σ H3 ⟨rfl,rfl⟩
  have flat:∃ (w:Str) (xs:List V),H3 p=some (.tup (.str w :: xs))/\(w="table"∨∃ wt mo:Int,xs=[.int wt,.int mo]/\(w="more"∨w="lead")):=by
   cases f with
   | more wt t=>exact⟨_,_,zb9 a H3 _ _ F2,.inr ⟨wt,t,rfl,.inl rfl⟩⟩
   | lead wt t=>exact⟨_,_,zb9 a H3 _ _ F2,.inr ⟨wt,t,rfl,.inr rfl⟩⟩
   | tab g=>
    obtain⟨q0,rs,Fp,G⟩:=F2
    exact⟨_,_,zb9 a H3 _ _ Fp,.inl rfl⟩
  obtain⟨w0,xs0,hp,hw⟩:=flat
  refine zbg5 (fun σ H4=>∃ (pF:Addr) (w:Str) (wt mo:Int),σ=[some (.ref a),some (.ref pF),some (.int n),some (.int m),some (.int kd),some (.int far),none,none,none,none,none,none]/\Same H3 H4/\H4 pF=some (.tup [.str w,.int wt,.int mo])/\(w="more"∨w="lead")) ?_ ?_
  ·walk_at "wh"
   refine zb6 (v:=.str w0) hp (by unfold atI ixN;simp) ?_
   refine ze9 (fun e=>?_) (fun e=>?_)
   ·walk_at "wh"
    refine zb7 (fun pF H4 f4 s4 h4=>?_)
    walk_at "wh"
    exact⟨pF,"more",3,1,rfl,s4,h4,.inl rfl⟩
   ·walk_at "wh"
    rcases hw with hw|⟨wt,mo,rfl,hw⟩
    ·exact absurd hw e
    ·exact⟨p,w0,wt,mo,rfl,Same.refl _,hp,hw⟩
  ·rintro σ H4 ⟨pF,w,wt,mo,rfl,s4,h4,hw⟩
   have L4:=L2.same s4
   have c04:=c02.same s4
   refine ze7 h4 ?_
   refine zb7 (fun p5 H5 f5 s5 h5=>?_)
   refine zb7 (fun p6 H6 f6 s6 h6=>?_)
   refine zb7 (fun p7 H7 f7 s7 h7=>?_)
   refine zb7 (fun p8 H8 f8 s8 h8=>?_)
   refine zb7 (fun p9 H9 f9 s9 h9=>?_)
   refine zc5 (fun p10 H10 f10 s10 h10=>?_)
   refine zb7 (fun p11 H11 f11 s11 h11=>?_)
   refine zb7 (fun p12 H12 f12 s12 h12=>?_)
   refine zb7 (fun p13 H13 f13 s13 h13=>?_)
   refine zc5 (fun p14 H14 f14 s14 h14=>?_)
   have s1014:=((s11.trans s12).trans s13).trans s14
   refine zp9 (s1014 _ _ h10) h14 (by rw[sizeLine_eq];simp) (fun p15 H15 f15 s15 h15=>?_)
   have h15:H15 p15=some (.lst [.ref p5,.ref p6,.ref p7,.ref p8,.ref p9,.ref p11,.ref p12,.ref p13]):=h15
   have s415:Same H4 H15:=((((((s5.trans s6).trans s7).trans s8).trans s9).trans s10).trans s1014).trans s15
   refine zc5 (fun p16 H16 f16 s16 h16=>?_)
   have L16:=(L4.same s415).same s16
   refine zd3 L16 (by walk_at "om") (by walk_at "om") (by walk_at "om") (fun d3 H17 d30 d31 c17 L17=>?_)
   have h16':=c17 _ _ (((L4.same s415)).ne f16) h16
   refine zo1 h16' (by walk_at "om") (by simp only[zcx0,zcz4];omega) ?_
   intro v hv
   obtain⟨w3,rfl,w31,w32,w33⟩:∃ w3:Str,v=.str w3/\w3≠"more"/\w3≠"lead"/\w3≠"table":=by
    simp only[zcw3,zcx3,or_false] at hv
    rcases hv with rfl|rfl|rfl<;>exact⟨_,rfl,by decide,by decide,by decide⟩
   clear hv
   refine zb7 (fun p18 H18 f18 s18 h18=>?_)
   refine zc5 (fun p19 H19 f19 s19 h19=>?_)
   have na15:p15≠a:=((L4.same ((((((s5.trans s6).trans s7).trans s8).trans s9).trans s10).trans s1014))).ne f15
   have h1518:=c17 _ _ na15 (s16 _ _ h15)
   refine zp9 (s19 _ _ (s18 _ _ h1518)) h19 (by rw[sizeLine_eq];simp) (fun p20 H20 f20 s20 h20=>?_)
   have h20:H20 p20=some (.lst [.ref p5,.ref p6,.ref p7,.ref p8,.ref p9,.ref p11,.ref p12,.ref p13,.ref p18]):=h20
   refine zo1 h20 (by walk_at "om") (by simp only[zcx0,zcz4];omega) ?_
   intro v hv
   have s1720:=(s18.trans s19).trans s20
   have c0:Chg a H H20:=((((c04.same s415).same s16).trans c17).same s1720)
   have L20:zc1 H20 a (b+100):=(L17.same s1720).up (by walk_at "om")
   have fin:∀ (x:Addr) (Hk Hk':Hp) (w:Str) (zs:List Int),Same H4 Hk->Hk x=none->Same Hk Hk'->Same Hk' H16->Hk' x=some (.tup (.str w :: zs.map V.int))->w≠"table"->zs.length<=10->isF n m (.flat w zs)=false->Q (.ref x) H20:=fun x Hk Hk' w zs sk fx sk' sx hx nt zl bad=>by
    have nx:x≠a:=(L4.same sk).ne fx
    have e:H20 x=some (.tup (.str w :: zs.map V.int)):=s1720 _ _ (c17 _ _ nx (sx _ _ hx))
    exact q x (.flat w zs) H20 c0 L20 (zy1 (fresh (c04.same sk) (L4.same sk) fx) e) ⟨nt,zl⟩ bad
   have wt':w≠"table":=by rcases hw with rfl|rfl<;>decide
   have t9:Same H9 H16:=((s10.trans s1014).trans s15).trans s16
   have t11:Same H11 H16:=(((s12.trans s13).trans s14).trans s15).trans s16
   simp only[zcw3,zcx3,or_false] at hv
   walk_at "wh"
   rcases hv with rfl|rfl|rfl|rfl|rfl|rfl|rfl|rfl|rfl
   ·exact fin p5 H4 H5 w [0,mo] (Same.refl _) f5 s5 ((((s6.trans s7).trans s8).trans s9).trans t9) h5 wt' (by simp) (zbg0 hw (by decide))
   ·exact fin p6 H5 H6 w [-1 - far,mo] s5 f6 s6 (((s7.trans s8).trans s9).trans t9) h6 wt' (by simp) (zbg0 hw (by walk_at "om"))
   ·exact fin p7 H6 H7 w [wt] (s5.trans s6) f7 s7 ((s8.trans s9).trans t9) h7 wt' (by simp) (zat4 (by simp))
   ·exact fin p8 H7 H8 w [wt,mo,0] ((s5.trans s6).trans s7) f8 s8 (s9.trans t9) h8 wt' (by simp) (zat4 (by simp))
   ·exact fin p9 H8 H9 w [] (((s5.trans s6).trans s7).trans s8) f9 s9 t9 h9 wt' (by simp) (zat4 (by simp))
   ·have s410:=((((s5.trans s6).trans s7).trans s8).trans s9).trans s10
    exact fin p11 H10 H11 "more" [wt,wt+1+far] s410 f11 s11 t11 h11 (by decide) (by simp) (decide_eq_false (by walk_at "om"))
   ·have s410:=((((s5.trans s6).trans s7).trans s8).trans s9).trans s10
    exact fin p12 H11 H12 "more" [wt,-1 - wt - far] (s410.trans s11) f12 s12 (((s13.trans s14).trans s15).trans s16) h12 (by decide) (by simp) (decide_eq_false (by walk_at "om"))
   ·have s410:=((((s5.trans s6).trans s7).trans s8).trans s9).trans s10
    exact fin p13 H12 H13 "Lead" [wt,mo] ((s410.trans s11).trans s12) f13 s13 ((s14.trans s15).trans s16) h13 (by decide) (by simp) (zap7 (by decide) (by decide))
   ·have n18:p18≠a:=L17.ne f18
    have c17':Chg a H H17:=(((c04.same s415).same s16).trans c17)
    exact q p18 (.flat w3 [wt,mo]) H20 c0 L20 (zy1 (fresh c17' L17 f18) ((s19.trans s20) _ _ h18)) ⟨w33,by simp⟩ (zap7 w31 w32)
 cases f with
 | tab g=>
  obtain⟨q0,rs,Fp,G⟩:=F2
  have G':=G.same (zb9 a H2)
  have Fp':H2 p=some (.tup [.str "table",.ref q0]):=zb9 a H2 _ _ Fp
  have gl:=G.len
  refine zb6 (v:=.str "table") Fp' rfl ?_
  refine zad2 rfl ?_
  refine ze9 (fun k5=>?_) (fun k5=>?_)
  ·walk_at "wh"
   refine zb6 (v:=.ref q0) Fp' rfl ?_
   refine zd0 G'.out ?_
   refine zam8 (n:=(rs.map V.ref).length) (Wk.list (SqL.of G'.out)) (by rw[zcu6,sizeLine_eq];omega) (fun i=>.lst (rowV (m+1) (g i))) (fun j σ=>∃ t:Option V,σ=[t]) ⟨none,rfl⟩ ?_ ?_
   ·rintro j v σ H3 R' S hj s3 hx ⟨t,rfl⟩ k
    rw[zcu9] at hx
    obtain⟨p1,e1,rfl⟩:=zcv4.mp hx
    refine br_T ?_
    refine zs0 (SqL.of (s3 _ _ (G'.row j p1 e1))) (fun q2 H4 f4 s4 h4=>?_)
    walk_at "wh"
    exact k _ _ _ f4 s4 h4 ⟨_,rfl⟩
   ·intro acc qs H3 F3
    rw[zcu6,gl] at F3
    have L3:=L2.same F3.same
    obtain⟨oa,ea⟩:=L2.some
    refine zh4 F3.out ?_
    rw[zcu6,F3.len]
    refine zd3 L3 (by walk_at "om") (by walk_at "om") (by walk_at "om") (fun at' H4 at0 at1 c4 L4=>?_)
    have c04:Chg a H H4:=(c02.same F3.same).trans c4
    have nacc:acc≠a:=Ne.symm (za5 ea F3.facc)
    obtain⟨zs,ezs⟩:∃ zs:Rw,zs=(List.range (n+1)).map fun i=>(qs.getD i 0,(List.range (m+1)).map (g i)):=⟨_,rfl⟩
    have zl:zs.length=n+1:=by rw[ezs,zcu6,zcy3]
    have zat:∀ (i:Nat),i<n+1->∃ p',qs[i]?=some p'/\zs[i]?=some (p',(List.range (m+1)).map (g i)):=fun i hi=>by
     obtain⟨p',hp'⟩:∃ p',qs[i]?=some p':=⟨_,zcu7 (by rw[F3.len];exact hi)⟩
     refine⟨p',hp',?_⟩
     rw[ezs,zcu9,zcz9 hi]
     show some (qs.getD i 0,_)=_
     rw[zcv2,hp'];rfl
    have zmem:∀ z∈zs,H z.1=none/\H4 z.1=some (.lst (z.2.map V.int))/\z.2.length=m+1:=fun z hz=>by
     obtain⟨i,hi,ei⟩:=List.mem_iff_getElem.mp hz
     obtain⟨p',hp',e'⟩:=zat i (by walk_at "om")
     rw[zcu7 hi,ei] at e'
     cases e'
     have rr:=F3.row i p' hp'
     refine⟨Chg.free' c02 rr.1 (Ne.symm (za5 ea rr.1)),?_,by rw[zcu6,zcy3]⟩
     have:=c4 _ _ (Ne.symm (za5 ea rr.1)) rr.2
     rw[zy2] at this
     exact this
    have hq4:H4 acc=some (.lst (refs zs)):=by
     have:=c4 _ _ nacc F3.out
     rw[this]
     congr 2
     apply zda7
     intro i
     by_cases hi:i<n+1
     ·obtain⟨p',hp',e'⟩:=zat i hi
      unfold refs
      rw[zcu9,zcu9,hp',e']
      rfl
     ·rw[zcx4 (by rw[zcu6,F3.len];omega),zcx4 (by rw[zr9,zl];omega)]
    obtain⟨k,ek⟩:∃ k:Nat,at'=k:=⟨at'.toNat,by walk_at "om"⟩
    subst ek
    have hk:k<n+1:=by walk_at "om"
    obtain⟨pk,hpk,ez⟩:=zat k hk
    have zk:=zmem _ (zcv1 ez)
    have ez0:zs[((k:Nat):Int).toNat]?=some (pk,(List.range (m+1)).map (g k)):=by rw[show ((k:Nat):Int).toNat=k by walk_at "om"];exact ez
    clear ezs zat
    obtain⟨T,eT⟩:∃ T,zs.take k=T:=⟨_,rfl⟩
    obtain⟨U,eU⟩:∃ U,zs.drop (k+1)=U:=⟨_,rfl⟩
    have tl:T.length=k:=by rw[← eT,zdb6];omega
    have ul:U.length=n - k:=by rw[← eU,zda6];omega
    have tm:∀ z∈T,z∈zs:=fun z hz=>List.mem_of_mem_take (eT▸hz)
    have um:∀ z∈U,z∈zs:=fun z hz=>List.mem_of_mem_drop (eU▸hz)
    have tk:cutV (refs zs) none (some ((k:Nat):Int))=refs T:=by rw[zbx1 _ _ (by walk_at "om"),show ((k:Nat):Int).toNat=k by walk_at "om",eT]
    have dk:cutV (refs zs) (some ((k:Nat)+1:Int)) none=refs U:=by rw[zbu0 _ _ (by walk_at "om"),show ((k:Nat)+1:Int).toNat=k+1 by walk_at "om",eU]
    have sz:∀ x:Nat,x<=100->x<=sizeLine:=fun x hx=>by rw[sizeLine_eq];omega
    have rl:(((List.range (m+1)).map (g k)).map V.int).length=m+1:=by rw[zcu6,zcu6,zcy3]
    refine zam7 (SqL.of hq4) (fun p5 H5 f5 s5 h5=>?_)
    rw[tk] at h5
    refine zam7 (SqL.of (s5 _ _ hq4)) (fun p6 H6 f6 s6 h6=>?_)
    rw[dk] at h6
    refine zp9 (s6 _ _ h5) h6 (sz _ (by rw[zr9,zr9];omega)) (fun p7 H7 f7 s7 h7=>?_)
    rw[zz7] at h7
    have s47:=(s5.trans s6).trans s7
    refine zg6 (v:=.ref pk) (s47 _ _ hq4) (zbe3 (by walk_at "om") ez0) ?_
    refine zc5 (fun p8 H8 f8 s8 h8=>?_)
    refine zp9 (s8 _ _ (s47 _ _ hq4)) h8 (sz _ (by rw[zr9,zcw7];omega)) (fun p9 H9 f9 s9 h9=>?_)
    have h9:H9 p9=some (.lst (refs (zs++[(pk,(List.range (m+1)).map (g k))]))):=by rw[h9,← zz7];rfl
    have s49:=(s47.trans s8).trans s9
    refine zam7 (SqL.of (s49 _ _ hq4)) (fun p10 H10 f10 s10 h10=>?_)
    rw[tk] at h10
    refine zg6 (v:=.ref pk) (s10 _ _ (s49 _ _ hq4)) (zbe3 (by walk_at "om") ez0) ?_
    refine zam7 (SqL.of (s10 _ _ (s49 _ _ zk.2.1))) (fun p11 H11 f11 s11 h11=>?_)
    have h11:H11 p11=some (.lst ((((List.range (m+1)).map (g k)).drop 1).map V.int)):=by rw[h11,zae0 (by decide),List.map_drop];rfl
    refine zc5 (fun p12 H12 f12 s12 h12=>?_)
    refine zp9 (s12 _ _ (s11 _ _ h10)) h12 (sz _ (by rw[zr9,zcw7];omega)) (fun p13 H13 f13 s13 h13=>?_)
    have h13:H13 p13=some (.lst (refs (T++[(p11,((List.range (m+1)).map (g k)).drop 1)]))):=by rw[h13,← zz7];rfl
    have s4d:=(((s49.trans s10).trans s11).trans s12).trans s13
    refine zam7 (SqL.of (s4d _ _ hq4)) (fun p14 H14 f14 s14 h14=>?_)
    rw[dk] at h14
    refine zp9 (s14 _ _ h13) h14 (sz _ (by rw[zr9,zr9,zcv9,zcw7];omega)) (fun p15 H15 f15 s15 h15=>?_)
    rw[zz7] at h15
    refine zc5 (fun p16 H16 f16 s16 h16=>?_)
    have s4g:=((s4d.trans s14).trans s15).trans s16
    refine zam7 (SqL.of (s4g _ _ hq4)) (fun p17 H17 f17 s17 h17=>?_)
    rw[tk] at h17
    refine zg6 (v:=.ref pk) (s17 _ _ (s4g _ _ hq4)) (zbe3 (by walk_at "om") ez0) ?_
    refine zc5 (fun p18 H18 f18 s18 h18=>?_)
    refine zp9 (s18 _ _ (s17 _ _ (s4g _ _ zk.2.1))) h18 (sz _ (by rw[rl,zcw7];omega)) (fun p19 H19 f19 s19 h19=>?_)
    have h19:H19 p19=some (.lst ((((List.range (m+1)).map (g k))++[0]).map V.int)):=by rw[h19,zcx8];rfl
    refine zc5 (fun p20 H20 f20 s20 h20=>?_)
    have s17b:=((s18.trans s19).trans s20)
    refine zp9 (s17b _ _ h17) h20 (sz _ (by rw[zr9,zcw7];omega)) (fun p21 H21 f21 s21 h21=>?_)
    have h21:H21 p21=some (.lst (refs (T++[(p19,((List.range (m+1)).map (g k))++[0])]))):=by rw[h21,← zz7];rfl
    have s4l:=((s4g.trans s17).trans s17b).trans s21
    refine zam7 (SqL.of (s4l _ _ hq4)) (fun p22 H22 f22 s22 h22=>?_)
    rw[dk] at h22
    refine zp9 (s22 _ _ h21) h22 (sz _ (by rw[zr9,zr9,zcv9,zcw7];omega)) (fun p23 H23 f23 s23 h23=>?_)
    rw[zz7] at h23
    refine zc5 (fun p24 H24 f24 s24 h24=>?_)
    refine zc5 (fun p25 H25 f25 s25 h25=>?_)
    have s16p:Same H16 H25:=(((((s17.trans s17b).trans s21).trans s22).trans s23).trans s24).trans s25
    refine zp9 (s16p _ _ h16) h25 (sz _ (by simp)) (fun p26 H26 f26 s26 h26=>?_)
    have h26:H26 p26=some (.lst [.ref p7,.ref p9,.ref p15,.ref p23,.ref p24]):=h26
    have s4q:Same H4 H26:=((s4g.trans s16p).trans s26)
    refine zo1 h26 (by walk_at "om") (by simp only[zcx0,zcz4];omega) ?_
    intro v hv
    have keepT:∀ {x:Addr}{o:HO},H4 x=some o->H26 x=some o:=fun e=>s4q _ _ e
    have s726:Same H7 H26:=(((((((((s8.trans s9).trans s10).trans s11).trans s12).trans s13).trans s14).trans s15).trans s16).trans s16p).trans s26
    have s926:Same H9 H26:=(((((((s10.trans s11).trans s12).trans s13).trans s14).trans s15).trans s16).trans s16p).trans s26
    have s1126:Same H11 H26:=(((((s12.trans s13).trans s14).trans s15).trans s16).trans s16p).trans s26
    have s1526:Same H15 H26:=(s16.trans s16p).trans s26
    have s1926:Same H19 H26:=(((((s20.trans s21).trans s22).trans s23).trans s24).trans s25).trans s26
    have s2326:Same H23 H26:=(s24.trans s25).trans s26
    have c0:∀ {Hk:Hp},Same H4 Hk->Chg a H Hk:=fun s=>c04.same s
    have fr:∀ {Hk:Hp}{x:Addr},Same H4 Hk->Hk x=none->H x=none:=fun s f=>fresh (c0 s) (L4.same s) f
    have fin:∀ (zz:Rw) (v:Addr),(∀ z∈zz,H z.1=none/\H26 z.1=some (.lst (z.2.map V.int))/\z.2.length<=100)->zz.length<=100->H v=none->H26 v=some (.lst (refs zz))->isF n m (.tab (zz.map (·.2)))=false->∀ (p27:Addr) (H27:Hp),H26 p27=none->Same H26 H27->H27 p27=some (.tup [.str "table",.ref v])->Q (.ref p27) H27:=fun zz v hz zl hv0 hv1 bad p27 H27 f27 s27 h27=>by
     refine q p27 (.tab (zz.map (·.2))) H27 (c0 (s4q.trans s27)) ((L4.same (s4q.trans s27)).up (by walk_at "om")) ⟨v,zz.map (·.1),zy1 (fr s4q f27) h27,zci2 (zy1 hv0 (s27 _ _ hv1)) fun z hzz=>zy1 (hz z hzz).1 (s27 _ _ (hz z hzz).2.1)⟩ ⟨by rw[zcu6];exact zl,fun r hr=>?_⟩ bad
     obtain⟨z,hzz,rfl⟩:=zcx6.mp hr
     exact (hz z hzz).2.2
    have zz0:∀ z∈zs,H z.1=none/\H26 z.1=some (.lst (z.2.map V.int))/\z.2.length<=100:=fun z hz=>⟨(zmem z hz).1,keepT (zmem z hz).2.1,by rw[(zmem z hz).2.2];omega⟩
    simp only[zcw3,zcx3,or_false] at hv
    rcases hv with rfl|rfl|rfl|rfl|rfl
    ·walk_at "wh"
     refine zb7 (fun p27 H27 f27 s27 h27=>?_)
     walk_at "wh"
     refine fin (T++U) p7 (fun z hz=>?_) (by rw[zcv9];omega) (fr (s5.trans s6) f7) (s726 _ _ h7) (zat0 (by rw[zcu6,zcv9];omega)) p27 H27 f27 s27 h27
     rcases zcy0.mp hz with hz|hz
     ·exact zz0 z (tm z hz)
     ·exact zz0 z (um z hz)
    ·walk_at "wh"
     refine zb7 (fun p27 H27 f27 s27 h27=>?_)
     walk_at "wh"
     refine fin _ p9 (fun z hz=>?_) (by rw[zcv9,zcw7];omega) (fr (s47.trans s8) f9) (s926 _ _ h9) (zat0 (by rw[zcu6,zcv9,zcw7];omega)) p27 H27 f27 s27 h27
     rcases zcy0.mp hz with hz|hz
     ·exact zz0 z hz
     ·rw[zcz7.mp hz];exact zz0 _ (zcv1 ez)
    ·walk_at "wh"
     refine zb7 (fun p27 H27 f27 s27 h27=>?_)
     walk_at "wh"
     refine fin ((T++[(p11,((List.range (m+1)).map (g k)).drop 1)])++U) p15 (fun z hz=>?_) (by rw[zcv9,zcv9,zcw7];omega) (fr (s4d.trans s14) f15) (s1526 _ _ h15) (zbu1 (r:=((List.range (m+1)).map (g k)).drop 1) (by simp) (by rw[zda6,zcu6,zcy3];omega)) p27 H27 f27 s27 h27
     rcases zcy0.mp hz with hz|hz
     ·rcases zcy0.mp hz with hz|hz
      ·exact zz0 z (tm z hz)
      ·rw[zcz7.mp hz]
       exact⟨fr (s49.trans s10) f11,s1126 _ _ h11,by rw[zda6,zcu6,zcy3];omega⟩
     ·exact zz0 z (um z hz)
    ·walk_at "wh"
     refine zb7 (fun p27 H27 f27 s27 h27=>?_)
     walk_at "wh"
     refine fin ((T++[(p19,((List.range (m+1)).map (g k))++[0])])++U) p23 (fun z hz=>?_) (by rw[zcv9,zcv9,zcw7];omega) (fr (s4l.trans s22) f23) (s2326 _ _ h23) (zbu1 (r:=((List.range (m+1)).map (g k))++[0]) (by simp) (by rw[zcv9,zcu6,zcy3,zcw7];omega)) p27 H27 f27 s27 h27
     rcases zcy0.mp hz with hz|hz
     ·rcases zcy0.mp hz with hz|hz
      ·exact zz0 z (tm z hz)
      ·rw[zcz7.mp hz]
       exact⟨fr ((s4g.trans s17).trans s18) f19,s1926 _ _ h19,by rw[zcv9,zcu6,zcy3,zcw7];omega⟩
     ·exact zz0 z (um z hz)
    ·walk_at "wh"
     refine zb7 (fun p27 H27 f27 s27 h27=>?_)
     walk_at "wh"
     refine fin [] p24 (fun z hz=>by cases hz) (by simp) (fr ((s4l.trans s22).trans s23) f24) ((s25.trans s26) _ _ h24) (zat0 (by simp;omega)) p27 H27 f27 s27 h27
  ·walk_at "wh"
   exact⟨rfl,rfl⟩
 | more wt t=>
  have F2:H2 p=some (.tup [.str "more",.int wt,.int t]):=zb9 a H2 _ _ F2
  refine zb6 (v:=.str "more") F2 rfl ?_
  refine zy6 (by decide) ?_
  refine br_F ?_
  walk_at "wh"
  exact⟨rfl,rfl⟩
 | lead wt t=>
  have F2:H2 p=some (.tup [.str "lead",.int wt,.int t]):=zb9 a H2 _ _ F2
  refine zb6 (v:=.str "lead") F2 rfl ?_
  refine zy6 (by decide) ?_
  refine br_F ?_
  walk_at "wh"
  exact⟨rfl,rfl⟩
@[irreducible] def zg3:Sp:=fun vs H Q _=>∃ (a bt l:Addr) (ps:List Addr) (b:Int) (n m:Nat) (fs:List Fd),vs=[.ref a,.ref bt]/\zc1 H a b/\b<=50000/\zq3 (rm a H) bt l ps n m fs/\OkB n m fs/\∀ t bad k H',Chg a H H'->zc1 H' a (b+1000)->t≠a->H' t=some (.tup [.ref bad,.int k])->BadB (rm a H') bad k->Q (.ref t) H'
theorem zba2 {H:Hp}{a bt l:Addr}{ps:List Addr}{b:Int}{n m:Nat}{fs:List Fd}{Q:VK}{E:XK}(L:zc1 H a b) (hb:b<=50000) (B:zq3 (rm a H) bt l ps n m fs) (O:OkB n m fs) (q:∀ t bad k H',Chg a H H'->zc1 H' a (b+1000)->t≠a->H' t=some (.tup [.ref bad,.int k])->BadB (rm a H') bad k->Q (.ref t) H'):zg3 [.ref a,.ref bt] H Q E:=by unfold zg3;exact⟨a,bt,l,ps,b,n,m,fs,rfl,L,hb,B,O,q⟩
theorem bx_new {H H':Hp}{a l l' b':Addr}{ps ps':List Addr}{n m:Nat}{x y:Int}{fs:List Fd}(F:∀ (i:Nat) p f,ps[i]?=some p->fs[i]?=some f->FdAt H' p n m f) (hl:ps.length=fs.length) (hn:n<=10) (hm:m<=10) (hb:H' b'=some (.tup [.int x,.int y,.ref l'])) (h':H' l'=some (.lst (ps.map V.ref))):BxAt H' b' l' ps x y (fs.map (toFx n m)):=by
 refine⟨hb,h',by rw[hl,zcu6],fun i p f h1 h2=>?_⟩
 rw[zcu9] at h2
 obtain⟨f',e,rfl⟩:=zcv4.mp h2
 exact zaq3 (F i p f' h1 e) hn hm
theorem zag5 {α:Type}(k:Nat) (xs:List α):((List.replicate k xs).flatten).length=k*xs.length:=by
 induction k with
 | zero=>simp
 | succ k ih=>rw[zda3,zdb8,zcv9,ih,Nat.succ_mul];omega
theorem zch2 {α:Type}(k:Nat) (x:α):(List.replicate k [x]).flatten=List.replicate k x:=by
 induction k with
 | zero=>rfl
 | succ k ih=>rw[zda3,zdb8,ih,zda3];rfl
set_option maxHeartbeats 0 in
theorem zah0 {f:Addr}{fd:FuncData}(F:Fun K "_law_bent_one" "_law_bent_one" zj9 f fd) (N:Nm mg) (zcp3:Def P w K mg base CX0 3 "_law_bad_field" ["_law_left","_law_field","_law_first","_law_second"] zf1) (zcl7:Def P w K mg base CX0 2 "_law_draw" ["_law_left","_law_base"] zd5):FnOk P w K mg base CX0 4 f fd ["_law_left","_law_battle"] zg3:=by
 refine F.ok zc8 (fun vs H Q E h=>by unfold zg3 at h;obtain⟨_,_,_,_,_,_,_,_,rfl,_⟩:=h;rfl) (fun cdv A outer s H vs Q E hr h=>?_)
 unfold zg3 at h
 obtain⟨a,bt,l,ps,b,n,m,fs,rfl,L,hb,B,O,q⟩:=h
 have hu:=hu40 hr
 obtain⟨⟨on,om⟩,o1,o2⟩:=O
 have pl:=B.len
 refine⟨_,(za4 (zag2 (pq 1) (zk3 (K:=K) (n:=3) rfl rfl (zb1 (za7 (i:=2) zc8.nd rfl (by first|exact Or.inl rfl|exact Or.inr rfl)) (zb1 (za7 (i:=3) zc8.nd rfl (by first|exact Or.inl rfl|exact Or.inr rfl)) (zb1 (za7 (i:=4) zc8.nd rfl (by first|exact Or.inl rfl|exact Or.inr rfl)) zk1)))))
   (za4 (psS (i:=5) zc8.nd (pD zcl7 hr zb5 (za0 (pq 0) (za0 za2 za1))))
   (za4 (psS (i:=6) zc8.nd (pD zcl7 hr zb5 (za0 (pq 0) (za0 (zb4 oPow za2 za2) za1))))
   (za4 (psIf (ptC oLt (pq 5) za2) (za4 (psS (i:=7) zc8.nd (zb8 (K:=K) rfl (zi6 (za0 (zaa3 uNeg za2) (za0 za2 (za0 (zb4 oSub (zaa3 uNeg za2) (pq 6)) (za0 (zb4 oAdd za2 (pq 6)) za1))))) (pD zcl7 hr zb5 (za0 (pq 0) (za0 za2 za1)))))
   (za4 (psS (i:=8) zc8.nd (zb8 (K:=K) rfl (zi6 (za0 (zh2 (za0 (pq 7) (za0 (pq 3) za1))) (za0 (zh2 (za0 (pq 2) (za0 (pq 7) za1))) (za0 (zh2 (za0 (pq 7) (za0 (pq 7) za1))) (za0 (zh2 (za0 (pq 7) (za0 (pq 3) za1))) za1))))) (pq 5)))
   (za6 (zb0 (zh2 (za0 (zh2 (za0 (zb8 (K:=K) rfl (pq 8) za2) (za0 (zb8 (K:=K) rfl (pq 8) za2) (za0 (pT (zaa4 (K:=K) rfl) N.list_ zn7 (za0 (pq 4) za1)) za1)))) (za0 (zaa3 uNeg za2) za1))))))) zc2)
   (za4 (psIf (ptC (oEqK (K:=K) rfl (by exact hu)) (pq 5) za2) (za6 (zb0 (zh2 (za0 (zh2 (za0 (pq 2) (za0 (pq 3) (za0 (zi6 za1) za1)))) (za0 (zaa3 uNeg za2) za1))))) zc2)
   (za4 (psIf (ptC (oEqK (K:=K) rfl (by exact hu)) (pq 5) za2) (za6 (zb0 (zh2 (za0 (zh2 (za0 (pq 2) (za0 (pq 3) (za0 (zj4 (slK (K:=K) rfl) (zb4 oMul (pT (zaa4 (K:=K) rfl) N.list_ zn7 (za0 (pq 4) za1)) za2) zn8 (zt0 za2)) za1)))) (za0 (zaa3 uNeg za2) za1))))) zc2)
   (za4 (psS (i:=9) zc8.nd (pD zcl7 hr zb5 (za0 (pq 0) (za0 (pB (zq4 (K:=K) rfl) N.len_ zj3 (za0 (pq 4) za1)) za1))))
   (za4 (psS (i:=10) zc8.nd (pT (zaa4 (K:=K) rfl) N.list_ zn7 (za0 (pq 4) za1)))
   (za4 (zac3 PassesOwn.never rfl (zj2 (K:=K) rfl (zb4 oAdd (zi6 (za0 (pq 9) za1)) (zb4 oMul (zi6 (za0 (zb4 oAdd (zb4 oAdd (pq 9) za2) (pD zcl7 hr zb5 (za0 (pq 0) (za0 za2 za1)))) za1)) (pT cInt N.int_ zam9 (za0 (peC (oEqK (K:=K) rfl (by exact hu)) (pq 5) za2) za1))))) (za7 (i:=11) zc8.nd rfl (by first|exact Or.inl rfl|exact Or.inr rfl)) (za6 (psIf (ptC oLt (pq 11) (pB (zq4 (K:=K) rfl) N.len_ zj3 (za0 (pq 10) za1))) (za6 (zag2 (pD zcp3 hr zb5 (za0 (pq 0) (za0 (zb8 (K:=K) rfl (pq 10) (pq 11)) (za0 (pq 2) (za0 (pq 3) za1))))) (zbw7 (pq 10) (pq 11) setM))) zc2)))
   (za6 (zb0 (zh2 (za0 (zh2 (za0 (pq 2) (za0 (pq 3) (za0 (pq 10) za1)))) (za0 (pq 9) za1)))))))))))))),?_⟩
 refine ze7 (zb9 a H _ _ B.out) ?_
 refine zd3 L (by walk_at "om") (by walk_at "om") (by walk_at "om") (fun kd H1 kd0 kd1 c1 L1=>?_)
 walk_at "st"
 refine zd3 L1 (by walk_at "om") (by walk_at "om") (by walk_at "om") (fun far H2 far0 far1 c2 L2=>?_)
 have c02:=c1.trans c2
 have B2:=B.same (Chg.rm c02)
 have l2:=zb9 a H2 _ _ B2.lst
 have nla:l≠a:=(zm1 B2.lst).1
 have fresh:∀ {Hk:Hp}{x:Addr}{bb:Int},Chg a H Hk->zc1 Hk a bb->Hk x=none->H x=none:=fun c L f=>Chg.free' c f (L.ne f)
 have fd:∀ {Hk:Hp},Chg a H2 Hk->∀ (i:Nat) p f,ps[i]?=some p->fs[i]?=some f->FdAt (rm a Hk) p n m f:=fun c i p f h1 h2=>(B2.fld i p f h1 h2).1.same (Chg.rm c)
 refine ze9 (fun k4=>?_) (fun k4=>?_)
 ·walk_at "wh"
  refine zc5 (fun p3 H3 f3 s3 h3=>?_)
  refine zd3 (L2.same s3) (by walk_at "om") (by walk_at "om") (by walk_at "om") (fun d4 H4 d40 d41 c4 L4=>?_)
  have h34:=c4 _ _ (L2.ne f3) h3
  refine zo1 h34 (by walk_at "om") (by simp only[zcx0,zcz4];omega) ?_
  intro v hv
  obtain⟨wr,rfl,hwr⟩:∃ wr:Int,v=.int wr/\(wr<0∨10<wr):=by
   simp only[zcw3,zcx3,or_false] at hv
   rcases hv with rfl|rfl|rfl|rfl<;>exact⟨_,rfl,by walk_at "om"⟩
  clear hv
  refine zb7 (fun p5 H5 f5 s5 h5=>?_)
  refine zb7 (fun p6 H6 f6 s6 h6=>?_)
  refine zb7 (fun p7 H7 f7 s7 h7=>?_)
  refine zb7 (fun p8 H8 f8 s8 h8=>?_)
  refine zc5 (fun p9 H9 f9 s9 h9=>?_)
  refine zo1 h9 (by walk_at "om") (by simp only[zcx0,zcz4];omega) ?_
  intro v hv
  obtain⟨ps9,x,y,rfl,hxy,bad⟩:∃ (p:Addr) (x y:Int),v=.ref p/\H9 p=some (.tup [.int x,.int y])/\¬ ((0<=x/\x<=10)/\0<=y/\y<=10):=by
   simp only[zcw3,zcx3,or_false] at hv
   rcases hv with rfl|rfl|rfl|rfl
   ·exact⟨p5,_,_,rfl,(((s6.trans s7).trans s8).trans s9) _ _ h5,by walk_at "om"⟩
   ·exact⟨p6,_,_,rfl,((s7.trans s8).trans s9) _ _ h6,by walk_at "om"⟩
   ·exact⟨p7,_,_,rfl,(s8.trans s9) _ _ h7,by walk_at "om"⟩
   ·exact⟨p8,_,_,rfl,s9 _ _ h8,by walk_at "om"⟩
  clear hv
  have s49:=(((s5.trans s6).trans s7).trans s8).trans s9
  have c29:Chg a H2 H9:=(((s3.toChg).trans c4).same s49)
  refine zb6 (v:=.int x) hxy rfl ?_
  refine zb6 (v:=.int y) hxy rfl ?_
  refine zs0 (SqL.of (c29 _ _ nla l2)) (fun l' H10 f10 s10 h10=>?_)
  refine zb7 (fun b' H11 f11 s11 h11=>?_)
  refine zb7 (fun t H12 f12 s12 h12=>?_)
  walk_at "wh"
  have L9:=L4.same s49
  have c2c:Chg a H2 H12:=((c29.same s10).same s11).same s12
  have n10:l'≠a:=L9.ne f10
  have n11:b'≠a:=(L9.same s10).ne f11
  have n12:t≠a:=((L9.same s10).same s11).ne f12
  have X:=bx_new (H:=H) (a:=a) (l:=l) (ps':=ps) (fd c2c) pl on om (zf6 n11 (s12 _ _ h11)) (zf6 n10 ((s11.trans s12) _ _ h10))
  exact q t b' (-1) H12 (c02.trans c2c) ((((L9.same s10).same s11).same s12).up (by walk_at "om")) n12 h12 ⟨l',ps,x,y,_,X,by rw[zcu6];omega,.inl ⟨fun z=>bad z.1,rfl⟩⟩
 refine ze9 (fun e4=>?_) (fun e4=>?_)
 ·walk_at "wh"
  refine zc5 (fun l' H10 f10 s10 h10=>?_)
  refine zb7 (fun b' H11 f11 s11 h11=>?_)
  refine zb7 (fun t H12 f12 s12 h12=>?_)
  walk_at "wh"
  have n10:l'≠a:=L2.ne f10
  have n11:b'≠a:=(L2.same s10).ne f11
  have n12:t≠a:=((L2.same s10).same s11).ne f12
  have s2c:=(s10.trans s11).trans s12
  exact q t b' (-1) H12 (c02.same s2c) ((L2.same s2c).up (by walk_at "om")) n12 h12 ⟨l',[],n,m,[],⟨zf6 n11 (s12 _ _ h11),zf6 n10 ((s11.trans s12) _ _ h10),rfl,fun i p f e=>by simp at e⟩,by simp,.inl ⟨fun z=>by have:=z.2.1;simp at this,rfl⟩⟩
 refine ze9 (fun e5=>?_) (fun e5=>?_)
 ·walk_at "wh"
  refine zs0 (SqL.of l2) (fun p9 H9 f9 s9 h9=>?_)
  refine zbu2 h9 (by decide) (by decide) (by rw[zcu6,sizeLine_eq];show ps.length*6<=_;omega) (fun p10 H10 f10 s10 h10=>?_)
  refine zam7 (SqL.of h10) (fun l' H11 f11 s11 h11=>?_)
  refine zb7 (fun b' H12 f12 s12 h12=>?_)
  refine zb7 (fun t H13 f13 s13 h13=>?_)
  walk_at "wh"
  have s210:=s9.trans s10
  have n11:l'≠a:=(L2.same s210).ne f11
  have n12:b'≠a:=((L2.same s210).same s11).ne f12
  have n13:t≠a:=(((L2.same s210).same s11).same s12).ne f13
  have s2d:=((s210.trans s11).trans s12).trans s13
  have e6:(6:Int).toNat=6:=rfl
  obtain⟨zs,ezs⟩:∃ zs:List (Addr×Fd),zs=((List.replicate 6 (ps.zip fs)).flatten).take 6:=⟨_,rfl⟩
  have zl:zs.length=6:=by
   rw[ezs,zdb6,zag5,List.length_zip]
   omega
  have zm:∀ z∈zs,z∈ps.zip fs:=fun z hz=>by
   rw[ezs] at hz
   obtain⟨ys,hy,hx⟩:=List.mem_flatten.mp (List.mem_of_mem_take hz)
   rw[zdb5 hy] at hx
   exact hx
  have el:cutV (List.replicate (6:Int).toNat (ps.map V.ref)).flatten none (some 6)=(zs.map (·.1)).map V.ref:=by
   rw[zw0 (by decide),ezs,List.map_take,List.map_take,List.map_flatten,List.map_flatten,List.map_replicate,List.map_replicate,List.map_fst_zip (by walk_at "om")]
   rfl
  rw[el] at h11
  refine q t b' (-1) H13 (c02.same s2d) ((L2.same s2d).up (by walk_at "om")) n13 h13 ⟨l',zs.map (·.1),n,m,zs.map fun z=>toFx n m z.2,⟨zf6 n12 (s13 _ _ h12),zf6 n11 ((s12.trans s13) _ _ h11),by rw[zcu6,zcu6],fun i p f h1 h2=>?_⟩,by rw[zcu6,zl];decide,.inl ⟨fun z=>by have:=z.2.2;rw[zcu6,zl] at this;omega,rfl⟩⟩
  rw[zcu9] at h1 h2
  obtain⟨z,ez,rfl⟩:=zcv4.mp h1
  rw[ez] at h2
  cases h2
  have hz:=zm z (zcv1 ez)
  obtain⟨j,hj,ej⟩:=List.mem_iff_getElem.mp hz
  rw[List.getElem_zip] at ej
  rw[List.length_zip] at hj
  have ej1:ps[j]?=some z.1:=by rw[zcu7 (by walk_at "om"),← ej]
  have ej2:fs[j]?=some z.2:=by rw[zcu7 (by walk_at "om"),← ej]
  exact zaq3 (fd s2d.toChg j z.1 z.2 ej1 ej2) on om
 refine zh4 l2 ?_
 rw[zcu6,pl]
 refine zd3 L2 (by walk_at "om") (by walk_at "om") (by walk_at "om") (fun at' H3 at0 at1 c3 L3=>?_)
 obtain⟨k,ek⟩:∃ k:Nat,at'=k:=⟨at'.toNat,by walk_at "om"⟩
 subst ek
 have hk:k<fs.length:=by walk_at "om"
 refine zs0 (SqL.of (c3 _ _ nla l2)) (fun fo H4 f4 s4 h4=>?_)
 have L4:=L3.same s4
 have nfo:fo≠a:=L3.ne f4
 have c24:Chg a H2 H4:=c3.same s4
 refine zc5 (fun p5 H5 f5 s5 h5=>?_)
 refine zd3 (L4.same s5) (by walk_at "om") (by walk_at "om") (by walk_at "om") (fun d6 H6 d60 d61 c6 L6=>?_)
 have h56:=c6 _ _ (L4.ne f5) h5
 refine zc5 (fun p7 H7 f7 s7 h7=>?_)
 obtain⟨kk,ekk,kk0,kk1⟩:∃ kk:Int,(if decide (kd=6)=true then (1:Int) else 0)=kk/\0<=kk/\kk<=1:=⟨_,rfl,by split<;>omega,by split<;>omega⟩
 walk_at "wh"
 rw[ekk]
 refine zbu2 h7 (by walk_at "om") (by walk_at "om") (by rw[sizeLine_eq,zcw7];omega) (fun p8 H8 f8 s8 h8=>?_)
 refine zp9 (s8 _ _ (s7 _ _ h56)) h8 (by rw[sizeLine_eq,zag5,zcw7,zcw7];omega) (fun p9 H9 f9 s9 h9=>?_)
 obtain⟨xs,exs⟩:∃ xs:List Int,xs=(k:Int) :: (List.replicate kk.toNat ((k:Int)+1+d6)):=⟨_,rfl⟩
 have h9:H9 p9=some (.lst (xs.map V.int)):=by
  rw[h9,exs,zcy2,List.map_replicate,zch2]
  rfl
 have x0:xs[0]?=some (k:Int):=by rw[exs];rfl
 have xi:∀ (i:Nat) x,xs[i]?=some x->i≠0->x=(k:Int)+1+d6:=fun i x hx hi=>by
  rw[exs] at hx
  obtain⟨j,rfl⟩:∃ j,i=j+1:=⟨i - 1,by walk_at "om"⟩
  exact zdb5 (zcv1 (show (List.replicate kk.toNat ((k:Int)+1+d6))[j]?=some x from hx))
 have xl:xs.length<=2:=by rw[exs,zcx0,zdc1];omega
 have x1:1<=xs.length:=by rw[exs,zcx0];omega
 have n9:p9≠a:=((L6.same s7).same s8).ne f9
 have s69:=(s7.trans s8).trans s9
 have h4':H9 fo=some (.lst (ps.map V.ref)):=s69 _ _ (c6 _ _ nfo (s5 _ _ h4))
 have n9f:p9≠fo:=Ne.symm (za5 ((s7.trans s8) _ _ (c6 _ _ nfo (s5 _ _ h4))) f9)
 have ff2:H2 fo=none:=Chg.free' c3 f4 nfo
 have c29:Chg a H2 H9:=((c24.same s5).trans c6).same s69
 refine zd0 h9 ?_
 refine zp7 (xs:=xs.map V.int) (fun i σ Hi=>∃ (t:Option V) (ps':List Addr) (fs':List Fx),σ=[some (.ref a),some (.ref bt),some (.int n),some (.int m),some (.ref l),some (.int kd),some (.int far),none,none,some (.int k),some (.ref fo),t]/\zc1 Hi a (b+20+100*i)/\Chg a H2 Hi/\Hi p9=some (.lst (xs.map V.int))/\Hi fo=some (.lst (ps'.map V.ref))/\ps'.length=fs.length/\fs'.length=fs.length /\
   (∀ (j:Nat) p f,ps'[j]?=some p->fs'[j]?=some f->FxAt (rm fo (rm a Hi)) p f/\f.Gd)/\(∀ (j:Nat) p f,ps[j]?=some p->fs[j]?=some f->FdAt (rm fo (rm a Hi)) p n m f)/\(∀ j,j<k->fs'[j]?=(fs.map (toFx n m))[j]?)/\(i=0->ps'=ps)/\(i=1->∀ j,k<j->ps'[j]?=ps[j]?)/\(1<=i->∃ f,fs'[k]?=some f/\isF n m f=false)) ?_ ?_ ?_ ?_
 ·have fd0:∀ (j:Nat) p f,ps[j]?=some p->fs[j]?=some f->FdAt (rm fo (rm a H9)) p n m f:=fun j p f g1 g2=>((B2.fld j p f g1 g2).1).same (fun x o e=>zf6 (fun z=>by have:=(zm1 e).2;rw[z,ff2] at this;cases this) (Chg.rm c29 _ _ e))
  refine⟨_,ps,fs.map (toFx n m),rfl,(L6.same s69).up (by walk_at "om"),c29,h9,h4',pl,by rw[zcu6],fun j p f g1 g2=>?_,fd0,fun j _=>rfl,fun _=>rfl,fun z=>by walk_at "om",fun z=>by walk_at "om"⟩
  rw[zcu9] at g2
  obtain⟨f',e,rfl⟩:=zcv4.mp g2
  exact zaq3 (fd0 j p f' g1 e) on om
 ·rintro i σ Hi _ ⟨_,_,_,_,_,_,h,_⟩
  exact SqL.of h
 ·rintro i v σ Hi hx ⟨t,ps',fs',rfl,Li,ci,hp9,hfo,pl',fl',px,pd,lo,i0,i1,ib⟩
  have hi:=(zcv3.mp hx).1
  rw[zcu6] at hi
  rw[zcu9] at hx
  obtain⟨x,ex,rfl⟩:=zcv4.mp hx
  have hx:(i=0/\x=k)∨(i=1/\x=(k:Int)+1+d6):=by
   by_cases hi0:i=0
   ·subst hi0
    rw[x0] at ex
    exact .inl ⟨rfl,(Option.some.inj ex).symm⟩
   ·exact .inr ⟨by walk_at "om",xi i x ex hi0⟩
  refine zh4 hfo ?_
  rw[zcu6,pl']
  refine ze9 (fun lt=>?_) (fun lt=>?_)
  ·obtain⟨j,ej⟩:∃ j:Nat,x=j:=⟨x.toNat,by walk_at "om"⟩
   subst ej
   have hj:j<fs.length:=by walk_at "om"
   have same:ps'[j]?=ps[j]?:=by
    rcases hx with ⟨h0,h1⟩|⟨h0,h1⟩
    ·rw[i0 h0]
    ·exact i1 h0 j (by walk_at "om")
   obtain⟨pj,epj⟩:∃ pj,ps[j]?=some pj:=⟨_,zcu7 (by walk_at "om")⟩
   obtain⟨fj,efj⟩:∃ fj,fs[j]?=some fj:=⟨_,zcu7 hj⟩
   refine zg6 (v:=.ref pj) hfo (zl6 (by rw[zcu9,same,epj];rfl)) ?_
   refine zay8 Li (by walk_at "om") ((pd j pj fj epj efj).same (zb9 _ _)) (B2.fld j pj fj epj efj).2 on om (fun qn fx Hj cj Lj Fx gd bad=>?_)
   refine zbo0 (cj _ _ nfo hfo) (ixN_in (by walk_at "om") (by rw[zcu6,pl'];omega)) (fun Hk ck hk'=>?_)
   rw[show ((j:Nat):Int).toNat=j by walk_at "om"] at hk'
   have ek:(ps'.map V.ref).set j (.ref qn)=(ps'.set j qn).map V.ref:=by rw[List.map_set]
   rw[ek] at hk'
   have up:∀ x o,rm fo (rm a Hi) x=some o->rm fo (rm a Hk) x=some o:=fun x o e=>by
    have e1:=zm1 e
    have e2:=zm1 e1.2
    exact zf6 e1.1 (zf6 e2.1 (ck _ _ e1.1 (cj _ _ e2.1 e2.2)))
   obtain⟨oa,ea⟩:=Li.some
   have upn:∀ x o,nw Hi Hj x=some o->rm fo (rm a Hk) x=some o:=fun x o e=>by
    have e1:=zan9 e
    have nx:x≠fo:=fun z=>by rw[z,hfo] at e1;cases e1.1
    exact zf6 nx (zf6 (fun z=>by rw[z,ea] at e1;cases e1.1) (ck _ _ nx e1.2))
   refine⟨_,ps'.set j qn,fs'.set j fx,rfl,(Lj.chg ck (Ne.symm nfo)).up (by walk_at "om"),fun x o z1 e=>ck _ _ (za5 e ff2) (cj _ _ z1 (ci _ _ z1 e)),ck _ _ n9f (cj _ _ n9 hp9),hk',by rw[zdd4,pl'],by rw[zdd4,fl'],fun j' p f g1 g2=>?_,fun j' p f g1 g2=>(pd j' p f g1 g2).same up,fun j' hj'=>?_,fun z=>by walk_at "om",fun z j' hj'=>?_,fun _=>?_⟩
   ·by_cases e:j=j'
    ·subst e
     rw[zda5 (by walk_at "om")] at g1 g2
     cases g1
     cases g2
     exact⟨Fx.same upn,gd⟩
    ·rw[zda9 e] at g1 g2
     exact⟨(px j' p f g1 g2).1.same up,(px j' p f g1 g2).2⟩
   ·rw[zda9 (by walk_at "om")]
    exact lo j' hj'
   ·have h0:i=0:=by walk_at "om"
    rw[zda9 (by walk_at "om"),i0 h0]
   ·rcases hx with ⟨h0,h1⟩|⟨h0,h1⟩
    ·have:j=k:=by walk_at "om"
     subst this
     exact⟨fx,by rw[zda5 (by walk_at "om")],bad⟩
    ·rw[zda9 (by walk_at "om")]
     exact ib (by walk_at "om")
  ·have h1:i=1:=by walk_at "om"
   walk_at "wh"
   exact⟨_,ps',fs',rfl,Li.up (by walk_at "om"),ci,hp9,hfo,pl',fl',px,pd,lo,fun z=>by walk_at "om",fun z=>by walk_at "om",fun _=>ib (by walk_at "om")⟩
 ·rintro σ Hi ⟨t,ps',fs',rfl,Li,ci,hp9,hfo,pl',fl',px,pd,lo,i0,i1,ib⟩
  rw[zcu6] at Li ib
  obtain⟨fb,efb,bad⟩:=ib x1
  refine zb7 (fun b' H11 f11 s11 h11=>?_)
  refine zb7 (fun t H12 f12 s12 h12=>?_)
  walk_at "wh"
  have n11:b'≠a:=Li.ne f11
  have n12:t≠a:=(Li.same s11).ne f12
  have s12':=s11.trans s12
  refine q t b' k H12 (c02.trans (ci.same s12')) ((Li.same s12').up (by walk_at "om")) n12 h12 ⟨fo,ps',n,m,fs',⟨zf6 n11 (s12 _ _ h11),zf6 nfo (s12' _ _ hfo),by walk_at "om",fun j p f g1 g2=>⟨(px j p f g1 g2).1.same (fun x o e=>?_),(px j p f g1 g2).2⟩⟩,by walk_at "om",.inr ⟨by rw[fl'];exact⟨⟨⟨by walk_at "om",by walk_at "om"⟩,by walk_at "om",by walk_at "om"⟩,o1,o2⟩,k,fb,rfl,efb,bad,fun j g hj hg=>?_⟩⟩
  ·have e1:=zm1 (zm1 e).2
   exact zf6 e1.1 (s12' _ _ e1.2)
  ·rw[lo j hj,zcu9] at hg
   obtain⟨f',e,rfl⟩:=zcv4.mp hg
   obtain⟨pj,epj⟩:∃ pj,ps[j]?=some pj:=⟨_,zcu7 (by walk_at "om")⟩
   exact zbp4 (B2.fld j pj f' epj e).2
@[irreducible] def ze5:Sp:=fun vs H Q _=>∃ (a:Addr) (b:Int) (h f:Nat),vs=[.ref a,.int h,.int f]/\zc1 H a b/\b<=100000/\h<=40/\(1<=f/\f<=8)/\∀ l H' (ns:List Int),H l=none->Chg a H H'->zc1 H' a (b+100)->l≠a->H' l=some (.lst (ns.map V.int))->ns.length=f->ns.sum=h->(∀ x∈ns,0<=x)->Q (.ref l) H'
theorem zas4 {H:Hp}{a:Addr}{b:Int}{h f:Nat}{Q:VK}{E:XK}(hL:zc1 H a b) (hb:b<=100000) (h1:h<=40) (h2:1<=f) (h3:f<=8) (q:∀ l H' (ns:List Int),H l=none->Chg a H H'->zc1 H' a (b+100)->l≠a->H' l=some (.lst (ns.map V.int))->ns.length=f->ns.sum=h->(∀ x∈ns,0<=x)->Q (.ref l) H'):ze5 [.ref a,.int h,.int f] H Q E:=by
 unfold ze5;exact⟨a,b,h,f,rfl,hL,hb,h1,⟨h2,h3⟩,q⟩
theorem zad6 {f:Addr}{fd:FuncData}(F:Fun K "_law_drawn_plan" "_law_drawn_plan" zh0 f fd) (N:Nm mg) (zcl7:Def P w K mg base CX0 2 "_law_draw" ["_law_left","_law_base"] zd5):FnOk P w K mg base CX0 3 f fd ["_law_left","_law_hosts","_law_many"] ze5:=by
 refine F.ok zg0 (fun vs H Q E h=>by unfold ze5 at h;obtain⟨_,_,_,_,rfl,_⟩:=h;rfl) (fun cdv A outer s H vs Q E hr h=>?_)
 unfold ze5 at h
 obtain⟨a,b,h,f,rfl,hL,hb,h1,⟨h2,h3⟩,q⟩:=h
 refine⟨_,(za4 (psS (i:=3) zg0.nd (zi6 za1))
   (za4 (psS (i:=4) zg0.nd (pq 1))
   (za4 (zac3 PassesOwn.never rfl (zac1 N.range_ (za0 (zb4 oSub (pq 2) za2) za1)) (za7 (i:=5) zg0.nd rfl (by first|exact Or.inl rfl|exact Or.inr rfl)) (za4 (psS (i:=6) zg0.nd (zb8 (K:=K) rfl (zi6 (za0 (pD zcl7 hr zb5 (za0 (pq 0) (za0 (zb4 oAdd (pq 4) za2) za1))) (za0 za2 (za0 (pq 4) za1)))) (zb4 oDiv (pD zcl7 hr zb5 (za0 (pq 0) (za0 za2 za1))) za2)))
   (za4 (zr7 (zr4 (pq 3) (za0 (pq 6) za1)))
   (za6 (psS (i:=4) zg0.nd (zb4 oSub (pq 4) (pq 6)))))))
   (za6 (zb0 (zb4 oAdd (pq 3) (zi6 (za0 (pq 4) za1)))))))),?_⟩
 refine zc5 (fun l H1 f1 s1 h1'=>?_)
 have n1:l≠a:=hL.ne f1
 refine zt5 (by decide) (by decide) (by walk_at "om") (by walk_at "om") ?_
 refine zw1 (fun i σ H2=>∃ (x y:Option V) (ns:List Int) (r:Int),σ=[some (.ref a),some (.int h),some (.int f),some (.ref l),some (.int r),x,y]/\Chg a H H2/\zc1 H2 a (b+8*i)/\H2 l=some (.lst (ns.map V.int))/\ns.length=i/\ns.sum+r=h/\0<=r/\r<=40/\∀ x∈ns,0<=x) ?_ ?_ ?_
 ·exact⟨_,_,[],h,rfl,s1.toChg,(hL.same s1).up (by walk_at "om"),h1',rfl,by simp,by walk_at "om",by walk_at "om",by simp⟩
 ·rintro i σ H2 hi ⟨x0,y0,ns,r,rfl,c2,L2,e2,l2,t2,r0,r1,nn⟩
  have hi:i<8:=by walk_at "om"
  refine zd3 L2 (by walk_at "om") (by walk_at "om") (by walk_at "om") (fun d3 H3 d30 d31 c3 L3=>?_)
  refine zc5 (fun p5 H5 f5 s5 h5=>?_)
  refine zd3 (L3.same s5) (by walk_at "om") (by walk_at "om") (by walk_at "om") (fun d6 H6 d60 d61 c6 L6=>?_)
  have h56:=c6 _ _ (L3.ne f5) h5
  have e26:H6 l=some (.lst (ns.map V.int)):=c6 _ _ n1 (s5 _ _ (c3 _ _ n1 e2))
  walk_at "st"
  refine zo1 h56 (by walk_at "om") (by simp only[zcx0,zcz4];omega) ?_
  intro v hv
  obtain⟨m,rfl,hm0,hm⟩:∃ m:Int,v=.int m/\0<=m/\m<=r:=by
   simp only[zcw3,zcx3,or_false] at hv
   rcases hv with rfl|rfl|rfl<;>exact⟨_,rfl,by walk_at "om",by walk_at "om"⟩
  clear hv
  refine zaa7 e26 ?_
  refine zai6 e26 (by rw[zcu6,sizeLine_eq];omega) (fun H7 c7 h7=>?_)
  walk_at "wh"
  have c26:Chg a H H6:=((c2.trans c3).same s5).trans c6
  refine⟨_,_,ns++[m],r - m,rfl,fun b o h1 e=>c7 _ _ (za5 e f1) (c26 _ _ h1 e),(L6.chg c7 (Ne.symm n1)).up (by walk_at "om"),by rw[h7,zcx8];rfl,by rw[zcv9,l2];rfl,by rw[List.sum_append];simp;omega,by walk_at "om",by walk_at "om",fun x hx=>?_⟩
  rcases zcy0.mp hx with hx|hx
  ·exact nn x hx
  ·have:x=m:=by simpa using hx
   omega
 ·rintro σ H2 ⟨x0,y0,ns,r,rfl,c2,L2,e2,l2,t2,r0,r1,nn⟩
  refine zc5 (fun p3 H3 f3 s3 h3'=>?_)
  refine zp9 (s3 _ _ e2) h3' (by rw[zcu6,sizeLine_eq,zcw7];omega) (fun p4 H4 f4 s4 h4'=>?_)
  walk_at "wh"
  have L3:=(L2.same s3).same s4
  have m1:p4≠a:=(L2.same s3).ne f4
  refine q p4 H4 (ns++[r]) (Chg.free' (c2.same s3) f4 m1) ((c2.same s3).same s4) (L3.up (by walk_at "om")) m1 (by rw[h4',zcx8];rfl) (by rw[zcv9,l2,zcw7];omega) (by rw[List.sum_append];simp;omega) (fun x hx=>?_)
  rcases zcy0.mp hx with hx|hx
  ·exact nn x hx
  ·have:x=r:=by simpa using hx
   omega
def zc9 (ms:List (List Int×Int)):Int:=(ms.map fun x=>x.2).sum
def Off (b:Addr) (ts:List (Addr×Addr)):Prop:=∀ t∈ts,t.1≠b/\t.2≠b
theorem ze3.chg {H H':Hp}{m b:Addr}{ts:List (Addr×Addr)}{ms:List (List Int×Int)}(M:ze3 H m ts ms) (c:Chg b H H') (n:m≠b) (o:Off b ts):ze3 H' m ts ms:=
 ⟨c _ _ n M.out,M.len,fun i t x h1 h2=>⟨c _ _ (o t (zcv1 h1)).1 (M.part i t x h1 h2).1,c _ _ (o t (zcv1 h1)).2 (M.part i t x h1 h2).2⟩⟩
theorem ze3.off {H:Hp}{m b:Addr}{ts:List (Addr×Addr)}{ms:List (List Int×Int)}(M:ze3 H m ts ms) (f:H b=none):m≠b/\Off b ts:=by
 refine⟨za5 M.out f,fun t ht=>?_⟩
 obtain⟨i,hi⟩:=zdb0 ht
 obtain⟨t',x,h1,h2,h3,h4⟩:=M.get (i:=i) (by have:=(zcv3.mp hi).1;have:=M.len;omega)
 rw[hi] at h1
 cases h1
 exact⟨za5 h3 f,za5 h4 f⟩
theorem ze3.push {H H':Hp}{m p q:Addr}{ts:List (Addr×Addr)}{ms:List (List Int×Int)}{x:List Int×Int}(M:ze3 H m ts ms) (c:Chg m H H') (o:Off m ts) (h':H' m=some (.lst ((ts.map fun t=>V.ref t.1)++[.ref p]))) (hp:H' p=some (.tup [.ref q,.int x.2])) (hq:H' q=some (.lst (x.1.map V.int))):ze3 H' m (ts++[(p,q)]) (ms++[x]):=by
 refine⟨by rw[h',zcx8];rfl,by rw[zcv9,zcv9,M.len];rfl,fun i t y h1 h2=>?_⟩
 by_cases hi:i<ts.length
 ·rw[zcy4 hi] at h1
  rw[zcy4 (by have:=M.len;omega)] at h2
  have:=o t (zcv1 h1)
  exact⟨c _ _ this.1 (M.part i t y h1 h2).1,c _ _ this.2 (M.part i t y h1 h2).2⟩
 ·rw[zcy8 (by walk_at "om")] at h1
  rw[zcy8 (by have:=M.len;omega)] at h2
  have e0:i - ts.length=0:=by
   have:=(zcv3.mp h1).1
   simp at this;omega
  rw[e0] at h1
  rw[show i - ms.length=0 by have:=M.len;omega] at h2
  cases h1
  cases h2
  exact⟨hp,hq⟩
theorem Off.push {b p q:Addr}{ts:List (Addr×Addr)}(o:Off b ts) (n1:p≠b) (n2:q≠b):Off b (ts++[(p,q)]):=fun t ht=>by
 rcases zcy0.mp ht with h|h
 ·exact o t h
 ·have:t=(p,q):=by simpa using h
  subst this
  exact⟨n1,n2⟩
theorem zab4 (ms:List (List Int×Int)) (x:List Int×Int):zc9 (ms++[x])=zc9 ms+x.2:=by unfold zc9;rw[zcx8,List.sum_append];simp
def Nt (H:Hp) (ts:List (Addr×Addr)):Prop:=∀ t∈ts,H t.1=none/\H t.2=none
theorem Nt.push {H:Hp}{p q:Addr}{ts:List (Addr×Addr)}(o:Nt H ts) (n1:H p=none) (n2:H q=none):Nt H (ts++[(p,q)]):=fun t ht=>by
 rcases zcy0.mp ht with h|h
 ·exact o t h
 ·have:t=(p,q):=by simpa using h
  subst this
  exact⟨n1,n2⟩
abbrev OkX (h f:Int) (x:List Int×Int):Prop:=(∀ n∈x.1,0<=n)/\(x.1.length:Int)=f/\x.1.sum=h/\1<=x.2
theorem zbe4 {α:Type}{p:α->Prop}{xs:List α}{y:α}(h:∀ x∈xs,p x) (hy:p y):∀ x∈xs++[y],p x:=fun x hx=>by
 rcases zcy0.mp hx with h' | h'
 ·exact h x h'
 ·have:x=y:=by simpa using h'
  subst this
  exact hy
@[irreducible] def ze1:Sp:=fun vs H Q _=>∃ (a:Addr) (b:Int) (h f g:Nat),vs=[.ref a,.int h,.int f,.int g]/\zc1 H a b/\b<=60000/\(h<=40/\1<=g/\g<=6)/\(1<=f/\f<=8)/\∀ m ts ms H',H m=none->Chg a H H'->zc1 H' a (b+2000)->ze3 H' m ts ms->m≠a->Off a ts->Off m ts->Nt H ts->OkM h f ms->zc9 ms<=10 ^ 30->ms.length<=10->Q (.ref m) H'
theorem zs6 {H:Hp}{a:Addr}{b:Int}{h f g:Nat}{Q:VK}{E:XK}(hL:zc1 H a b) (hb:b<=60000) (h1:h<=40) (hg:1<=g/\g<=6) (h2:1<=f) (h3:f<=8) (q:∀ m ts ms H',H m=none->Chg a H H'->zc1 H' a (b+2000)->ze3 H' m ts ms->m≠a->Off a ts->Off m ts->Nt H ts->OkM h f ms->zc9 ms<=10 ^ 30->ms.length<=10->Q (.ref m) H'):ze1 [.ref a,.int h,.int f,.int g] H Q E:=by
 unfold ze1;exact⟨a,b,h,f,g,rfl,hL,hb,⟨h1,hg⟩,⟨h2,h3⟩,q⟩
theorem zaf2 {f:Addr}{fd:FuncData}(F:Fun K "_law_drawn_mix" "_law_drawn_mix" zi1 f fd) (N:Nm mg) (zcl7:Def P w K mg base CX0 2 "_law_draw" ["_law_left","_law_base"] zd5) (zco8:Def P w K mg base CX0 3 "_law_drawn_plan" ["_law_left","_law_hosts","_law_many"] ze5):FnOk P w K mg base CX0 4 f fd ["_law_left","_law_hosts","_law_many","_law_most"] ze1:=by
 refine F.ok zn5 (fun vs H Q E h=>by unfold ze1 at h;obtain⟨_,_,_,_,_,rfl,_⟩:=h;rfl) (fun cdv A outer s H vs Q E hr h=>?_)
 unfold ze1 at h
 obtain⟨a,b,h,f,g,rfl,hL,hb,⟨h1,g1,g6⟩,⟨h2,h3⟩,q⟩:=h
 have hu:=hu40 hr
 refine⟨_,(za4 (psS (i:=4) zn5.nd (zi6 za1))
   (za4 (zac3 PassesOwn.never rfl (zac1 N.range_ (za0 (zb4 oAdd za2 (pD zcl7 hr zb5 (za0 (pq 0) (za0 (pq 3) za1)))) za1)) (za7 (i:=5) zn5.nd rfl (by first|exact Or.inl rfl|exact Or.inr rfl)) (za4 (psS (i:=6) zn5.nd (zb8 (K:=K) rfl (zi6 (za0 za2 (za0 (zb4 oAdd za2 (pD zcl7 hr zb5 (za0 (pq 0) (za0 za2 za1)))) (za0 (zb4 oAdd za2 (pD zcl7 hr zb5 (za0 (pq 0) (za0 (zb4 oPow za2 za2) za1)))) za1)))) (zb4 oDiv (pD zcl7 hr zb5 (za0 (pq 0) (za0 za2 za1))) za2)))
   (za6 (zr7 (zr4 (pq 4) (za0 (zh2 (za0 (pD zco8 hr zb5 (za0 (pq 0) (za0 (pq 1) (za0 (pq 2) za1)))) (za0 (pq 6) za1))) za1))))))
   (za4 (zbk0 (psIf (ptC (oEqK (K:=K) rfl (by exact hu)) (pD zcl7 hr zb5 (za0 (pq 0) (za0 za2 za1))) za2) (za6 (zr7 (zr4 (pq 4) (za0 (zh2 (za0 (pT (zaa4 (K:=K) rfl) N.list_ zn7 (za0 (zb8 (K:=K) rfl (zb8 (K:=K) rfl (pq 4) za2) za2) za1)) (za0 (zb4 oAdd za2 (pD zcl7 hr zb5 (za0 (pq 0) (za0 za2 za1)))) za1))) za1)))) zc2))
   (za6 (zb0 (pq 4)))))),?_⟩
 refine zc5 (fun l H1 f1 s1 h1'=>?_)
 have n1:l≠a:=hL.ne f1
 refine zd3 (hL.same s1) (by walk_at "om") (by walk_at "om") (by walk_at "om") (fun d H2 d0 d1 c2 L2=>?_)
 refine zt5 (by decide) (by decide) (by walk_at "om") (by walk_at "om") ?_
 obtain⟨n,en⟩:∃ n:Nat,(1+d - 0).toNat=n:=⟨_,rfl⟩
 rw[en]
 have hn1:1<=n/\n<=6:=by walk_at "om"
 have c12:Chg a H H2:=s1.toChg.trans c2
 refine zw1 (fun i σ H3=>∃ (x y:Option V) (ts:List (Addr×Addr)) (ms:List (List Int×Int)),σ=[some (.ref a),some (.int h),some (.int f),some (.int g),some (.ref l),x,y]/\Chg a H H3/\zc1 H3 a (b+4+200*i)/\ze3 H3 l ts ms/\Off a ts/\Off l ts/\Nt H ts/\ms.length=i/\(∀ x∈ms,OkX h f x)/\zc9 ms<=i*(10 ^ 28+1)) ?_ ?_ ?_
 ·refine⟨_,_,[],[],rfl,c12,L2.up (by walk_at "om"),⟨c2 _ _ n1 h1',rfl,fun i t x e=>by simp at e⟩,?_,?_,?_,rfl,?_,?_⟩
  ·intro t ht;cases ht
  ·intro t ht;cases ht
  ·intro t ht;cases ht
  ·intro x hx;cases hx
  ·show zc9 []<=_
   unfold zc9
   simp
 ·rintro i σ H3 hi ⟨x0,y0,ts,ms,rfl,c3,L3,M3,O1,O2,O3,l3,k3,w3⟩
  have hi:i<6:=by walk_at "om"
  refine zd3 L3 (by walk_at "om") (by walk_at "om") (by walk_at "om") (fun d4 H4 d40 d41 c4 L4=>?_)
  walk_at "st"
  refine zd3 L4 (by walk_at "om") (by walk_at "om") (by walk_at "om") (fun d5 H5 d50 d51 c5 L5=>?_)
  refine zc5 (fun p6 H6 f6 s6 h6=>?_)
  refine zd3 (L5.same s6) (by walk_at "om") (by walk_at "om") (by walk_at "om") (fun d7 H7 d70 d71 c7 L7=>?_)
  have h67:=c7 _ _ (L5.ne f6) h6
  have M7:=(((M3.chg c4 n1 O1).chg c5 n1 O1).same s6).chg c7 n1 O1
  have c37:Chg a H H7:=(((c3.trans c4).trans c5).same s6).trans c7
  walk_at "st"
  refine zo1 h67 (by walk_at "om") (by simp only[zcx0,zcz4];omega) ?_
  intro v hv
  obtain⟨wt,rfl,wt0,wt1⟩:∃ m:Int,v=.int m/\1<=m/\m<=10 ^ 28+1:=by
   simp only[zcw3,zcx3,or_false] at hv
   rcases hv with rfl|rfl|rfl<;>exact⟨_,rfl,by walk_at "om",by walk_at "om"⟩
  clear hv h67 h6
  refine zaa7 M7.out ?_
  refine zas4 L7 (by walk_at "om") h1 h2 h3 (fun p8 H8 ns f8 c8 L8 n8 h8 k81 k82 k83=>?_)
  have M8:=M7.chg c8 n1 O1
  have p8l:p8≠l:=Ne.symm (za5 M7.out f8)
  refine zb7 (fun p9 H9 f9 s9 h9=>?_)
  have M9:=M8.same s9
  have p9l:p9≠l:=Ne.symm (za5 M8.out f9)
  refine zai6 M9.out (by rw[zcu6,sizeLine_eq,M9.len];omega) (fun Ha ca ha=>?_)
  walk_at "wh"
  have Ma:=M9.push ca O2 ha (x:=(ns,wt)) (ca _ _ p9l h9) (ca _ _ p8l (s9 _ _ h8))
  have c39:Chg a H H9:=(c37.trans c8).same s9
  refine⟨_,_,_,_,rfl,fun b o z e=>ca _ _ (za5 e f1) (c39 _ _ z e),((L8.same s9).chg ca (Ne.symm n1)).up (by walk_at "om"),Ma,O1.push (L8.ne f9) n8,O2.push p9l p8l,O3.push (Chg.free' (c37.trans c8) f9 (L8.ne f9)) (Chg.free' c37 f8 n8),by rw[zcv9,l3];rfl,zbe4 k3 ⟨k83,by rw[k81],k82,wt0⟩,?_⟩
  rw[zab4]
  push_cast
  rw[Int.add_mul]
  simp only[Int.one_mul]
  omega
 ·rintro σ H3 ⟨x0,y0,ts,ms,rfl,c3,L3,M3,O1,O2,O3,l3,k3,w3⟩
  have w1:∀ x∈ms,1<=x.2:=fun x hx=>(k3 x hx).2.2.2
  have wb:zc9 ms<=6*(10 ^ 28+1):=by
   have:(n:Int)<=6:=by walk_at "om"
   have:(n:Int)*(10 ^ 28+1)<=6*(10 ^ 28+1):=zdc5 this (by decide)
   omega
  refine zbg5 (fun σ H5=>∃ (x y:Option V) (ts:List (Addr×Addr)) (ms:List (List Int×Int)),σ=[some (.ref a),some (.int h),some (.int f),some (.int g),some (.ref l),x,y]/\Chg a H H5/\zc1 H5 a (b+2000)/\ze3 H5 l ts ms/\Off a ts/\Off l ts/\Nt H ts/\OkM h f ms/\zc9 ms<=10 ^ 30/\ms.length<=10) ?_ ?_
  ·walk_at "wh"
   refine zd3 L3 (by walk_at "om") (by walk_at "om") (by walk_at "om") (fun d4 H4 d40 d41 c4 L4=>?_)
   have M4:=M3.chg c4 n1 O1
   refine ze9 (fun z=>?_) (fun z=>?_)
   ·obtain⟨x,ex⟩:∃ x,ms[0]?=some x:=⟨ms[0]'(by walk_at "om"),zcu7 _⟩
    obtain⟨t,et,at0,ht,hp⟩:=M4.ix ex
    have kx:=k3 x (zcv1 ex)
    refine zaa7 M4.out ?_
    refine zg6 (v:=.ref t.1) M4.out at0 ?_
    refine zb6 (v:=.ref t.2) ht rfl ?_
    refine zs0 (SqL.of hp) (fun p5 H5 f5 s5 h5=>?_)
    refine zd3 (L4.same s5) (by walk_at "om") (by walk_at "om") (by walk_at "om") (fun d6 H6 d60 d61 c6 L6=>?_)
    have n5:p5≠a:=L4.ne f5
    have M6:=(M4.same s5).chg c6 n1 O1
    have p5l:p5≠l:=Ne.symm (za5 M4.out f5)
    refine zb7 (fun p7 H7 f7 s7 h7=>?_)
    have M7:=M6.same s7
    have p7l:p7≠l:=Ne.symm (za5 M6.out f7)
    refine zai6 M7.out (by rw[zcu6,sizeLine_eq,M7.len];omega) (fun Ha ca ha=>?_)
    walk_at "wh"
    have Ma:=M7.push ca O2 ha (x:=(x.1,1+d6)) (ca _ _ p7l h7) (ca _ _ p5l (s7 _ _ (c6 _ _ n5 h5)))
    have c37:Chg a H H7:=(((c3.trans c4).same s5).trans c6).same s7
    refine⟨_,_,_,_,rfl,fun b o z e=>ca _ _ (za5 e f1) (c37 _ _ z e),((L6.same s7).chg ca (Ne.symm n1)).up (by walk_at "om"),Ma,O1.push (L6.ne f7) n5,O2.push p7l p5l,O3.push (Chg.free' (((c3.trans c4).same s5).trans c6) f7 (L6.ne f7)) (Chg.free' (c3.trans c4) f5 n5),⟨by rw[zcv9];simp,by rw[zcv9,l3,zcw7];omega,by walk_at "om",zbe4 k3 ⟨kx.1,kx.2.1,kx.2.2.1,by walk_at "om"⟩⟩,?_⟩
    rw[zab4,zcv9,l3,zcw7]
    refine⟨?_,by walk_at "om"⟩
    show zc9 ms+(1+d6)<=10 ^ 30
    omega
   ·walk_at "wh"
    exact⟨_,_,_,_,rfl,c3.trans c4,L4.up (by walk_at "om"),M4,O1,O2,O3,⟨by walk_at "om",by walk_at "om",by walk_at "om",k3⟩,by walk_at "om",by walk_at "om"⟩
  ·rintro σ H5 ⟨x5,y5,ts5,ms5,rfl,c5,L5,M5,O5,O6,O7,k5,w5,e5⟩
   walk_at "wh"
   exact q l ts5 ms5 H5 f1 c5 L5 M5 n1 O5 O6 O7 k5 w5 e5
def ExT (H:Hp) (e D:Addr):Prop:=H e=some (excO e (.ref D) none)∨∃ d fs,H e=some (excO e (.ref D) (some d))/\H d=some (.xd fs)
theorem ExT.same {H H':Hp}{e D:Addr}(x:ExT H e D) (s:Same H H'):ExT H' e D:=by
 rcases x with x|⟨d,fs,x,y⟩
 ·exact .inl (s _ _ x)
 ·exact .inr ⟨d,fs,s _ _ x,s _ _ y⟩
theorem zp8 {K:zcu8}{H:Hp}{Q:VK}{e D C:Addr}{b:Bool}(x:ExT H e D) (h2:ExcK K D) (h3:(zcy5 K D).isSome=true) (k:zcv5 K (.ref D) (.ref C)=some b) (q:Q (.bl b) H):zan8 K (.ref e) (.ref C) H Q:=by
 rcases x with x|⟨d,fs,x,y⟩
 ·exact zbp2 (zck6 x h2 h3 k q)
 ·exact zca1 x y h2 h3 k q
theorem zcb4 {K:zcu8}{H:Hp}{Q:VK}{e D:Addr}{n:String}{b:Bool}(x:ExT H e D) (h2:ExcK K D) (h3:(zcy5 K D).isSome=true) (k:zcv5 K (.ref D) (.type n)=some b) (q:Q (.bl b) H):zan8 K (.ref e) (.ty n) H Q:=by
 rcases x with x|⟨d,fs,x,y⟩
 ·exact zbp2 (zcb8 x h2 h3 k q)
 ·exact zby0 x y h2 h3 k q
@[irreducible] def ze6 (zcl5 zcl6:Addr):Sp:=fun vs H Q _=>∃ (e D:Addr) (name:Str),vs=[.ref e]/\ExT H e D/\((D=zcl5/\name="battle")∨(D=zcl6/\name="mix"))/\∀ H',Same H H'->Q (.str name) H'
theorem zah6 {zcl5 zcl6:Addr}{H:Hp}{e:Addr}{Q:VK}{E:XK}(h:ExT H e zcl5) (q:∀ H',Same H H'->Q (.str "battle") H'):ze6 zcl5 zcl6 [.ref e] H Q E:=by unfold ze6;exact⟨e,zcl5,"battle",rfl,h,.inl ⟨rfl,rfl⟩,q⟩
theorem zac2 {zcl5 zcl6:Addr}{H:Hp}{e:Addr}{Q:VK}{E:XK}(h:ExT H e zcl6) (q:∀ H',Same H H'->Q (.str "mix") H'):ze6 zcl5 zcl6 [.ref e] H Q E:=by unfold ze6;exact⟨e,zcl6,"mix",rfl,h,.inr ⟨rfl,rfl⟩,q⟩
theorem zan2 {f:Addr}{fd:FuncData}(F:Fun K "_law_kind_of" "_law_kind_of" zk9 f fd) (N:Nm mg) (Z:Cz K mg base zcl8 zcl5 zcm7 zcl6 zcl9 zcm8 zcm2 zcm0 zcm1 zcm9 zcn0 zcn3 zcn1 zcm3 zcm6):FnOk P w K mg base CX0 1 f fd ["_law_caught"] (ze6 zcl5 zcl6):=by
 refine F.ok zh1 (fun vs H Q E h=>by unfold ze6 at h;obtain⟨_,_,_,rfl,_⟩:=h;rfl) (fun cdv A outer s H vs Q E hr h=>?_)
 unfold ze6 at h
 obtain⟨e,D,name,rfl,he,hD,q⟩:=h
 have hu:=hu40 hr
 obtain⟨b0,b1,b2,b3,b4,b5,b6,b7,b8,b9,b10,b11,b12,kK,kC,kH,kV,k0,k1,k2,k3,k4,k5,k6,k7,k8,k9,k10,k11,k12,hv⟩:∃ b0 b1 b2 b3 b4 b5 b6 b7 b8 b9 b10 b11 b12:Bool,ExcK K D/\(zcy5 K D).isSome=true/\zcv5 K (.ref D) (.ref zcl8)=some true/\zcv5 K (.ref D) (.type "ValueError")=some true/\zcv5 K (.ref D) (.ref zcl5)=some b0/\zcv5 K (.ref D) (.ref zcm7)=some b1/\zcv5 K (.ref D) (.ref zcl6)=some b2/\zcv5 K (.ref D) (.ref zcl9)=some b3/\zcv5 K (.ref D) (.ref zcm8)=some b4/\zcv5 K (.ref D) (.ref zcm2)=some b5/\zcv5 K (.ref D) (.ref zcm0)=some b6/\zcv5 K (.ref D) (.ref zcm1)=some b7/\zcv5 K (.ref D) (.ref zcm9)=some b8/\zcv5 K (.ref D) (.ref zcn0)=some b9/\zcv5 K (.ref D) (.ref zcn3)=some b10/\zcv5 K (.ref D) (.ref zcn1)=some b11/\zcv5 K (.ref D) (.ref zcm3)=some b12/\(([b0,b1,b2,b3,b4,b5,b6,b7,b8,b9,b10,b11,b12]=[true,false,false,false,false,false,false,false,false,false,false,false,false]/\name="battle")∨([b0,b1,b2,b3,b4,b5,b6,b7,b8,b9,b10,b11,b12]=[false,false,true,false,false,false,false,false,false,false,false,false,false]/\name="mix")):=by
  rcases hD with ⟨rfl,rfl⟩|⟨rfl,rfl⟩
  ·exact⟨_,_,_,_,_,_,_,_,_,_,_,_,_,Z.k_NoBattle,Z.c_NoBattle,Z.i_NoBattle_HostError,Z.v_NoBattle,Z.i_NoBattle_NoBattle,Z.i_NoBattle_NoPlan,Z.i_NoBattle_NoMix,Z.i_NoBattle_NoStream,Z.i_NoBattle_NoSide,Z.i_NoBattle_NoAlike,Z.i_NoBattle_NoNumber,Z.i_NoBattle_TooGreat,Z.i_NoBattle_NoEven,Z.i_NoBattle_NoText,Z.i_NoBattle_NoRow,Z.i_NoBattle_NoName,Z.i_NoBattle_NoPlace,.inl ⟨rfl,rfl⟩⟩
  ·exact⟨_,_,_,_,_,_,_,_,_,_,_,_,_,Z.k_NoMix,Z.c_NoMix,Z.i_NoMix_HostError,Z.v_NoMix,Z.i_NoMix_NoBattle,Z.i_NoMix_NoPlan,Z.i_NoMix_NoMix,Z.i_NoMix_NoStream,Z.i_NoMix_NoSide,Z.i_NoMix_NoAlike,Z.i_NoMix_NoNumber,Z.i_NoMix_TooGreat,Z.i_NoMix_NoEven,Z.i_NoMix_NoText,Z.i_NoMix_NoRow,Z.i_NoMix_NoName,Z.i_NoMix_NoPlace,.inr ⟨rfl,rfl⟩⟩
 refine⟨_,(pssTo (zs4 (psOf (psS (i:=1) zh1.nd (zi6 (za0 (pB (zab8 (K:=K) rfl) N.isinstance_ za8 (za0 (pq 0) (za0 (zk5 (v:=.ref zcl5) rfl Z.g_NoBattle rfl) za1))) (za0 (pB (zab8 (K:=K) rfl) N.isinstance_ za8 (za0 (pq 0) (za0 (zk5 (v:=.ref zcm7) rfl Z.g_NoPlan rfl) za1))) (za0 (pB (zab8 (K:=K) rfl) N.isinstance_ za8 (za0 (pq 0) (za0 (zk5 (v:=.ref zcl6) rfl Z.g_NoMix rfl) za1))) za1))))))
   (zs4 (psOf (psS (i:=1) zh1.nd (zb4 oAdd (pq 1) (zi6 (za0 (pB (zab8 (K:=K) rfl) N.isinstance_ za8 (za0 (pq 0) (za0 (zk5 (v:=.ref zcl9) rfl Z.g_NoStream rfl) za1))) (za0 (pB (zab8 (K:=K) rfl) N.isinstance_ za8 (za0 (pq 0) (za0 (zk5 (v:=.ref zcm8) rfl Z.g_NoSide rfl) za1))) (za0 (pB (zab8 (K:=K) rfl) N.isinstance_ za8 (za0 (pq 0) (za0 (zk5 (v:=.ref zcm2) rfl Z.g_NoAlike rfl) za1))) za1)))))))
   (zs4 (psOf (psS (i:=1) zh1.nd (zb4 oAdd (pq 1) (zi6 (za0 (pB (zab8 (K:=K) rfl) N.isinstance_ za8 (za0 (pq 0) (za0 (zk5 (v:=.ref zcm0) rfl Z.g_NoNumber rfl) za1))) (za0 (pB (zab8 (K:=K) rfl) N.isinstance_ za8 (za0 (pq 0) (za0 (zk5 (v:=.ref zcm1) rfl Z.g_TooGreat rfl) za1))) (za0 (pB (zab8 (K:=K) rfl) N.isinstance_ za8 (za0 (pq 0) (za0 (zk5 (v:=.ref zcm9) rfl Z.g_NoEven rfl) za1))) za1)))))))
   (zs4 (psOf (psS (i:=1) zh1.nd (zb4 oAdd (pq 1) (zi6 (za0 (pB (zab8 (K:=K) rfl) N.isinstance_ za8 (za0 (pq 0) (za0 (zk5 (v:=.ref zcn0) rfl Z.g_NoText rfl) za1))) (za0 (pB (zab8 (K:=K) rfl) N.isinstance_ za8 (za0 (pq 0) (za0 (zk5 (v:=.ref zcn3) rfl Z.g_NoRow rfl) za1))) (za0 (pB (zab8 (K:=K) rfl) N.isinstance_ za8 (za0 (pq 0) (za0 (zk5 (v:=.ref zcn1) rfl Z.g_NoName rfl) za1))) za1)))))))
   (zs4 (psOf (psS (i:=1) zh1.nd (zb4 oAdd (pq 1) (zi6 (za0 (pB (zab8 (K:=K) rfl) N.isinstance_ za8 (za0 (pq 0) (za0 (zk5 (v:=.ref zcm3) rfl Z.g_NoPlace rfl) za1))) za1)))))
   (zs4 (psIS (i:=2) zh1.nd (peILst (zo0 zs9 (zo0 zs9 (zo0 zs9 (zo0 zs9 (zo0 zs9 (zo0 zs9 (zo0 zs9 (zo0 zs9 (zo0 zs9 (zo0 zs9 (zo0 zs9 (zo0 zs9 zck7))))))))))))))
   (zs4 (psOf (psIf (ptC oIs (pq 0) zaz9) (za6 (zb0 zg5)) zc2))
   (zs4 (psOf (psIf (ptW (pwOr (zm0 (ptV (pB (zab8 (K:=K) rfl) N.isinstance_ za8 (za0 (pq 0) (za0 (zk5 (v:=.ref zcl8) rfl Z.g_HostError rfl) za1))))) (pwOr (zm0 (ptV (pB (zab8 (K:=K) rfl) N.isinstance_ za8 (za0 (pq 0) (za0 (pTy N.ValueError_ zaq4) za1))))) (zaa8 (ptC (oNeK (K:=K) rfl (by exact hu)) (zbu9 (K:=K) rfl (pq 1) (za0 zx8 za1)) za2))))) (za6 (zb0 zg5)) zc2))
   (zcc5 (psOf (zb0 (zb8 (K:=K) rfl (zb4 oAdd (pq 2) (zi6 (za0 zg5 za1))) (zbs7 (K:=K) rfl (pq 1) (za0 zx8 za1))))))))))))))),?_⟩
 refine zp8 he kK kC k0 ?_
 refine zp8 he kK kC k1 ?_
 refine zp8 he kK kC k2 ?_
 refine zc5 (fun p1 H1 f1 s1 h1=>?_)
 have he1:=he.same s1
 refine zp8 he1 kK kC k3 ?_
 refine zp8 he1 kK kC k4 ?_
 refine zp8 he1 kK kC k5 ?_
 refine zc5 (fun p2 H2 f2 s2 h2=>?_)
 refine zp9 (s2 _ _ h1) h2 (by rw[sizeLine_eq];simp) (fun p3 H3 f3 s3 h3=>?_)
 have he3:=(he1.same s2).same s3
 refine zp8 he3 kK kC k6 ?_
 refine zp8 he3 kK kC k7 ?_
 refine zp8 he3 kK kC k8 ?_
 refine zc5 (fun p4 H4 f4 s4 h4=>?_)
 refine zp9 (s4 _ _ h3) h4 (by rw[sizeLine_eq];simp) (fun p5 H5 f5 s5 h5=>?_)
 have he5:=(he3.same s4).same s5
 refine zp8 he5 kK kC k9 ?_
 refine zp8 he5 kK kC k10 ?_
 refine zp8 he5 kK kC k11 ?_
 refine zc5 (fun p6 H6 f6 s6 h6=>?_)
 refine zp9 (s6 _ _ h5) h6 (by rw[sizeLine_eq];simp) (fun p7 H7 f7 s7 h7=>?_)
 have he7:=(he5.same s6).same s7
 refine zp8 he7 kK kC k12 ?_
 refine zc5 (fun p8 H8 f8 s8 h8=>?_)
 refine zp9 (s8 _ _ h7) h8 (by rw[sizeLine_eq];simp) (fun p9 H9 f9 s9 h9=>?_)
 have h9:H9 p9=some (.lst ([b0,b1,b2,b3,b4,b5,b6,b7,b8,b9,b10,b11,b12].map V.bl)):=h9
 refine zc5 (fun pa Ha fa sa ha=>?_)
 have s09:Same H Ha:=((((((((s1.trans s2).trans s3).trans s4).trans s5).trans s6).trans s7).trans s8).trans s9).trans sa
 have he9:=he.same s09
 refine br_F ?_
 refine zp8 he9 kK kC kH ?_
 refine zd6 (br_T ?_)
 refine zcb4 he9 kK kC kV ?_
 refine zd6 (br_T ?_)
 have h9a:=sa _ _ h9
 generalize [b0,b1,b2,b3,b4,b5,b6,b7,b8,b9,b10,b11,b12]=bs at h9a hv
 refine zaa7 h9a ?_
 refine cnt_rd h9a rfl (by rcases hv with ⟨rfl,rfl⟩|⟨rfl,rfl⟩<;>rfl) ?_
 rw[show ((bs.map V.bl).countP fun y=>eqV y (.bl true))=1 by rcases hv with ⟨rfl,rfl⟩|⟨rfl,rfl⟩<;>rfl]
 refine zd6 (zad2 rfl ?_)
 refine zc5 (fun pb Hb fb sb hb=>?_)
 refine zp9 (sb _ _ ha) hb (by rw[sizeLine_eq];simp) (fun pc Hc fc sc hc=>?_)
 have sac:=sb.trans sc
 refine zaa7 (sac _ _ h9a) ?_
 walk_at "wh"
 rcases hv with ⟨rfl,rfl⟩|⟨rfl,rfl⟩
 ·refine zcf4 0 (sac _ _ h9a) rfl rfl ⟨_,rfl,rfl⟩ ?_ ?_
  ·intro m y hm hy
   omega
  refine zg6 (v:=.str "battle") hc (by rfl) ?_
  walk_at "wh"
  exact q _ (s09.trans sac)
 ·refine zcf4 2 (sac _ _ h9a) rfl rfl ⟨_,rfl,rfl⟩ ?_ ?_
  ·intro m y hm hy
   match m,hm with
   | 0,_=>cases hy;rfl
   | 1,_=>cases hy;rfl
  refine zg6 (v:=.str "mix") hc (by rfl) ?_
  walk_at "wh"
  exact q _ (s09.trans sac)
def lg (t b:Int):Int:=if b<0 then 0 - (t.gcd b:Int) else (t.gcd b:Int)
def lowT (t b:Int):Int:=t.fdiv (lg t b)
def lowB (t b:Int):Int:=b.fdiv (lg t b)
theorem zbr3 {t b:Int}(h:b≠0):0<(t.gcd b:Int):=by
 have:0<t.gcd b:=Int.gcd_pos_of_ne_zero_right _ h
 omega
theorem zce5 {t b:Int}(h:b≠0):(t.gcd b:Int)<=b.natAbs:=by
 have:=Int.gcd_le_natAbs_right t h
 omega
theorem zbf1 {x y:Int}(hx:0<=x) (hy:0<y):y.gcd (x % y)=x.gcd y:=by
 rw[zdb7,zdb7,Int.natAbs_emod_of_nonneg hx]
 exact (Nat.gcd_comm _ _).trans ((Nat.gcd_rec _ _).symm.trans (Nat.gcd_comm _ _))
theorem zbp7 (t b:Int):Int.gcd (t.natAbs:Int) (b.natAbs:Int)=t.gcd b:=by
 rw[zdb7,zdb7];simp
theorem zbo3 {x y:Int}(hx:0<=x) (hy:y=0):((x.gcd y:Nat):Int)=x:=by
 subst hy;rw[Int.gcd_zero_right];omega
@[irreducible] def zf0:Sp:=fun vs H Q _=>∃ x y:Int,vs=[.int x,.int y]/\0<=x/\0<=y/\Q (.int (x.gcd y:Int)) H
theorem zaf4 {H:Hp}{x y:Int}{Q:VK}{E:XK}(hx:0<=x) (hy:0<=y) (q:Q (.int (x.gcd y:Int)) H):zf0 [.int x,.int y] H Q E:=by
 unfold zf0;exact⟨x,y,rfl,hx,hy,q⟩
theorem zaf5 {f:Addr}{fd:FuncData}(F:Fun K "common_divisor" "common_divisor" zi5 f fd) (N:Nm mg):FnOk P w K mg base CX0 1 f fd ["one","other"] zf0:=by
 refine F.ok zm8 (fun vs H Q E h=>by unfold zf0 at h;obtain⟨n,k,rfl,_⟩:=h;rfl) (fun cdv A outer s H vs Q E hr h=>?_)
 unfold zf0 at h
 obtain⟨t,b,rfl,ht,hb,q⟩:=h
 have hu:=hu40 hr
 refine⟨_,(za4 (zbn1 PassesOwn.never (ptC (oNeK (K:=K) rfl (by exact hu)) (pq 1) za2) (za4 (psS (i:=2) zm8.nd (zb4 oMod (pq 0) (pq 1)))
   (za4 (psS (i:=0) zm8.nd (pq 1))
   (za6 (psS (i:=1) zm8.nd (pq 2))))))
   (za6 (zb0 (pq 0)))),?_⟩
 refine zbg6 (fun σ H2=>∃ (x y:Int) (r:Option V),σ=[some (.int x),some (.int y),r]/\H=H2/\0<=x/\0<=y/\x.gcd y=t.gcd b) (fun σ _=>match σ with | [_,some (.int y),_]=>y.toNat|_=>0) ?_ ?_
 ·exact⟨_,_,_,rfl,rfl,ht,hb,rfl⟩
 ·rintro σ H2 ⟨x,y,r,rfl,rfl,hx,hy,hg⟩
  walk_at "wh"
  refine zbz2 (fun h=>?_) (fun h=>?_)
  ·have h:0<y:=by walk_at "om"
   refine zbv4 (by walk_at "om") ?_
   walk_at "wh"
   have h1:=Int.emod_nonneg x (show y≠0 by walk_at "om")
   have h2:=Int.emod_lt_of_pos x h
   refine⟨⟨_,_,_,rfl,rfl,hy,h1,?_⟩,?_⟩
   ·rw[zbf1 hx h];exact hg
   ·show (x % y).toNat<y.toNat
    omega
  ·walk_at "wh"
   have e:x=(t.gcd b:Int):=by rw[← hg];exact (zbo3 hx h).symm
   rw[e];exact q
@[irreducible] def zw9:Sp:=fun vs H Q _=>∃ t b:Int,vs=[.int t,.int b]/\b≠0/\-(10 ^ 200)<b/\b<10 ^ 200/\∀ p H',H p=none->Same H H'->H' p=some (.tup [.int (lowT t b),.int (lowB t b)])->Q (.ref p) H'
theorem zca6 {H:Hp}{t b:Int}{Q:VK}{E:XK}(h0:b≠0) (h1:-(10 ^ 200)<b) (h2:b<10 ^ 200) (q:∀ p H',H p=none->Same H H'->H' p=some (.tup [.int (lowT t b),.int (lowB t b)])->Q (.ref p) H'):zw9 [.int t,.int b] H Q E:=by
 unfold zw9;exact⟨t,b,rfl,h0,h1,h2,q⟩
theorem zby7 {f:Addr}{fd:FuncData}(F:Fun K "ratio" "ratio" zaf1 f fd) (N:Nm mg) (zcp4:Def P w K mg base CX0 1 "common_divisor" ["one","other"] zf0) (Z:Cz K mg base zcl8 zcl5 zcm7 zcl6 zcl9 zcm8 zcm2 zcm0 zcm1 zcm9 zcn0 zcn3 zcn1 zcm3 zcm6):FnOk P w K mg base CX0 2 f fd ["top","bottom"] zw9:=by
 refine F.ok zaq8 (fun vs H Q E h=>by unfold zw9 at h;obtain⟨n,k,rfl,_⟩:=h;rfl) (fun cdv A outer s H vs Q E hr h=>?_)
 unfold zw9 at h
 obtain⟨t,b,rfl,hb,hb1,hb2,q⟩:=h
 have hu:=hu40 hr
 refine⟨_,(za4 (psIf (ptC (oEqK (K:=K) rfl (by exact hu)) (pq 1) za2) (za6 zbf4) zc2)
   (za4 (psS (i:=2) zaq8.nd (pD zcp4 hr zb5 (za0 (pB cAbs N.abs_ zbh7 (za0 (pq 0) za1)) (za0 (pB cAbs N.abs_ zbh7 (za0 (pq 1) za1)) za1))))
   (za4 (zbk0 (psIf (ptC oLt (pq 1) za2) (za6 (psS (i:=2) zaq8.nd (zaa3 uNeg (pq 2)))) zc2))
   (za6 (zb0 (zh2 (za0 (zb4 oDiv (pq 0) (pq 2)) (za0 (zb4 oDiv (pq 1) (pq 2)) za1)))))))),?_⟩
 walk_at "st"
 refine zaf4 (by walk_at "om") (by walk_at "om") ?_
 rw[zbp7]
 have g1:=zbr3 (t:=t) hb
 have g2:=zce5 (t:=t) hb
 walk_at "wh"
 refine zce8 ?_
 refine ze9 (fun h=>?_) (fun h=>?_)
 ·have el:-((t.gcd b:Nat):Int)=lg t b:=by unfold lg;rw[if_pos h];omega
  refine zy5 (by walk_at "om") (by walk_at "om") (by walk_at "om") ?_
  refine zy5 (by walk_at "om") (by walk_at "om") (by walk_at "om") ?_
  refine zb7 (fun p H' hf hs ha=>?_)
  rw[el] at ha
  exact q _ _ hf hs ha
 ·have el:((t.gcd b:Nat):Int)=lg t b:=by unfold lg;rw[if_neg h]
  refine zy5 (by walk_at "om") (by walk_at "om") (by walk_at "om") ?_
  refine zy5 (by walk_at "om") (by walk_at "om") (by walk_at "om") ?_
  refine zb7 (fun p H' hf hs ha=>?_)
  rw[el] at ha
  exact q _ _ hf hs ha
def ownD (h f:Int) (d:PyData):Bool:=mixD d&&zx9 h f (zq5 ((zc6 d).getD 0 .none))
@[irreducible] def zh6 (zcl6:Addr):Sp:=fun vs H Q E=>∃ (h f:Int) (v:V) (d:PyData),vs=[.int h,.int f,v]/\ShV H v d/\sml d=true/\(ownD h f d=true->∀ H',Same H H'->Q .non H')/\(ownD h f d=false->∀ H',Same H H'->E (.ref zcl6) none H')
theorem zam6 {zcl6:Addr}{H:Hp}{h f:Int}{v:V}{d:PyData}{Q:VK}{E:XK}(hv:ShV H v d) (hs:sml d=true) (q:ownD h f d=true->∀ H',Same H H'->Q .non H') (qe:ownD h f d=false->∀ H',Same H H'->E (.ref zcl6) none H'):zh6 zcl6 [.int h,.int f,v] H Q E:=by unfold zh6;exact⟨h,f,v,d,rfl,hv,hs,q,qe⟩
theorem zal9 {f:Addr}{fd:FuncData}(F:Fun K "look_own_mix" "look_own_mix" zl5 f fd) (N:Nm mg) (zcr3:Def P w K mg base CX0 5 "is_mix" ["mix"] zs1) (zcq4:Def P w K mg base CX0 4 "is_plan" ["hosts","fields","plan"] zp0) (Z:Cz K mg base zcl8 zcl5 zcm7 zcl6 zcl9 zcm8 zcm2 zcm0 zcm1 zcm9 zcn0 zcn3 zcn1 zcm3 zcm6):FnOk P w K mg base (CXR P w) 6 f fd ["hosts","fields","mix"] (zh6 zcl6):=by
 refine F.okR zak4 (fun vs H Q E h=>by unfold zh6 at h;obtain⟨_,_,_,_,rfl,_⟩:=h;rfl) (fun cdv A outer s H vs Q E hr hX h=>?_)
 unfold zh6 at h
 obtain⟨h,f,v,d,rfl,hv,hs,q,qe⟩:=h
 unfold ownD at q qe
 refine⟨_,(za6 (psIf (ptW (pwOr (zm0 (ptV (pD zcr3 hr zb5 (za0 (pq 2) za1)))) (zaa8 (zm0 (ptV (pD zcq4 hr zb5 (za0 (pq 0) (za0 (pq 1) (za0 (zb8 (K:=K) rfl (zb8 (K:=K) rfl (pq 2) za2) za2) za1))))))))) (za6 (zbw5 Z.o_NoMix PySem.F.excBase_ValueError rfl hX (za0 zg5 za1))) zc2)),?_⟩
 refine zbx2 hv hs (fun H1 s1=>?_)
 cases em:mixD d
 ·walk_at "wh"
  refine zd6 (br_F ?_)
  refine br_T ?_
  walk_at "wh"
  exact⟨by decide,qe (by rw[em];rfl) _ s1⟩
 ·rw[em,zcy9] at q qe
  have hv1:=hv.same s1
  obtain⟨a,xs,ds,rfl,rfl,e,l,h0,hp⟩:=zbh3 hv1 em
  have ll:=l.len
  obtain⟨x0,ex0⟩:∃ x,xs[0]?=some x:=⟨_,zcu7 (by walk_at "om")⟩
  obtain⟨dd0,ed0,hd0⟩:=l.get 0 x0 ex0
  have hm:=(zq8 hs).2 dd0 (zcv1 ed0)
  obtain⟨t,p,w,ns,rfl,ht,hpp,rfl,nn,hw⟩:=zam0 hd0 (hp dd0 (zcv1 ed0))
  have sp:sml (.list (ns.map PyData.int))=true:=(zas6 hm).2 _ (by simp)
  have hvp:ShV H1 (.ref p) (.list (ns.map PyData.int)):=.lst hpp (ShL.idx (by rw[zcu6,zcu6]) fun i x d h1 h2=>by
   rw[zcu9] at h1 h2
   obtain⟨n,en,rfl⟩:=zcv4.mp h1
   rw[en] at h2
   cases h2
   exact .int n)
  have e1:zq5 ((zc6 (.list ds)).getD 0 .none)=.list (ns.map PyData.int):=by
   rw[show (zc6 (.list ds)).getD 0 .none=.tuple [.list (ns.map PyData.int),.int w] from getD_some ed0];rfl
  rw[e1] at q qe
  refine zd6 (br_T ?_)
  refine zg6 (v:=.ref t) e (zl6 (j:=0) ex0) ?_
  refine zb6 (v:=.ref p) ht rfl ?_
  refine zbh0 hvp sp (fun H2 s2=>?_)
  cases ep:zx9 h f (.list (ns.map PyData.int))
  ·walk_at "wh"
   refine zd6 (br_F ?_)
   walk_at "wh"
   exact⟨by decide,qe ep _ (s1.trans s2)⟩
  refine zd6 (br_T ?_)
  walk_at "wh"
  exact q ep _ (s1.trans s2)
@[irreducible] def zh7:Sp:=fun vs H Q _=>∃ (a:Addr) (xs:List V) (ds:List PyData),vs=[.ref a]/\H a=some (.lst xs)/\ShL H xs ds/\ds.length<=1000/\(∀ d∈ds,zx1 d=true)/\∀ H',Same H H'->Q (.int (ds.map wtD).sum) H'
theorem zx0 {H:Hp}{a:Addr}{xs:List V}{ds:List PyData}{Q:VK}{E:XK}(e:H a=some (.lst xs)) (l:ShL H xs ds) (hl:ds.length<=1000) (hp:∀ d∈ds,zx1 d=true) (q:∀ H',Same H H'->Q (.int (ds.map wtD).sum) H'):zh7 [.ref a] H Q E:=by unfold zh7;exact⟨a,xs,ds,rfl,e,l,hl,hp,q⟩
theorem zak3 {f:Addr}{fd:FuncData}(F:Fun K "whole_weight" "whole_weight" zl0 f fd) (N:Nm mg):FnOk P w K mg base CX0 1 f fd ["mix"] zh7:=by
 refine F.ok zal1 (fun vs H Q E h=>by unfold zh7 at h;obtain⟨_,_,_,rfl,_⟩:=h;rfl) (fun cdv A outer s H vs Q E hr h=>?_)
 unfold zh7 at h
 obtain⟨a,xs,ds,rfl,e,l,hl,hp,q⟩:=h
 have ll:=l.len
 refine⟨_,(za6 (zb0 (pB (zan4 (K:=K) rfl rfl) N.sum_ zab0 (za0 (zj5 (N:=["plan","weight"]) (ks:=[none,none]) (zj2 (K:=K) rfl (pq 0)) (fun cl C s3 H3 fp=>(zk3 (K:=K) (n:=2) rfl rfl (zb1 (za7 (i:=0) nb_18 rfl (by first|exact Or.inl rfl|exact Or.inr rfl)) (zb1 (za7 (i:=1) nb_18 rfl (by first|exact Or.inl rfl|exact Or.inr rfl)) zk1)))) (fun cl C s3 H3 fp=>ze2) (fun cl C s3 H3 fp=>(pq 1)) (.skip (.skip .nil))) za1)))),?_⟩
 refine zd0 e ?_
 refine zq1 (Wk.list (SqL.of e)) (by rw[sizeLine_eq];omega) (fun i=>.int (wtD (ds.getD i .none))) (fun _=>true) (fun j σ=>∃ t u:Option V,σ=[t,u]) ⟨none,none,rfl⟩ ?_ ?_
 ·rintro j x σ H2 R S hj s2 hx ⟨t',u',rfl⟩ k _
  obtain⟨d,ed,hd⟩:=l.get j x hx
  obtain⟨t,p,w,ns',rfl,ht,hp',rfl,nn',hw'⟩:=zam0 (hd.same s2) (hp d (zcv1 ed))
  have e1:=getD_some ed
  rw[e1] at k
  refine ze7 ht ?_
  refine br_T ?_
  walk_at "wh"
  exact k rfl _ _ (Same.refl _) ⟨_,_,rfl⟩
 intro acc H1 f1 s1 h1
 rw[zg8,ll,zbk9 wtD] at h1
 refine zab2 h1 ?_
 walk_at "wh"
 exact q _ s1
theorem zbs6 {h f:Nat}{d:PyData}(e:ownD h f d=true):mixD d=true/\zbg4 d=h/\zv6 d=f:=by
 unfold ownD zx9 at e
 simp only[zcw5,decide_eq_true_eq] at e
 obtain⟨em,⟨_,e1⟩,e2⟩:=e
 refine⟨em,e2,?_⟩
 have e1:((zp6 (zc6 d)).length:Int)=f:=e1
 unfold zv6
 omega
abbrev zbt8 (d:PyData):Prop:=(zc6 d).length<64/\zc9 (msD d)<=10 ^ 31
@[irreducible] def zd7 (zcl5 zcl6:Addr):Sp:=fun vs H Q E=>∃ (b:Addr) (v u:V),vs=[.ref b,v,u] /\
 ((∃ (l:Addr) (ps:List Addr) (a c:Nat) (fs:List Fd) (d d':PyData),zq3 H b l ps a c fs/\OkB a c fs/\(∀ f∈fs,f.Bd a c)/\ShV H v d/\sml d=true/\ShV H u d'/\sml d'=true /\
   ((ownD a fs.length d=true/\ownD c fs.length d'=true/\zbt8 d/\zbt8 d'/\∀ p H',H p=none->Same H H'->H' p=some (.tup [.int (lowT (totM fs (msD d) (msD d')) (zc9 (msD d)*zc9 (msD d'))),.int (lowB (totM fs (msD d) (msD d')) (zc9 (msD d)*zc9 (msD d')))])->Q (.ref p) H') ∨
    ((ownD a fs.length d&&ownD c fs.length d')=false/\∀ H',Same H H'->E (.ref zcl6) none H'))) ∨
  ∃ j:Int,BadB H b j/\∀ d H',H d=none->Same H H'->H' d=some (.xd [("field",.int j)])->E (.ref zcl5) (some d) H')
theorem zbm0 {zcl5 zcl6:Addr}{H:Hp}{b l:Addr}{ps:List Addr}{a c:Nat}{fs:List Fd}{v u:V}{d d':PyData}{Q:VK}{E:XK}(B:zq3 H b l ps a c fs) (O:OkB a c fs) (D:∀ f∈fs,f.Bd a c) (hv:ShV H v d) (hs:sml d=true) (hv':ShV H u d') (hs':sml d'=true) (o:ownD a fs.length d=true) (o':ownD c fs.length d'=true) (g:zbt8 d) (g':zbt8 d') (q:∀ p H',H p=none->Same H H'->H' p=some (.tup [.int (lowT (totM fs (msD d) (msD d')) (zc9 (msD d)*zc9 (msD d'))),.int (lowB (totM fs (msD d) (msD d')) (zc9 (msD d)*zc9 (msD d')))])->Q (.ref p) H'):zd7 zcl5 zcl6 [.ref b,v,u] H Q E:=by
 unfold zd7;exact⟨b,v,u,rfl,.inl ⟨l,ps,a,c,fs,d,d',B,O,D,hv,hs,hv',hs',.inl ⟨o,o',g,g',q⟩⟩⟩
theorem zbi3 {zcl5 zcl6:Addr}{H:Hp}{b l:Addr}{ps:List Addr}{a c:Nat}{fs:List Fd}{v u:V}{d d':PyData}{Q:VK}{E:XK}(B:zq3 H b l ps a c fs) (O:OkB a c fs) (D:∀ f∈fs,f.Bd a c) (hv:ShV H v d) (hs:sml d=true) (hv':ShV H u d') (hs':sml d'=true) (o:(ownD a fs.length d&&ownD c fs.length d')=false) (q:∀ H',Same H H'->E (.ref zcl6) none H'):zd7 zcl5 zcl6 [.ref b,v,u] H Q E:=by
 unfold zd7;exact⟨b,v,u,rfl,.inl ⟨l,ps,a,c,fs,d,d',B,O,D,hv,hs,hv',hs',.inr ⟨o,q⟩⟩⟩
theorem zbc1 {zcl5 zcl6:Addr}{H:Hp}{b:Addr}{v u:V}{j:Int}{Q:VK}{E:XK}(B:BadB H b j) (q:∀ d H',H d=none->Same H H'->H' d=some (.xd [("field",.int j)])->E (.ref zcl5) (some d) H'):zd7 zcl5 zcl6 [.ref b,v,u] H Q E:=by
 unfold zd7;exact⟨b,v,u,rfl,.inr ⟨j,B,q⟩⟩
theorem zbh5 (d:PyData):((zc6 d).map wtD).sum=zc9 (msD d):=by unfold zc9 msD;rw[zcy1];rfl
theorem zaj9 {xss:List (List (Int×Int×Int))}{i:Nat}(hi:i<xss.length):rowF ((zc6 (stmD xss)).getD i .none)=xss.getD i []:=by
 rw[show (zc6 (stmD xss)).getD i .none=zk2 xss[i] by
  show (xss.map zk2).getD i .none=_
  rw[zcv2,zcu9,zcu7 hi];rfl,zad9,zcv2,zcu7 hi]
 rfl
theorem zac4 {ms:List (List Int×Int)}(h1:1<=ms.length) (h:∀ x∈ms,1<=x.2):1<=zc9 ms:=by
 unfold zc9
 match ms,h1 with
 | x :: ms,_=>
  have h0:=h x (.head _)
  have:=(zr3 (ns:=ms.map fun x=>x.2) fun n hn=>by
   obtain⟨y,hy,rfl⟩:=zcx6.mp hn
   have:=h y (.tail _ hy)
   omega).2
  rw[zcy2,zda0]
  omega
set_option maxHeartbeats 0 in
theorem zat2 {f:Addr}{fd:FuncData}(F:Fun K "mixed_gain" "mixed_gain" zp5 f fd) (N:Nm mg) (zcq7:Def P w K mg base (CXR P w) 6 "look_battle" ["battle"] (zf4 zcl5)) (zcp0:Def P w K mg base (CXR P w) 6 "look_own_mix" ["hosts","fields","mix"] (zh6 zcl6)) (zct2:Def P w K mg base CX0 2 "ratio" ["top","bottom"] zw9) (zcq8:Def P w K mg base CX0 10 "shares_of" ["stream"] zm4) (zcq9:Def P w K mg base (CXR P w) 7 "stream_of" ["mix"] (zm5 zcl6)) (zcp1:Def P w K mg base CX0 1 "whole_weight" ["mix"] zh7) (zcp8:Def P w K mg base CX0 3 "won_by_shares" ["field","own","others"] zg1):FnOk P w K mg base (CXR P w) 11 f fd ["battle","one","other"] (zd7 zcl5 zcl6):=by
 refine F.okR zt4 (fun vs H Q E h=>by unfold zd7 at h;obtain⟨_,_,_,rfl,_⟩:=h;rfl) (fun cdv A outer s H vs Q E hr hX h=>?_)
 unfold zd7 at h
 obtain⟨b,v,u,rfl,h⟩:=h
 refine⟨_,(za4 (zr7 (pD zcq7 hr (zbi7 hX) (za0 (pq 0) za1)))
   (za4 (zr7 (pD zcp0 hr (zbi7 hX) (za0 (zb8 (K:=K) rfl (pq 0) za2) (za0 (pB (zq4 (K:=K) rfl) N.len_ zj3 (za0 (zb8 (K:=K) rfl (pq 0) za2) za1)) (za0 (pq 1) za1)))))
   (za4 (zr7 (pD zcp0 hr (zbi7 hX) (za0 (zb8 (K:=K) rfl (pq 0) za2) (za0 (pB (zq4 (K:=K) rfl) N.len_ zj3 (za0 (zb8 (K:=K) rfl (pq 0) za2) za1)) (za0 (pq 2) za1)))))
   (za4 (psS (i:=3) zt4.nd (pD zcq8 hr zb5 (za0 (pD zcq9 hr (zbi7 hX) (za0 (pq 1) za1)) za1)))
   (za4 (psS (i:=4) zt4.nd (pD zcq8 hr zb5 (za0 (pD zcq9 hr (zbi7 hX) (za0 (pq 2) za1)) za1)))
   (za4 (psS (i:=5) zt4.nd (pB (zan4 (K:=K) rfl rfl) N.sum_ zab0 (za0 (zj5 (N:=["field","own","others"]) (ks:=[none,none,none]) (zcl4 (K:=K) rfl N.zip_ (za0 (zb8 (K:=K) rfl (pq 0) za2) (za0 (pq 3) (za0 (pq 4) za1)))) (fun cl C s3 H3 fp=>(zk3 (K:=K) (n:=3) rfl rfl (zb1 (za7 (i:=0) nb_21 rfl (by first|exact Or.inl rfl|exact Or.inr rfl)) (zb1 (za7 (i:=1) nb_21 rfl (by first|exact Or.inl rfl|exact Or.inr rfl)) (zb1 (za7 (i:=2) nb_21 rfl (by first|exact Or.inl rfl|exact Or.inr rfl)) zk1))))) (fun cl C s3 H3 fp=>ze2) (fun cl C s3 H3 fp=>(pD zcp8 hr zb5 (za0 (pq 0) (za0 (pq 1) (za0 (pq 2) za1))))) (.skip (.skip (.skip .nil)))) za1)))
   (za6 (zb0 (pD zct2 hr zb5 (za0 (pq 5) (za0 (zb4 oMul (pD zcp1 hr zb5 (za0 (pq 1) za1)) (pD zcp1 hr zb5 (za0 (pq 2) za1))) za1))))))))))),?_⟩
 rcases h with ⟨l,ps,a,c,fs,d,d',B,O,D,hv,hs,hv',hs',h⟩|⟨j,B,q⟩
 ·have bl:=B.len
  have o1:=O.1
  have o2:=O.2
  refine zao9 B O (fun H1 s1=>?_)
  have B1:=B.same s1
  refine zb6 (v:=.int a) B1.out rfl ?_
  refine zb6 (v:=.ref l) B1.out rfl ?_
  refine zh4 B1.lst ?_
  rw[zcu6,bl]
  refine zam6 (hv.same s1) hs (fun e1 H2 s2=>?_) (fun e1 H2 s2=>?_)
  rotate_left
  ·rcases h with ⟨z,_⟩|⟨_,qe⟩
   ·rw[e1] at z;cases z
   ·exact qe _ (s1.trans s2)
  have s02:=s1.trans s2
  have B2:=B.same s02
  refine zb6 (v:=.int c) B2.out rfl ?_
  refine zb6 (v:=.ref l) B2.out rfl ?_
  refine zh4 B2.lst ?_
  rw[zcu6,bl]
  refine zam6 (hv'.same s02) hs' (fun e2 H3 s3=>?_) (fun e2 H3 s3=>?_)
  rotate_left
  ·rcases h with ⟨_,z,_⟩|⟨_,qe⟩
   ·rw[e2] at z;cases z
   ·exact qe _ (s02.trans s3)
  rcases h with ⟨_,_,g,g',q⟩|⟨z,_⟩
  rotate_left
  ·rw[e1,e2] at z;cases z
  have s03:=s02.trans s3
  obtain⟨em,eh,ef⟩:=zbs6 e1
  obtain⟨em',eh',ef'⟩:=zbs6 e2
  obtain⟨m,ts,rfl,M,m1,hh,hf,ok⟩:=zah7 (hv.same s03) em
  obtain⟨m',ts',rfl,M',m1',hh',hf',ok'⟩:=zah7 (hv'.same s03) em'
  rw[eh] at hh ok
  rw[ef] at hf ok
  rw[eh'] at hh' ok'
  rw[ef'] at hf' ok'
  have Ok:OkS (msD d) a fs.length:=⟨m1,by walk_at "om",ok⟩
  have Ok':OkS (msD d') c fs.length:=⟨m1',by walk_at "om",ok'⟩
  have ml:(msD d).length<64:=by unfold msD;rw[zcu6];exact g.1
  have ml':(msD d').length<64:=by unfold msD;rw[zcu6];exact g'.1
  have size:∀ k:Nat,k<=10->zx4 k fs.length=true:=fun k hk=>by
   unfold zx4
   rw[decide_eq_true (show (0:Int)<=(k:Int)/\(k:Int)<=40 by walk_at "om"),decide_eq_true (show (1:Int)<=((fs.length:Nat):Int)/\((fs.length:Nat):Int)<=8 by walk_at "om")];rfl
  refine zag0 (hv.same s03) hs (fun _=>⟨g.1,fun r rs xss H4 s4 S4 I4=>?_⟩) (fun z=>by rw[em] at z;cases z)
  rw[ef] at I4
  have xb:∀ {ms:List (List Int×Int)}{yss:List (List (Int×Int×Int))},zbb9 ms fs.length yss->ms.length<64->sml (stmD yss)=true:=fun {ms yss} I hm=>by
   rw[zbx8]
   refine (zcg8 (by rw[I.1];omega) fun xs hx=>?_).1
   obtain⟨i,ei⟩:=zdb0 hx
   have:=(I.2 i xs ei).2
   omega
  obtain⟨a4,h4⟩:=zcd5 Ok I4 (size a o1.1)
  have hS4:=(S4.same (zbd9 _ _)).sh
  refine zag1 hS4 (xb I4 ml) a4 (fun r5 ps5 H5 f5 s5 h5 l5 k5=>?_)
  have s05:=(s03.trans s4).trans s5
  refine zag0 (hv'.same s05) hs' (fun _=>⟨g'.1,fun r' rs' yss H6 s6 S6 I6=>?_⟩) (fun z=>by rw[em'] at z;cases z)
  rw[ef'] at I6
  obtain⟨a6,h6⟩:=zcd5 Ok' I6 (size c o1.2)
  have hS6:=(S6.same (zbd9 _ _)).sh
  refine zag1 hS6 (xb I6 ml') a6 (fun r7 ps7 H7 f7 s7 h7 l7 k7=>?_)
  have s57:=s6.trans s7
  have s07:=s05.trans s57
  have B7:=B.same s07
  have il4:(zc6 (stmD xss)).length=fs.length:=by show (xss.map zk2).length=_;rw[zcu6,I4.1]
  have il6:(zc6 (stmD yss)).length=fs.length:=by show (yss.map zk2).length=_;rw[zcu6,I6.1]
  have h57:=s57 _ _ h5
  refine zb6 (v:=.ref l) B7.out rfl ?_
  refine zci6 (SqL.of B7.lst) (SqL.of h57) (SqL.of h7) ?_
  refine zq1 (Wk.zip3 (n:=fs.length) (SqL.of B7.lst) (SqL.of h57) (SqL.of h7) (by rw[zcu6,bl]) (by rw[zcu6,l5,il4]) (by rw[zcu6,l7,il6])) (by rw[sizeLine_eq];omega) (fun i=>.int (wbs (fs.getD i (.more 0 0)) (shr a (xss.getD i [])) (shr c (yss.getD i [])))) (fun _=>true) (fun j σ=>∃ t u w:Option V,σ=[t,u,w]) ⟨none,none,none,rfl⟩ ?_ ?_
  ·rintro i x σ I R S hi s8 ⟨p,x1,x2,x3,rfl,hp,hx1,hx2,hx3⟩ ⟨_,_,_,rfl⟩ k _
   obtain⟨p1,f,rfl,ep1,ef1,hf1,of1⟩:=(B7.same s8).elt hx1
   rw[zcu9] at hx2 hx3
   obtain⟨p2,ep2,rfl⟩:=zcv4.mp hx2
   obtain⟨p3,ep3,rfl⟩:=zcv4.mp hx3
   have e2:=(s57.trans s8) _ _ (k5 i p2 ep2)
   have e3:=s8 _ _ (k7 i p3 ep3)
   have ix:i<xss.length:=by rw[I4.1];exact hi
   have iy:i<yss.length:=by rw[I6.1];exact hi
   rw[h4,zaj9 ix,zdc4] at e2
   rw[h6,zaj9 iy,zdc4] at e3
   rw[show fs.getD i (.more 0 0)=f by rw[zcv2,ef1];rfl] at k
   have gx:xss[i]?=some (xss.getD i []):=by rw[zcv2,zcu7 ix];rfl
   have gy:yss[i]?=some (yss.getD i []):=by rw[zcv2,zcu7 iy];rfl
   refine ze7 hp ?_
   refine br_T ?_
   refine zah3 hf1 of1 (D f (zcv1 ef1)) o1.1 o1.2 e2 (zba5 _ _) (zcf5 Ok hi (I4.2 i _ gx).1 g.2) e3 (zba5 _ _) (zcf5 Ok' hi (I6.2 i _ gy).1 g'.2) (fun H9 s9=>?_)
   walk_at "wh"
   exact k rfl _ _ s9 ⟨_,_,_,rfl⟩
  intro acc H8 f8 s8 h8
  rw[zg8] at h8
  have h8:H8 acc=some (.lst (((List.range fs.length).map fun i=>wbs (fs.getD i (.more 0 0)) (shr a (xss.getD i [])) (shr c (yss.getD i []))).map V.int)):=by rw[h8,zcy1];rfl
  refine zab2 h8 ?_
  rw[tot_eq Ok Ok' I4 I6 rfl]
  have s08:=s07.trans s8
  obtain⟨_,vs8,ds8,ev8,rfl,hx8,l8,_,pp8⟩:=zbh3 (hv.same s08) em
  cases ev8
  refine zx0 hx8 l8 (zq8 hs).1 pp8 (fun H9 s9=>?_)
  have s09:=s08.trans s9
  obtain⟨_,vs9,ds9,ev9,rfl,hx9,l9,_,pp9⟩:=zbh3 (hv'.same s09) em'
  cases ev9
  refine zx0 hx9 l9 (zq8 hs').1 pp9 (fun H10 s10=>?_)
  have w1:=zbh5 (.list ds8)
  have w2:=zbh5 (.list ds9)
  have w1:(ds8.map wtD).sum=zc9 (msD (.list ds8)):=w1
  have w2:(ds9.map wtD).sum=zc9 (msD (.list ds9)):=w2
  rw[w1,w2]
  have p1:=zac4 m1 fun x hx=>(ok x hx).2.2.2
  have p2:=zac4 m1' fun x hx=>(ok' x hx).2.2.2
  have g2:=g.2
  have g2':=g'.2
  generalize zc9 (msD (.list ds8))=W1 at *
  generalize zc9 (msD (.list ds9))=W2 at *
  have mb:=zbg3 (x:=W1) (y:=W2) (A:=10 ^ 31) (B:=10 ^ 31) (by walk_at "om") (by walk_at "om")
  have mp:=Int.mul_pos (show 0<W1 by walk_at "om") (show 0<W2 by walk_at "om")
  refine zag3 (zy9 (by walk_at "om") (by walk_at "om") (by walk_at "om") (by walk_at "om")) ?_
  have sA:=s09.trans s10
  refine zca6 (by walk_at "om") (by walk_at "om") (by walk_at "om") (fun p H11 f11 s11 h11=>?_)
  walk_at "wh"
  exact q p H11 (sA.free f11) (sA.trans s11) h11
 ·walk_at "wh"
  exact zbc6 B q
@[irreducible] def zf3:Sp:=fun vs H Q _=>∃ t b:Int,vs=[.int t,.int b]/\b≠0/\-(10 ^ 100)<b/\b<10 ^ 100/\∀ p H',H p=none->Same H H'->H' p=some (.tup [.int (lowT t b),.int (lowB t b)])->Q (.ref p) H'
theorem zax7 {H:Hp}{t b:Int}{Q:VK}{E:XK}(h0:b≠0) (h1:-(10 ^ 100)<b) (h2:b<10 ^ 100) (q:∀ p H',H p=none->Same H H'->H' p=some (.tup [.int (lowT t b),.int (lowB t b)])->Q (.ref p) H'):zf3 [.int t,.int b] H Q E:=by
 unfold zf3;exact⟨t,b,rfl,h0,h1,h2,q⟩
theorem zaf9 {f:Addr}{fd:FuncData}(F:Fun K "_law_in_lowest" "_law_in_lowest" zi4 f fd) (N:Nm mg):FnOk P w K mg base CX0 1 f fd ["_law_top","_law_bottom"] zf3:=by
 refine F.ok zn3 (fun vs H Q E h=>by unfold zf3 at h;obtain⟨n,k,rfl,_⟩:=h;rfl) (fun cdv A outer s H vs Q E hr h=>?_)
 unfold zf3 at h
 obtain⟨t,b,rfl,hb,hb1,hb2,q⟩:=h
 refine⟨_,(za4 (psPar (i:=2) (j:=3) rfl zn3.nd rfl rfl (by decide) rfl rfl (za0 (pB cAbs N.abs_ zbh7 (za0 (pq 0) za1)) (za0 (pB cAbs N.abs_ zbh7 (za0 (pq 1) za1)) za1)) rfl)
   (za4 (zbn1 PassesOwn.never (ptC oGt (pq 3) za2) (za6 (psPar (i:=2) (j:=3) rfl zn3.nd rfl rfl (by decide) rfl rfl (za0 (pq 3) (za0 (zb4 oMod (pq 2) (pq 3)) za1)) rfl)))
   (za4 (zbk0 (psIf (ptC oLt (pq 1) za2) (za6 (psS (i:=2) zn3.nd (zb4 oSub za2 (pq 2)))) zc2))
   (za6 (zb0 (zh2 (za0 (zb4 oDiv (pq 0) (pq 2)) (za0 (zb4 oDiv (pq 1) (pq 2)) za1)))))))),?_⟩
 refine zbg6 (fun σ H2=>∃ x y:Int,σ=[some (.int t),some (.int b),some (.int x),some (.int y)]/\H2=H/\0<=x/\0<=y/\x.gcd y=t.gcd b) (fun σ _=>match σ with | [_,_,_,some (.int y)]=>y.toNat|_=>0) ?_ ?_
 ·exact⟨_,_,rfl,rfl,by walk_at "om",by walk_at "om",zbp7 t b⟩
 ·rintro σ H2 ⟨x,y,rfl,rfl,hx,hy,hg⟩
  walk_at "wh"
  refine zck2 (fun h=>?_) (fun h=>?_)
  ·walk_at "wh"
   refine zbv4 (by walk_at "om") ?_
   walk_at "wh"
   have h1:=Int.emod_nonneg x (show y≠0 by walk_at "om")
   have h2:=Int.emod_lt_of_pos x h
   refine⟨⟨_,_,rfl,rfl,hy,h1,?_⟩,?_⟩
   ·rw[zbf1 hx h];exact hg
   ·show (x % y).toNat<y.toNat
    omega
  ·have hy0:y=0:=by walk_at "om"
   have e:x=(t.gcd b:Int):=by rw[← hg];exact (zbo3 hx hy0).symm
   have g1:=zbr3 (t:=t) hb
   have g2:=zce5 (t:=t) hb
   walk_at "wh"
   refine zce8 ?_
   refine ze9 (fun h=>?_) (fun h=>?_)
   ·walk_at "wh"
    have el:0 - x=lg t b:=by unfold lg;rw[if_pos h,e]
    refine zy5 (by walk_at "om") (by walk_at "om") (by walk_at "om") ?_
    refine zy5 (by walk_at "om") (by walk_at "om") (by walk_at "om") ?_
    refine zb7 (fun p H' hf hs ha=>?_)
    rw[el] at ha
    exact q _ _ hf hs ha
   ·walk_at "wh"
    have el:x=lg t b:=by unfold lg;rw[if_neg h,e]
    refine zy5 (by walk_at "om") (by walk_at "om") (by walk_at "om") ?_
    refine zy5 (by walk_at "om") (by walk_at "om") (by walk_at "om") ?_
    refine zb7 (fun p H' hf hs ha=>?_)
    rw[el] at ha
    exact q _ _ hf hs ha
@[irreducible] def zg2:Sp:=fun vs H Q _=>∃ i:Int,vs=[.int i]/\Q (.bl true) H
theorem zam2 {H:Hp}{i:Int}{Q:VK}{E:XK}(q:Q (.bl true) H):zg2 [.int i] H Q E:=by
 unfold zg2;exact⟨i,rfl,q⟩
theorem zah5 {f:Addr}{fd:FuncData}(F:Fun K "_law_is_whole" "_law_is_whole" zj6 f fd) (N:Nm mg):FnOk P w K mg base CX0 1 f fd ["_law_told"] zg2:=by
 refine F.ok zag8 (fun vs H Q E h=>by unfold zg2 at h;obtain⟨n,rfl,_⟩:=h;rfl) (fun cdv A outer s H vs Q E hr h=>?_)
 unfold zg2 at h
 obtain⟨i,rfl,q⟩:=h
 refine⟨_,(za6 (zb0 (zs8 (pB (zac5 (K:=K) rfl) N.isinstance_ za8 (za0 (pq 0) (za0 (pTy N.int_ zam9) za1))) (zs2 (peNot (pB (zac5 (K:=K) rfl) N.isinstance_ za8 (za0 (pq 0) (za0 (pTy N.bool_ zbr8) za1)))))))),?_⟩
 repeat walk_at "st"
 walk_at "wh"
 exact q
@[irreducible] def zk4:Sp:=fun vs H Q _=>∃ (a b:Addr) (t u x y:Int),vs=[.ref a,.ref b]/\H a=some (.tup [.int t,.int u])/\H b=some (.tup [.int x,.int y])/\Q (.bl (decide (t=x/\u=y))) H
theorem zbi2 {H:Hp}{a b:Addr}{t u x y:Int}{Q:VK}{E:XK}(ha:H a=some (.tup [.int t,.int u])) (hb:H b=some (.tup [.int x,.int y])) (q:Q (.bl (decide (t=x/\u=y))) H):zk4 [.ref a,.ref b] H Q E:=by
 unfold zk4;exact⟨a,b,t,u,x,y,rfl,ha,hb,q⟩
theorem zar0 {f:Addr}{fd:FuncData}(F:Fun K "_law_is_it" "_law_is_it" zp3 f fd) (N:Nm mg) (zco6:Def P w K mg base CX0 1 "_law_is_whole" ["_law_told"] zg2):FnOk P w K mg base CX0 2 f fd ["_law_told","_law_due"] zk4:=by
 refine F.ok zat8 (fun vs H Q E h=>by unfold zk4 at h;obtain⟨_,_,_,_,_,_,rfl,_⟩:=h;rfl) (fun cdv A outer s H vs Q E hr h=>?_)
 unfold zk4 at h
 obtain⟨a,b,t,u,x,y,rfl,ha,hb,q⟩:=h
 have hu:=hu40 hr
 refine⟨_,(za4 (psIf (ptW (pwOr (zm0 (ptV (pB (zac5 (K:=K) rfl) N.isinstance_ za8 (za0 (pq 0) (za0 (pTy N.tuple_ zai0) za1))))) (pwOr (ptC (oNeK (K:=K) rfl (by exact hu)) (pB (zq4 (K:=K) rfl) N.len_ zj3 (za0 (pq 0) za1)) za2) (pwOr (zm0 (ptV (pD zco6 hr zb5 (za0 (zb8 (K:=K) rfl (pq 0) za2) za1)))) (zaa8 (zm0 (ptV (pD zco6 hr zb5 (za0 (zb8 (K:=K) rfl (pq 0) za2) za1))))))))) (za6 (zb0 zx8)) zc2)
   (za6 (zb0 (peC (oEqK (K:=K) rfl (by exact hu)) (pq 0) (pq 1))))),?_⟩
 walk_at "st"
 walk_at "st"
 walk_at "st"
 refine zd6 (zad2 rfl ?_)
 walk_at "st"
 refine zam2 ?_
 walk_at "st"
 walk_at "st"
 refine zam2 ?_
 walk_at "st"
 walk_at "wh"
 exact zav9 (EqR.ints2 ha hb) q
@[irreducible] def zo5:Sp:=fun vs H Q _=>∃ (p:Addr) (a c x y:Nat) (f:Fd),vs=[.ref p,.int x,.int y]/\FdAt H p a c f/\x<=a/\y<=c/\∀ H',Same H H'->Q (.int (f.won x y)) H'
theorem zcl0 {H:Hp}{p:Addr}{a c:Nat}{x y:Int}{f:Fd}{Q:VK}{E:XK}(F:FdAt H p a c f) (h0:0<=x) (h1:x<=a) (h2:0<=y) (h3:y<=c) (q:∀ H',Same H H'->Q (.int (f.won x.toNat y.toNat)) H'):zo5 [.ref p,.int x,.int y] H Q E:=by
 unfold zo5
 refine⟨p,a,c,x.toNat,y.toNat,f,?_,F,by walk_at "om",by walk_at "om",q⟩
 rw[show ((x.toNat:Nat):Int)=x by walk_at "om",show ((y.toNat:Nat):Int)=y by walk_at "om"]
theorem zbc3 {f:Addr}{fd:FuncData}(F:Fun K "_law_pay" "_law_pay" zt9 f fd) (N:Nm mg):FnOk P w K mg base CX0 1 f fd ["_law_field","_law_x","_law_y"] zo5:=by
 refine F.ok zbb8 (fun vs H Q E h=>by unfold zo5 at h;obtain⟨_,_,_,_,_,_,rfl,_⟩:=h;rfl) (fun cdv A outer s H vs Q E hr h=>?_)
 unfold zo5 at h
 obtain⟨p,a,c,x,y,f,rfl,F,h1,h2,q⟩:=h
 have hu:=hu40 hr
 refine⟨_,(za4 (psIf (ptC (oEqK (K:=K) rfl (by exact hu)) (zb8 (K:=K) rfl (pq 0) za2) zg5) (za6 (zb0 (zb8 (K:=K) rfl (zb8 (K:=K) rfl (zb8 (K:=K) rfl (pq 0) za2) (pq 1)) (pq 2)))) zc2)
   (za4 (psIf (ptC (oEqK (K:=K) rfl (by exact hu)) (zb8 (K:=K) rfl (pq 0) za2) zg5) (za6 (zb0 (zb8 (K:=K) rfl (zi6 (za0 (zb4 oSub za2 (zb8 (K:=K) rfl (pq 0) za2)) (za0 (zb8 (K:=K) rfl (pq 0) za2) za1))) (pT cInt N.int_ zam9 (za0 (peC oGe (zb4 oSub (pq 1) (pq 2)) (zb8 (K:=K) rfl (pq 0) za2)) za1))))) zc2)
   (za6 (zb0 (zb8 (K:=K) rfl (zi6 (za0 (zb4 oSub za2 (zb8 (K:=K) rfl (pq 0) za2)) (za0 (zb8 (K:=K) rfl (pq 0) za2) (za0 (zb8 (K:=K) rfl (pq 0) za2) za1)))) (zb4 oSub (zb4 oAdd za2 (pT cInt N.int_ zam9 (za0 (peC oGt (pq 1) (pq 2)) za1))) (pT cInt N.int_ zam9 (za0 (peC oLt (pq 1) (pq 2)) za1)))))))),?_⟩
 cases f with
 | more wt t=>
  have F:H p=some (.tup [.str "more",.int wt,.int t]):=F
  have q:∀ H',Same H H'->Q (.int (if x=y then t else if y<x then wt else -wt)) H':=q
  refine zb6 (v:=.str "more") F rfl ?_
  refine zy6 (by decide) ?_
  refine zb6 (v:=.str "more") F rfl ?_
  refine zy6 (by decide) ?_
  refine zb6 (v:=.int wt) F rfl ?_
  refine zb6 (v:=.int t) F rfl ?_
  refine zb6 (v:=.int wt) F rfl ?_
  refine zc5 (fun l H1 f1 s1 h1=>?_)
  walk_at "wh"
  have q:=q _ s1
  by_cases e1:x=y
  ·rw[if_pos e1] at q
   refine zg6 (v:=.int t) h1 (by rw[decide_eq_false (by walk_at "om"),decide_eq_false (by walk_at "om")];rfl) ?_
   walk_at "wh"
   exact q
  ·rw[if_neg e1] at q
   by_cases e2:y<x
   ·rw[if_pos e2] at q
    refine zg6 (v:=.int wt) h1 (by rw[decide_eq_true (by walk_at "om"),decide_eq_false (by walk_at "om")];rfl) ?_
    walk_at "wh"
    exact q
   ·rw[if_neg e2] at q
    refine zg6 (v:=.int (0 - wt)) h1 (by rw[decide_eq_false (by walk_at "om"),decide_eq_true (by walk_at "om")];rfl) ?_
    walk_at "wh"
    rw[Int.zero_sub]
    exact q
 | lead wt l=>
  have F:H p=some (.tup [.str "lead",.int wt,.int l]):=F
  have q:∀ H',Same H H'->Q (.int (if l<=(x:Int) - y then wt else -wt)) H':=q
  refine zb6 (v:=.str "lead") F rfl ?_
  refine zy6 (by decide) ?_
  refine zb6 (v:=.str "lead") F rfl ?_
  refine zad2 rfl ?_
  refine zb6 (v:=.int wt) F rfl ?_
  refine zb6 (v:=.int wt) F rfl ?_
  refine zc5 (fun l' H1 f1 s1 h1=>?_)
  refine zb6 (v:=.int l) (s1 _ _ F) rfl ?_
  walk_at "wh"
  have q:=q _ s1
  by_cases e1:l<=(x:Int) - y
  ·rw[if_pos e1] at q
   refine zg6 (v:=.int wt) h1 (by rw[decide_eq_true (by walk_at "om")];rfl) ?_
   walk_at "wh"
   exact q
  ·rw[if_neg e1] at q
   refine zg6 (v:=.int (0 - wt)) h1 (by rw[decide_eq_false (by walk_at "om")];rfl) ?_
   walk_at "wh"
   rw[Int.zero_sub]
   exact q
 | tab g=>
  obtain⟨q',ps,F,G⟩:=F
  obtain⟨r,er,hr'⟩:=G.some (i:=x) (by walk_at "om")
  refine zb6 (v:=.str "table") F rfl ?_
  refine zad2 rfl ?_
  refine zb6 (v:=.ref q') F rfl ?_
  refine zg6 (v:=.ref r) G.out (zl6 (by rw[zcu9,er];rfl)) ?_
  refine zg6 (v:=.int (g x y)) hr' (zl6 (zas2 (by walk_at "om"))) ?_
  walk_at "wh"
  exact q _ (Same.refl _)
theorem zbh6 {α:Type}(g:α->Int) {xs:List α}{k:Nat}{y:α}(e:xs[k]?=some y):((xs.take (k+1)).map g).sum=((xs.take k).map g).sum+g y:=by
 rw[List.take_succ,e,zcx8,List.sum_append]
 simp
abbrev OkG (ms:List (List Int×Int)) (a f:Nat):Prop:=OkS ms a f/\ms.length<64/\zc9 ms<=10 ^ 31
theorem OkG.wt {ms:List (List Int×Int)}{a f:Nat}(O:OkG ms a f) {x:List Int×Int}(hx:x∈ms):1<=x.2/\x.2<=10 ^ 31:=by
 have h1:=(O.1.all x hx).2.2.2
 have:=(zr3 (ns:=ms.map fun x=>x.2) fun n hn=>by
  obtain⟨y,hy,rfl⟩:=zcx6.mp hn
  have:=(O.1.all y hy).2.2.2
  omega).1 x.2 (zcx6.mpr ⟨x,hx,rfl⟩)
 have w:=O.2.2
 unfold zc9 at w
 omega
theorem OkG.at {ms:List (List Int×Int)}{a f:Nat}(O:OkG ms a f) {x:List Int×Int}(hx:x∈ms) {i:Nat}(hi:i<f):x.1[i]?=some (x.1.getD i 0)/\0<=x.1.getD i 0/\x.1.getD i 0<=a:=by
 obtain⟨nn,xl,xs,_⟩:=O.1.all x hx
 have e:x.1[i]?=some (x.1.getD i 0):=by rw[zcv2,zcu7 (by walk_at "om")];rfl
 have hm:=zcv1 e
 have:=(zr3 nn).1 _ hm
 exact⟨e,nn _ hm,by walk_at "om"⟩
theorem gn_bd {fs:List Fd}{a c:Nat}(D:∀ f∈fs,f.Ok/\f.Bd a c) (hf:fs.length<=5) {ns ks:List Int}(h1:∀ i,i<fs.length->(ns.getD i 0).toNat<=a) (h2:∀ i,i<fs.length->(ks.getD i 0).toNat<=c):-(10 ^ 30)<=gnL fs ns ks/\gnL fs ns ks<=10 ^ 30:=by
 have:=zbt0 (B:=2*10 ^ 28) (xs:=(List.range fs.length).map fun i=>wonF fs i (ns.getD i 0).toNat (ks.getD i 0).toNat) fun x hx=>by
  obtain⟨i,hi,rfl⟩:=zcx6.mp hx
  have hi:=zda2.mp hi
  have e:fs[i]?=some fs[i]:=zcu7 hi
  unfold wonF
  rw[e]
  have:=D fs[i] (zdc2 hi)
  exact Fd.won_bd this.1 this.2 (h1 i hi) (h2 i hi)
 rw[zcu6,zcy3] at this
 have b:(fs.length:Int)*(2*10 ^ 28)<=10 ^ 30:=by
  have h5:(fs.length:Int)<=5:=by walk_at "om"
  have:=zdc5 h5 (show (0:Int)<=2*10 ^ 28 by decide)
  exact Int.le_trans this (by decide)
 unfold gnL
 generalize (fs.length:Int)*(2*10 ^ 28)=B at *
 omega
@[irreducible] def zi8:Sp:=fun vs H Q _=>∃ (b l m m':Addr) (ps:List Addr) (a c:Nat) (fs:List Fd) (ts ts':List (Addr×Addr)) (ms ls:List (List Int×Int)),vs=[.ref b,.ref m,.ref m']/\zq3 H b l ps a c fs/\OkB a c fs/\(∀ f∈fs,f.Bd a c)/\ze3 H m ts ms/\ze3 H m' ts' ls/\OkG ms a fs.length/\OkG ls c fs.length/\∀ p H',H p=none->Same H H'->H' p=some (.tup [.int (lowT (totM fs ms ls) (zc9 ms*zc9 ls)),.int (lowB (totM fs ms ls) (zc9 ms*zc9 ls))])->Q (.ref p) H'
theorem zau9 {H:Hp}{b l m m':Addr}{ps:List Addr}{a c:Nat}{fs:List Fd}{ts ts':List (Addr×Addr)}{ms ls:List (List Int×Int)}{Q:VK}{E:XK}(B:zq3 H b l ps a c fs) (O:OkB a c fs) (D:∀ f∈fs,f.Bd a c) (M:ze3 H m ts ms) (M':ze3 H m' ts' ls) (G:OkG ms a fs.length) (G':OkG ls c fs.length) (q:∀ p H',H p=none->Same H H'->H' p=some (.tup [.int (lowT (totM fs ms ls) (zc9 ms*zc9 ls)),.int (lowB (totM fs ms ls) (zc9 ms*zc9 ls))])->Q (.ref p) H'):zi8 [.ref b,.ref m,.ref m'] H Q E:=by
 unfold zi8;exact⟨b,l,m,m',ps,a,c,fs,ts,ts',ms,ls,rfl,B,O,D,M,M',G,G',q⟩
theorem zbx6 {fs:List Fd}{ms ls:List (List Int×Int)}{j:Nat}{x:List Int×Int}(e:ms[j]?=some x):totM fs (ms.take (j+1)) ls=totM fs (ms.take j) ls+(ls.map fun y=>x.2*y.2*gnL fs x.1 y.1).sum:=zbh6 _ e
theorem zaj2 {ms:List (List Int×Int)}{n:Nat}(hn:n=ms.length):((List.range n).map fun i=>V.int (ms.getD i ([],0)).2)=(ms.map fun x=>x.2).map V.int:=by
 subst hn
 apply zda7
 intro i
 rw[zcu9,zcu9,zcu9]
 by_cases h:i<ms.length
 ·rw[zcz9 h,zcu7 h]
  simp[h]
 ·rw[zcx4 (by simp;omega),zcx4 (by walk_at "om")]
  rfl
set_option maxHeartbeats 0 in
theorem zap0 {f:Addr}{fd:FuncData}(F:Fun K "_law_due_of" "_law_due_of" zn6 f fd) (N:Nm mg) (zcp5:Def P w K mg base CX0 1 "_law_in_lowest" ["_law_top","_law_bottom"] zf3) (zcs6:Def P w K mg base CX0 1 "_law_pay" ["_law_field","_law_x","_law_y"] zo5):FnOk P w K mg base CX0 2 f fd ["_law_battle","_law_one","_law_other"] zi8:=by
 refine F.ok zf5 (fun vs H Q E h=>by unfold zi8 at h;obtain⟨_,_,_,_,_,_,_,_,_,_,_,_,rfl,_⟩:=h;rfl) (fun cdv A outer s H vs Q E hr h=>?_)
 unfold zi8 at h
 obtain⟨b,l,m,m',ps,a,c,fs,ts,ts',ms,ls,rfl,B,O,D,M,M',G,G',q⟩:=h
 have hu:=hu40 hr
 have o2:=O.2
 have bl:=B.len
 have ml:=M.len
 have ml':=M'.len
 have oks:=B.oks
 refine⟨_,(za4 (psS (i:=3) zf5.nd za2)
   (za4 (zac3 PassesOwn.never rfl (zj2 (K:=K) rfl (pq 1)) (zk3 (K:=K) (n:=2) rfl rfl (zb1 (za7 (i:=4) zf5.nd rfl (by first|exact Or.inl rfl|exact Or.inr rfl)) (zb1 (za7 (i:=5) zf5.nd rfl (by first|exact Or.inl rfl|exact Or.inr rfl)) zk1))) (za6 (zac3 PassesOwn.never rfl (zj2 (K:=K) rfl (pq 2)) (zk3 (K:=K) (n:=2) rfl rfl (zb1 (za7 (i:=6) zf5.nd rfl (by first|exact Or.inl rfl|exact Or.inr rfl)) (zb1 (za7 (i:=7) zf5.nd rfl (by first|exact Or.inl rfl|exact Or.inr rfl)) zk1))) (za4 (psC (i:=8) (N:=["_law_k","_law_field","_law_plan","_law_against"]) (ks:=[none,none,some 4,some 6]) zf5.nd (zas5 (K:=K) rfl N.enumerate_ (za0 (zb8 (K:=K) rfl (pq 0) za2) za1)) (fun cl C s3 H3 fp=>(zk3 (K:=K) (n:=2) rfl rfl (zb1 (za7 (i:=0) nb_26 rfl (by first|exact Or.inl rfl|exact Or.inr rfl)) (zb1 (za7 (i:=1) nb_26 rfl (by first|exact Or.inl rfl|exact Or.inr rfl)) zk1)))) (fun cl C s3 H3 fp=>ze2) (fun cl C s3 H3 fp=>(pD zcs6 hr zb5 (za0 (pq 1) (za0 (zb8 (K:=K) rfl (pq 2) (pq 0)) (za0 (zb8 (K:=K) rfl (pq 3) (pq 0)) za1))))) (.skip (.skip (.take rfl rfl (by first|exact Or.inl rfl|exact Or.inr rfl) (.take rfl rfl (by first|exact Or.inl rfl|exact Or.inr rfl) .nil)))))
   (za6 (psS (i:=3) zf5.nd (zb4 oAdd (pq 3) (zb4 oMul (zb4 oMul (pq 5) (pq 7)) (pB (zan4 (K:=K) rfl rfl) N.sum_ zab0 (za0 (pq 8) za1))))))))))
   (za4 (psS (i:=9) zf5.nd (zb4 oMul (pB (zan4 (K:=K) rfl rfl) N.sum_ zab0 (za0 (zj5 (N:=["_law_plan","_law_weight"]) (ks:=[none,none]) (zj2 (K:=K) rfl (pq 1)) (fun cl C s3 H3 fp=>(zk3 (K:=K) (n:=2) rfl rfl (zb1 (za7 (i:=0) nb_27 rfl (by first|exact Or.inl rfl|exact Or.inr rfl)) (zb1 (za7 (i:=1) nb_27 rfl (by first|exact Or.inl rfl|exact Or.inr rfl)) zk1)))) (fun cl C s3 H3 fp=>ze2) (fun cl C s3 H3 fp=>(pq 1)) (.skip (.skip .nil))) za1)) (pB (zan4 (K:=K) rfl rfl) N.sum_ zab0 (za0 (zj5 (N:=["_law_plan","_law_often"]) (ks:=[none,none]) (zj2 (K:=K) rfl (pq 2)) (fun cl C s3 H3 fp=>(zk3 (K:=K) (n:=2) rfl rfl (zb1 (za7 (i:=0) nb_28 rfl (by first|exact Or.inl rfl|exact Or.inr rfl)) (zb1 (za7 (i:=1) nb_28 rfl (by first|exact Or.inl rfl|exact Or.inr rfl)) zk1)))) (fun cl C s3 H3 fp=>ze2) (fun cl C s3 H3 fp=>(pq 1)) (.skip (.skip .nil))) za1))))
   (za6 (zb0 (pD zcp5 hr zb5 (za0 (pq 3) (za0 (pq 9) za1)))))))),?_⟩
 refine zd0 M.out ?_
 refine zp7 (xs:=ts.map fun t=>V.ref t.1) (fun j σ I=>∃ x5 x6 x7 x8 x9 x10:Option V,σ=[some (.ref b),some (.ref m),some (.ref m'),some (.int (totM fs (ms.take j) ls)),x5,x6,x7,x8,x9,x10]/\Same H I) ?_ ?_ ?_ ?_
 ·exact⟨_,_,_,_,_,_,rfl,Same.refl _⟩
 ·rintro j σ I _ ⟨_,_,_,_,_,_,_,s1⟩
  exact SqL.of (s1 _ _ M.out)
 ·rintro j v σ I hj ⟨x5,x6,x7,x8,x9,x10,rfl,s1⟩
  obtain⟨t,x,rfl,e1,e2,ht,hp⟩:=(M.same s1).elt hj
  have hx:=zcv1 e2
  have wx:=G.wt hx
  refine ze7 ht ?_
  refine zd0 (s1 _ _ M'.out) ?_
  refine zp7 (xs:=ts'.map fun t=>V.ref t.1) (fun k σ J=>∃ x7 x8 x9:Option V,σ=[some (.ref b),some (.ref m),some (.ref m'),some (.int (totM fs (ms.take j) ls+((ls.take k).map fun y=>x.2*y.2*gnL fs x.1 y.1).sum)),some (.ref t.2),some (.int x.2),x7,x8,x9,x10]/\Same I J) ?_ ?_ ?_ ?_
  ·exact⟨x7,x8,x9,by rw[List.take_zero,List.map_nil,List.sum_nil,Int.add_zero];rfl,Same.refl _⟩
  ·rintro k σ J _ ⟨_,_,_,_,s2⟩
   exact SqL.of (s2 _ _ (s1 _ _ M'.out))
  ·rintro k v σ J hk ⟨y7,y8,y9,rfl,s2⟩
   have s02:=s1.trans s2
   obtain⟨u,y,rfl,g1,g2,hu',hp'⟩:=(M'.same s02).elt hk
   have hy:=zcv1 g2
   have wy:=G'.wt hy
   have B2:=B.same s02
   refine ze7 hu' ?_
   refine zb6 (v:=.ref l) B2.out rfl ?_
   refine zak2 B2.lst ?_
   refine zq1 (Wk.enum (SqL.of B2.lst)) (by rw[zcu6,sizeLine_eq];omega) (fun i=>.int (wonF fs i (x.1.getD i 0).toNat (y.1.getD i 0).toNat)) (fun _=>true) (fun j σ=>∃ t' u':Option V,σ=[t',u',some (.ref t.2),some (.ref u.2)]) ⟨none,none,rfl⟩ ?_ ?_
   ·rintro i z σ J1 R S hi s3 ⟨tt,yy,rfl,htt,hyy⟩ ⟨_,_,rfl⟩ kk _
    rw[zcu6,bl] at hi
    obtain⟨p,f,rfl,ep,ef,hf,of⟩:=(B2.same s3).elt hyy
    obtain⟨a1,a2,a3⟩:=G.at hx hi
    obtain⟨b1,b2,b3⟩:=G'.at hy hi
    rw[show wonF fs i (x.1.getD i 0).toNat (y.1.getD i 0).toNat=f.won (x.1.getD i 0).toNat (y.1.getD i 0).toNat by unfold wonF;rw[ef]] at kk
    refine ze7 htt ?_
    refine br_T ?_
    refine zg6 (v:=.int (x.1.getD i 0)) (s3 _ _ (s2 _ _ hp)) (zl6 (by rw[zcu9,a1];rfl)) ?_
    refine zg6 (v:=.int (y.1.getD i 0)) (s3 _ _ hp') (zl6 (by rw[zcu9,b1];rfl)) ?_
    refine zcl0 hf a2 a3 b2 b3 (fun J2 s4=>?_)
    walk_at "wh"
    exact kk rfl _ _ s4 ⟨_,_,rfl⟩
   intro acc J1 f3 s3 h3
   rw[zg8,zcu6,bl] at h3
   have h3:J1 acc=some (.lst (((List.range fs.length).map fun i=>wonF fs i (x.1.getD i 0).toNat (y.1.getD i 0).toNat).map V.int)):=by rw[h3,zcy1];rfl
   refine zag3 (zy9 (by walk_at "om") (by walk_at "om") (by walk_at "om") (by walk_at "om")) ?_
   refine zab2 h3 ?_
   have gb:=gn_bd (fs:=fs) (a:=a) (c:=c) (ns:=x.1) (ks:=y.1) (fun f hf=>⟨oks f hf,D f hf⟩) (by walk_at "om") (fun i hi=>by have:=G.at hx hi;omega) (fun i hi=>by have:=G'.at hy hi;omega)
   have mb:=zbg3 (x:=x.2) (y:=y.2) (A:=10 ^ 31) (B:=10 ^ 31) (by walk_at "om") (by walk_at "om")
   have gb':-(10 ^ 30)<=((List.range fs.length).map fun i=>wonF fs i (x.1.getD i 0).toNat (y.1.getD i 0).toNat).sum/\((List.range fs.length).map fun i=>wonF fs i (x.1.getD i 0).toNat (y.1.getD i 0).toNat).sum<=10 ^ 30:=gb
   refine zag3 (zy9 (by walk_at "om") (by walk_at "om") (by walk_at "om") (by walk_at "om")) ?_
   walk_at "wh"
   refine⟨some (.ref u.2),some (.int y.2),some (.ref acc),?_,s2.trans s3⟩
   rw[zbh6 _ g2,← Int.add_assoc]
   rfl
  ·rintro σ J ⟨y7,y8,y9,rfl,s2⟩
   rw[zcu6,ml',List.take_length,← zbx6 e2]
   walk_at "wh"
   exact⟨_,_,_,_,_,_,rfl,s1.trans s2⟩
 ·rintro σ I ⟨x5,x6,x7,x8,x9,x10,rfl,s1⟩
  rw[zcu6,ml,List.take_length]
  have M1:=M.same s1
  refine zd0 M1.out ?_
  refine zq1 (Wk.list (SqL.of M1.out)) (by rw[zcu6,sizeLine_eq];have:=G.2.1;omega) (fun i=>.int (ms.getD i ([],0)).2) (fun _=>true) (fun j σ=>∃ t' u':Option V,σ=[t',u']) ⟨none,none,rfl⟩ ?_ ?_
  ·rintro i z σ J1 R S hi s3 hz ⟨_,_,rfl⟩ kk _
   obtain⟨t,x,rfl,e1,e2,ht,hp⟩:=(M1.same s3).elt hz
   rw[show ms.getD i ([],0)=x by rw[zcv2,e2];rfl] at kk
   refine ze7 ht ?_
   refine br_T ?_
   walk_at "wh"
   exact kk rfl _ _ (Same.refl _) ⟨_,_,rfl⟩
  intro acc H2 f2 s2 h2
  rw[zg8,zcu6,zaj2 ml] at h2
  refine zab2 h2 ?_
  have s02:=s1.trans s2
  have M2:=M'.same s02
  refine zd0 M2.out ?_
  refine zq1 (Wk.list (SqL.of M2.out)) (by rw[zcu6,sizeLine_eq];have:=G'.2.1;omega) (fun i=>.int (ls.getD i ([],0)).2) (fun _=>true) (fun j σ=>∃ t' u':Option V,σ=[t',u']) ⟨none,none,rfl⟩ ?_ ?_
  ·rintro i z σ J1 R S hi s3 hz ⟨_,_,rfl⟩ kk _
   obtain⟨t,x,rfl,e1,e2,ht,hp⟩:=(M2.same s3).elt hz
   rw[show ls.getD i ([],0)=x by rw[zcv2,e2];rfl] at kk
   refine ze7 ht ?_
   refine br_T ?_
   walk_at "wh"
   exact kk rfl _ _ (Same.refl _) ⟨_,_,rfl⟩
  intro acc3 H3 f3 s3 h3
  rw[zg8,zcu6,zaj2 ml'] at h3
  refine zab2 h3 ?_
  have p1:=zac4 G.1.ne fun x hx=>(G.1.all x hx).2.2.2
  have p2:=zac4 G'.1.ne fun x hx=>(G'.1.all x hx).2.2.2
  have g2:=G.2.2
  have g2':=G'.2.2
  rw[show (ms.map fun x=>x.2).sum=zc9 ms from rfl,show (ls.map fun x=>x.2).sum=zc9 ls from rfl]
  have mb:=zbg3 (x:=zc9 ms) (y:=zc9 ls) (A:=10 ^ 31) (B:=10 ^ 31) (by walk_at "om") (by walk_at "om")
  have mp:=Int.mul_pos (show 0<zc9 ms by walk_at "om") (show 0<zc9 ls by walk_at "om")
  refine zag3 (zy9 (by walk_at "om") (by walk_at "om") (by walk_at "om") (by walk_at "om")) ?_
  have s03:=s02.trans s3
  refine zax7 (by walk_at "om") (by walk_at "om") (by walk_at "om") (fun p H4 f4 s4 h4=>?_)
  walk_at "wh"
  exact q p H4 (s03.free f4) (s03.trans s4) h4
@[irreducible] def zd2:Sp:=fun vs H Q _=>∃ (b:Addr) (v u:V),vs=[.ref b,v,u]/\((∃ j,BadB H b j/\∀ t H',H t=none->Same H H'->H' t=some (.tup [.str "battle",.int j])->Q (.ref t) H') ∨
 (∃ (l:Addr) (ps:List Addr) (a c:Nat) (fs:List Fd) (d d':PyData),zq3 H b l ps a c fs/\OkB a c fs/\(∀ f∈fs,f.Bd a c)/\ShV H v d/\sml d=true/\ShV H u d'/\sml d'=true/\(ownD a fs.length d&&ownD c fs.length d')=false/\∀ t H',H t=none->Same H H'->H' t=some (.tup [.str "mix",.non])->Q (.ref t) H'))
theorem zas3 {H:Hp}{b:Addr}{v u:V}{j:Int}{Q:VK}{E:XK}(B:BadB H b j) (q:∀ t H',H t=none->Same H H'->H' t=some (.tup [.str "battle",.int j])->Q (.ref t) H'):zd2 [.ref b,v,u] H Q E:=by unfold zd2;exact⟨b,v,u,rfl,.inl ⟨j,B,q⟩⟩
theorem zad4 {H:Hp}{b l:Addr}{ps:List Addr}{a c:Nat}{fs:List Fd}{v u:V}{d d':PyData}{Q:VK}{E:XK}(B:zq3 H b l ps a c fs) (O:OkB a c fs) (D:∀ f∈fs,f.Bd a c) (hv:ShV H v d) (hs:sml d=true) (hv':ShV H u d') (hs':sml d'=true) (o:(ownD a fs.length d&&ownD c fs.length d')=false) (q:∀ t H',H t=none->Same H H'->H' t=some (.tup [.str "mix",.non])->Q (.ref t) H'):zd2 [.ref b,v,u] H Q E:=by unfold zd2;exact⟨b,v,u,rfl,.inr ⟨l,ps,a,c,fs,d,d',B,O,D,hv,hs,hv',hs',o,q⟩⟩
theorem zaf3 {f:Addr}{fd:FuncData}(F:Fun K "_law_caught_by" "_law_caught_by" zi3 f fd) (N:Nm mg) (zcp2:Def P w K mg base CX0 1 "_law_kind_of" ["_law_caught"] (ze6 zcl5 zcl6)) (zcn7:Def P w K mg base (CXR P w) 11 "mixed_gain" ["battle","one","other"] (zd7 zcl5 zcl6)) (Z:Cz K mg base zcl8 zcl5 zcm7 zcl6 zcl9 zcm8 zcm2 zcm0 zcm1 zcm9 zcn0 zcn3 zcn1 zcm3 zcm6):FnOk P w K mg base CX0 12 f fd ["_law_battle","_law_one","_law_other"] zd2:=by
 refine F.ok zr1 (fun vs H Q E h=>by unfold zd2 at h;obtain⟨_,_,_,rfl,_⟩:=h;rfl) (fun cdv A outer s H vs Q E hr h=>?_)
 unfold zd2 at h
 obtain⟨b,v,u,rfl,h⟩:=h
 have hu:=hu40 hr
 refine⟨_,(za4 (psS (i:=3) zr1.nd zaz9)
   (za4 (psTry (K:=K) (ke:=4) (ky:=3) rfl zr1.nd Z.g_HostError (psxOne (zch6 zcn7 hr (za0 (pq 0) (za0 (pq 1) (za0 (pq 2) za1))))))
   (za4 (psIf (ptC (oEqK (K:=K) rfl (by exact hu)) (pD zcp2 hr zb5 (za0 (pq 3) za1)) zg5) (za6 (zb0 (zh2 (za0 zg5 (za0 (peFldE (K:=K) rfl (pq 3)) za1))))) zc2)
   (za6 (zb0 (zh2 (za0 (pD zcp2 hr zb5 (za0 (pq 3) za1)) (za0 zaz9 za1)))))))),?_⟩
 rcases h with ⟨j,B,q⟩|⟨l,ps,a,c,fs,d,d',B,O,D,hv,hs,hv',hs',o,q⟩
 ·walk_at "wh"
  refine zbc1 B (fun d H0 f0 s0 h0=>zbe9 Z.m_NoBattle (fun ea H1 f1 s1 h1=>?_))
  have h01:=s1 _ _ h0
  refine zah6 (.inr ⟨d,_,h1,h01⟩) (fun H2 s2=>?_)
  refine zad2 rfl ?_
  refine zch4 (v:=.int j) (s2 _ _ h1) (s2 _ _ h01) rfl Z.k_NoBattle Z.hd_NoBattle Z.z_NoBattle.nf ?_
  refine zb7 (fun t H3 f3 s3 h3=>?_)
  walk_at "wh"
  have s02:=(s0.trans s1).trans s2
  exact q t H3 (s02.free f3) (s02.trans s3) h3
 ·walk_at "wh"
  refine zbi3 B O D hv hs hv' hs' o (fun H0 s0=>zbe9 Z.m_NoMix (fun ea H1 f1 s1 h1=>?_))
  refine zac2 (.inl h1) (fun H2 s2=>?_)
  refine zy6 (by decide) ?_
  refine zac2 (.inl (s2 _ _ h1)) (fun H3 s3=>?_)
  refine zb7 (fun t H4 f4 s4 h4=>?_)
  walk_at "wh"
  have s03:=((s0.trans s1).trans s2).trans s3
  exact q t H4 (s03.free f4) (s03.trans s4) h4
theorem ze3.rm {H:Hp}{m z:Addr}{ts:List (Addr×Addr)}{ms:List (List Int×Int)}(M:ze3 H m ts ms) (n:m≠z) (o:Off z ts):ze3 (G.rm z H) m ts ms:=
 ⟨zf6 n M.out,M.len,fun i t x h1 h2=>⟨zf6 (o t (zcv1 h1)).1 (M.part i t x h1 h2).1,zf6 (o t (zcv1 h1)).2 (M.part i t x h1 h2).2⟩⟩
theorem ze3.cat {H:Hp}{m m' p:Addr}{ts ts':List (Addr×Addr)}{ms ms':List (List Int×Int)}(M:ze3 H m ts ms) (M':ze3 H m' ts' ms') (hp:H p=some (.lst ((ts.map fun t=>V.ref t.1)++ts'.map fun t=>V.ref t.1))):ze3 H p (ts++ts') (ms++ms'):=by
 refine⟨by rw[hp,zcx8],by rw[zcv9,zcv9,M.len,M'.len],fun i t x h1 h2=>?_⟩
 have l:=M.len
 by_cases hi:i<ts.length
 ·rw[zcy4 hi] at h1
  rw[zcy4 (by walk_at "om")] at h2
  exact M.part i t x h1 h2
 ·rw[zcy8 (by walk_at "om")] at h1
  rw[zcy8 (by walk_at "om"),← l] at h2
  exact M'.part _ t x h1 h2
theorem ze3.sub {H:Hp}{m p:Addr}{ts ts':List (Addr×Addr)}{ms ms':List (List Int×Int)}(M:ze3 H m ts ms) (hp:H p=some (.lst (ts'.map fun t=>V.ref t.1))) (hl:ts'.length=ms'.length) (h:∀ (i:Nat) t x,ts'[i]?=some t->ms'[i]?=some x->∃ j:Nat,ts[j]?=some t/\ms[j]?=some x):ze3 H p ts' ms':=
 ⟨hp,hl,fun i t x h1 h2=>by
  obtain⟨j,g1,g2⟩:=h i t x h1 h2
  exact M.part j t x g1 g2⟩
theorem zbx5 {ms:List (List Int×Int)}(hl:ms.length<=1000) (h:∀ x∈ms,x.1.length<=1000):sml (zv1 ms)=true:=by
 refine (okD.list (n:=2) (by rw[zcu6];omega) fun d hd=>?_).1
 obtain⟨x,hx,rfl⟩:=zcx6.mp hd
 have xl:=h x hx
 refine okD.tuple (n:=1) (by show 2<=1000;decide) fun e he=>?_
 simp only[zcw3,zcx3,or_false] at he
 rcases he with rfl|rfl
 ·refine okD.list (n:=0) (by rw[zcu6];omega) fun e he=>?_
  obtain⟨n,_,rfl⟩:=zcx6.mp he
  exact⟨rfl,rfl,zcz3 _⟩
 ·exact⟨rfl,rfl,zcz3 _⟩
theorem own_no {H:Hp}{m:Addr}{ts:List (Addr×Addr)}{ms:List (List Int×Int)}{h f:Nat}(M:ze3 H m ts ms) {x:List Int×Int}(hx:x∈ms) (ne:¬ (x.1.length=f/\x.1.sum=h)):ownD h f (zv1 ms)=false:=by
 cases e:ownD h f (zv1 ms) with
 | false=>rfl
 | true=>
  obtain⟨em,eh,ef⟩:=zbs6 e
  obtain⟨_,_,_,_,_,_,_,ok⟩:=zah7 M.sh em
  rw[zae7,ef,eh] at ok
  have:=ok x hx
  exact absurd ⟨this.2.1,this.2.2.1⟩ ne
theorem zau1 {ms:List (List Int×Int)}{h f:Nat}(O:OkS ms h f) (hh:h<=40) (hf:f<=8):ownD h f (zv1 ms)=true:=by
 obtain⟨em,_⟩:=zbn5 O ⟨by walk_at "om",by walk_at "om"⟩ hf
 unfold ownD
 rw[em,zcy9]
 obtain⟨x0,ex0⟩:∃ x,ms[0]?=some x:=⟨_,zcu7 (by have:=O.ne;omega)⟩
 obtain⟨nn,l0,s0,_⟩:=O.all x0 (zcv1 ex0)
 have e1:(zc6 (zv1 ms)).getD 0 .none=zl7 x0:=by
  show (ms.map zl7).getD 0 .none=_
  exact getD_some (by rw[zcu9,ex0];rfl)
 rw[e1]
 unfold zx9
 have e2:zak5 (zq5 (zl7 x0))=x0.1:=zu1 x0.1 x0.2
 have e3:zv3 (zq5 (zl7 x0))=true:=by
  show (x0.1.map PyData.int).all (zr0 0)=true
  rw[zdb3]
  exact zcx1.mpr fun y hy=>decide_eq_true (nn y hy)
 rw[e2,e3,l0,s0,decide_eq_true rfl,decide_eq_true rfl];rfl
def OddM (R:Hp) (h f:Nat) (v:V):Prop:=∃ d,ShV R v d/\sml d=true/\ownD h f d=false
theorem OddM.same {R R':Hp}{h f:Nat}{v:V}(o:OddM R h f v) (s:Same R R'):OddM R' h f v:=by
 obtain⟨d,a,b,c⟩:=o
 exact⟨d,a.same s,b,c⟩
theorem OddM.mk {R:Hp}{h f:Nat}{m:Addr}{ts:List (Addr×Addr)}{ms:List (List Int×Int)}(M:ze3 R m ts ms) (hl:ms.length<=1000) (hp:∀ x∈ms,x.1.length<=1000) {x:List Int×Int}(hx:x∈ms) (ne:¬ (x.1.length=f/\x.1.sum=h)):OddM R h f (.ref m):=⟨_,M.sh,zbx5 hl hp,own_no M hx ne⟩
@[irreducible] def zd8:Sp:=fun vs H Q _=>∃ (a:Addr) (b:Int) (h f:Nat),vs=[.ref a,.int h,.int f]/\zc1 H a b/\b<=40000/\h<=10/\(1<=f/\f<=5)/\∀ r v1 v2 v3 v4 H',Chg a H H'->zc1 H' a (b+10000)->r≠a->H' r=some (.lst [v1,v2,v3,v4])->(∀ v∈[v1,v2,v3,v4],OddM (rm a H') h f v)->Q (.ref r) H'
theorem zaa9 {H:Hp}{a:Addr}{b:Int}{h f:Nat}{Q:VK}{E:XK}(L:zc1 H a b) (hb:b<=40000) (h1:h<=10) (h2:1<=f) (h3:f<=5) (q:∀ r v1 v2 v3 v4 H',Chg a H H'->zc1 H' a (b+10000)->r≠a->H' r=some (.lst [v1,v2,v3,v4])->(∀ v∈[v1,v2,v3,v4],OddM (rm a H') h f v)->Q (.ref r) H'):zd8 [.ref a,.int h,.int f] H Q E:=by
 unfold zd8;exact⟨a,b,h,f,rfl,L,hb,h1,⟨h2,h3⟩,q⟩
theorem take1 {α:Type}{xs:List α}{x:α}(e:xs[0]?=some x):xs.take 1=[x]:=by
 cases xs with
 | nil=>simp at e
 | cons y ys=>simp at e;subst e;rfl
set_option maxHeartbeats 0 in
theorem zac0 {f:Addr}{fd:FuncData}(F:Fun K "_law_other_mixes" "_law_other_mixes" zf9 f fd) (N:Nm mg) (zcl7:Def P w K mg base CX0 2 "_law_draw" ["_law_left","_law_base"] zd5) (zcm5:Def P w K mg base CX0 4 "_law_drawn_mix" ["_law_left","_law_hosts","_law_many","_law_most"] ze1):FnOk P w K mg base CX0 5 f fd ["_law_left","_law_hosts","_law_many"] zd8:=by
 refine F.ok zk7 (fun vs H Q E h=>by unfold zd8 at h;obtain⟨_,_,_,_,rfl,_⟩:=h;rfl) (fun cdv A outer s H vs Q E hr h=>?_)
 unfold zd8 at h
 obtain⟨a,b,h,f,rfl,L,hb,h1,⟨h2,h3⟩,q⟩:=h
 have hu:=hu40 hr
 refine⟨_,(za4 (psS (i:=3) zk7.nd (pD zcm5 hr zb5 (za0 (pq 0) (za0 (zb4 oAdd (zb4 oAdd (pq 1) za2) (pD zcl7 hr zb5 (za0 (pq 0) (za0 za2 za1)))) (za0 (pq 2) (za0 za2 za1))))))
   (za4 (psS (i:=4) zk7.nd (pD zcm5 hr zb5 (za0 (pq 0) (za0 (pq 1) (za0 (zb4 oAdd (pq 2) za2) (za0 za2 za1))))))
   (za4 (psS (i:=5) zk7.nd (zb4 oAdd (pD zcm5 hr zb5 (za0 (pq 0) (za0 (pq 1) (za0 (pq 2) (za0 za2 za1))))) (zj4 (slK (K:=K) rfl) (pq 3) zn8 (zt0 za2))))
   (za6 (zb0 (zi6 (za0 (pq 3) (za0 (pq 4) (za0 (pq 5) (za0 (peRv (K:=K) rfl (pq 5)) za1)))))))))),?_⟩
 refine zd3 L (by walk_at "om") (by walk_at "om") (by walk_at "om") (fun d H1 d0 d1 c1 L1=>?_)
 obtain⟨n,en⟩:∃ n:Nat,(h:Int)+1+d=n:=⟨(h+1+d).toNat,by walk_at "om"⟩
 walk_at "wh"
 rw[en]
 refine zs6 (g:=3) L1 (by walk_at "om") (by walk_at "om") ⟨by walk_at "om",by walk_at "om"⟩ h2 (by walk_at "om") (fun m1 ts1 ms1 H2 f2 c2 L2 M2 n2 O2 _ _ K2 _ l2=>?_)
 have R2:=M2.rm n2 O2
 walk_at "wh"
 rw[show (f:Int)+1=((f+1:Nat):Int) by push_cast;rfl]
 refine zs6 (g:=3) L2 (by walk_at "om") (by walk_at "om") ⟨by walk_at "om",by walk_at "om"⟩ (by walk_at "om") (by walk_at "om") (fun m2 ts2 ms2 H3 f3 c3 L3 M3 n3 O3 _ _ K3 _ l3=>?_)
 have R3:=M3.rm n3 O3
 refine zs6 (g:=3) L3 (by walk_at "om") (by walk_at "om") ⟨by walk_at "om",by walk_at "om"⟩ h2 (by walk_at "om") (fun m3 ts3 ms3 H4 f4 c4 L4 M4 n4 O4 _ _ K4 _ l4=>?_)
 have R4:=M4.rm n4 O4
 have R2':=(R2.same (Chg.rm c3)).same (Chg.rm c4)
 have R3':=R3.same (Chg.rm c4)
 obtain⟨x1,ex1⟩:∃ x,ms1[0]?=some x:=⟨_,zcu7 (by have:=K2.1;omega)⟩
 obtain⟨t1,et1⟩:∃ x,ts1[0]?=some x:=⟨_,zcu7 (by have:=K2.1;have:=M2.len;omega)⟩
 obtain⟨x2,ex2⟩:∃ x,ms2[0]?=some x:=⟨_,zcu7 (by have:=K3.1;omega)⟩
 have k1:=K2.2.2.2 x1 (zcv1 ex1)
 have k2:=K3.2.2.2 x2 (zcv1 ex2)
 refine zam7 (SqL.of (zm1 R2'.out).2) (fun p5 H5 f5 s5 h5=>?_)
 rw[zw0 (by decide),show (1:Int).toNat=1 from rfl,← List.map_take,take1 et1] at h5
 have R5:=R4.same (Same.rm s5)
 refine zp9 (zm1 R5.out).2 h5 (by rw[zcu6,sizeLine_eq,R4.len];show _+1<=_;omega) (fun p6 H6 f6 s6 h6=>?_)
 have s46:=s5.trans s6
 have n6:p6≠a:=(L4.same s5).ne f6
 have n5:p5≠a:=L4.ne f5
 have S6:ze3 (rm a H6) p5 [t1] [x1]:=(R2'.same (Same.rm s46)).sub (Same.rm s6 _ _ (zf6 n5 h5)) rfl (fun i t x g1 g2=>by
  match i with
  | 0=>cases g1;cases g2;exact⟨0,et1,ex1⟩
  | i+1=>simp at g1)
 have C6:ze3 (rm a H6) p6 (ts3++[t1]) (ms3++[x1]):=(R4.same (Same.rm s46)).cat S6 (zf6 n6 h6)
 refine rv_rd (SqL.of (zm1 C6.out).2) (fun p7 H7 f7 s7 h7=>?_)
 have n7:p7≠a:=(L4.same s46).ne f7
 have C7:=C6.same (Same.rm s7)
 have V7:ze3 (rm a H7) p7 (ts3++[t1]).reverse (ms3++[x1]).reverse:=C7.sub (zf6 n7 (by rw[h7,List.map_reverse])) (by rw[zdc8,zdc8,C7.len]) (fun i t x g1 g2=>by
  have hi:i<(ts3++[t1]).length:=by have:=(zcv3.mp g1).1;rwa [zdc8] at this
  rw[List.getElem?_reverse hi] at g1
  rw[List.getElem?_reverse (by rw[← C7.len];exact hi),← C7.len] at g2
  exact⟨_,g1,g2⟩)
 refine zc5 (fun r H8 f8 s8 h8=>?_)
 have s48:=(s46.trans s7).trans s8
 walk_at "wh"
 have ne1:¬ (x1.1.length=f/\x1.1.sum=h):=fun z=>by have:=k1.2.2.1;omega
 have len:∀ {h f:Int}{ms:List (List Int×Int)},OkM h f ms->f<=8->∀ x∈ms,x.1.length<=1000:=fun {h f ms} K hf x hx=>by have:=(K.2.2.2 x hx).2.1;omega
 have lenC:∀ x∈ms3++[x1],x.1.length<=1000:=fun x hx=>by
  rcases zcy0.mp hx with hx|hx
  ·exact len K4 (by walk_at "om") x hx
  ·rw[zcz7.mp hx];exact len K2 (by walk_at "om") x1 (zcv1 ex1)
 refine q r _ _ _ _ H8 ((((c1.trans c2).trans c3).trans c4).same s48) ((L4.same s48).up (by walk_at "om")) ((L4.same (s46.trans s7)).ne f8) h8 (fun v hv=>?_)
 simp only[zcw3,zcx3,or_false] at hv
 rcases hv with rfl|rfl|rfl|rfl
 ·exact OddM.mk (R2'.same (Same.rm s48)) (by walk_at "om") (len K2 (by walk_at "om")) (zcv1 ex1) ne1
 ·exact OddM.mk (R3'.same (Same.rm s48)) (by walk_at "om") (len K3 (by push_cast;omega)) (zcv1 ex2) (fun z=>by have:=k2.2.1;push_cast at this;omega)
 ·exact OddM.mk (C7.same (Same.rm s8)) (by rw[zcv9,zcw7];omega) lenC (zcz0 _ (zcz7.mpr rfl)) ne1
 ·exact OddM.mk (V7.same (Same.rm s8)) (by rw[zdc8,zcv9,zcw7];omega) (fun x hx=>lenC x (List.mem_reverse.mp hx)) (List.mem_reverse.mpr (zcz0 _ (zcz7.mpr rfl))) ne1
def spLaw (K:zcu8):Sp:=fun vs H Q _=>∃ (a:Addr) (ns:List Int),vs=[.ref a]/\SqL K H a (ns.map V.int)/\ns.length<=63/\∀ H',Q (.bl true) H'
theorem zaz0 {ns:List Int}(h:ns.length<=63):[V.int 3].length+(cutV (ns.map V.int) none (some 12)).length<=sizeLine:=by
 rw[zw0 (by decide),zdb6,zcu6,sizeLine_eq,zcw7];omega
theorem zax9 {ns:List Int}{i:Nat}{x:V}(h:([V.int 3]++cutV (ns.map V.int) none (some 12))[i]?=some x):∃ z,x=.int z:=by
 rw[zw0 (by decide)] at h
 rcases zcy0.mp (zcv1 h) with h|h
 ·exact⟨3,by simpa using h⟩
 ·obtain⟨z,_,rfl⟩:=zcx6.mp (List.mem_of_mem_take h)
  exact⟨z,rfl⟩
theorem eqT2 {K:zcu8}{H:Hp}{p q:Addr}{x y:V}(hp:H p=some (.tup [x,y])) (hq:H q=some (.tup [x,y])) (fx:zu8 x=true) (fy:zu8 y=true):EqR K H 1 (.ref p) (.ref q) true:=by
 have flat:∀ v:V,zu8 v=true->EqR K H 0 v v true:=fun v hv=>by
  have:=EqR.flat (K:=K) (H:=H) (n:=0) (x:=v) (y:=v) hv hv
  rwa [zac9 hv] at this
 exact EqR.tup (K:=K) (H:=H) (n:=0) (fun _=>true) (SqT.of hp) (SqT.of hq) (fun j x y hx hy=>by
  match j with
  | 0=>cases hx;cases hy;exact flat _ fx
  | 1=>cases hx;cases hy;exact flat _ fy
  | j+2=>simp at hx)
theorem ze3.eq {K:zcu8}{H:Hp}{m m':Addr}{ts ts':List (Addr×Addr)}{ms:List (List Int×Int)}(M:ze3 H m ts ms) (M':ze3 H m' ts' ms):EqR K H 5 (.ref m) (.ref m') true:=by
 have flat:∀ (n:Nat) (v:V),zu8 v=true->EqR K H n v v true:=fun n v hv=>by
  have:=EqR.flat (K:=K) (H:=H) (n:=n) (x:=v) (y:=v) hv hv
  rwa [zac9 hv] at this
 refine EqR.allT (SqL.of M.out) (SqL.of M'.out) (by rw[zcu6,zcu6,M.len,M'.len]) fun i u v hu hv=>?_
 obtain⟨t,x,rfl,e1,e2,h1,h2⟩:=M.elt hu
 obtain⟨t',x',rfl,e1',e2',h1',h2'⟩:=M'.elt hv
 rw[e2] at e2'
 cases e2'
 exact EqR.tup (K:=K) (H:=H) (n:=3) (fun _=>true) (SqT.of h1) (SqT.of h1') (fun j a b ha hb=>by
  match j with
  | 0=>
   cases ha;cases hb
   refine EqR.allT (SqL.of h2) (SqL.of h2') rfl fun k c d hc hd=>?_
   rw[hc] at hd
   cases hd
   rw[zcu9] at hc
   obtain⟨z,_,rfl⟩:=zcv4.mp hc
   exact flat _ _ rfl
  | 1=>cases ha;cases hb;exact flat _ _ rfl
  | j+2=>simp at ha)
theorem FlX.batR {z:Addr}{H:Hp}{b l:Addr}{ps:List Addr}{a c:Nat}{fs:List Fd}(F:FlX z H l ps (fs.map (toFx a c))) (hb:H b=some (.tup [.int a,.int c,.ref l])) (ok:∀ f∈fs,f.Ok) (n1:b≠z) (n2:l≠z):zq3 (G.rm z H) b l ps a c fs:=by
 refine⟨zf6 n1 hb,zf6 n2 F.lst,by have:=F.len;rwa [zcu6] at this,fun i p f h1 h2=>⟨?_,ok f (zcv1 h2)⟩⟩
 have:=(F.fld i p (toFx a c f) h1 (by rw[zcu9,h2];rfl)).1
 exact ofFx (this.same (fun b o e=>zf6 (zm1 e).1 (zm1 (zm1 e).2).2))
structure W73 (R:Hp) (bt l m1 m2 b2 l2 k1 k2 kp:Addr) (ps ps2:List Addr) (t1 t2:List (Addr×Addr)) (n m:Nat) (fs:List Fd) (x1 x2:List (List Int×Int)):Prop where
 bat:zq3 (rm m1 (rm m2 R)) bt l ps n m fs
 one:ze3 (rm m2 R) m1 t1 x1
 two:ze3 (rm m1 R) m2 t2 x2
 cop:zq3 R b2 l2 ps2 n m fs
 c1:ze3 R k1 t1 x1
 c2:ze3 R k2 t2 x2
 kept:R kp=some (.lst [.ref b2,.ref k1,.ref k2])
theorem W73.same {R R':Hp}{bt l m1 m2 b2 l2 k1 k2 kp:Addr}{ps ps2:List Addr}{t1 t2:List (Addr×Addr)}{n m:Nat}{fs:List Fd}{x1 x2:List (List Int×Int)}(W:W73 R bt l m1 m2 b2 l2 k1 k2 kp ps ps2 t1 t2 n m fs x1 x2) (s:Same R R'):W73 R' bt l m1 m2 b2 l2 k1 k2 kp ps ps2 t1 t2 n m fs x1 x2:=
 ⟨W.bat.same (Same.rm (Same.rm s)),W.one.same (Same.rm s),W.two.same (Same.rm s),W.cop.same s,W.c1.same s,W.c2.same s,s _ _ W.kept⟩
theorem OkM.g {h f:Nat}{ms:List (List Int×Int)}(K:OkM h f ms) (w:zc9 ms<=10 ^ 30) (l:ms.length<=10):OkG ms h f:=
 ⟨⟨K.1,by have:=K.2.2.1;omega,fun x hx=>⟨(K.2.2.2 x hx).1,by have:=(K.2.2.2 x hx).2.1;omega,(K.2.2.2 x hx).2.2.1,(K.2.2.2 x hx).2.2.2⟩⟩,by walk_at "om",by walk_at "om"⟩
theorem OkG.good {h f:Nat}{ms:List (List Int×Int)}(K:OkG ms h f):zbt8 (zv1 ms):=⟨by show (ms.map zl7).length<64;rw[zcu6];exact K.2.1,by rw[zae7];exact K.2.2⟩
theorem OkG.sml {h f:Nat}{ms:List (List Int×Int)}(K:OkG ms h f) (hf:f<=8):sml (zv1 ms)=true:=zbx5 (by have:=K.2.1;omega) fun x hx=>by have:=(K.1.all x hx).2.1;omega
theorem OkG.snoc {h f:Nat}{ms:List (List Int×Int)}{x:List Int×Int}(K:OkM h f ms) (w:zc9 ms<=10 ^ 30) (l:ms.length<=10) (hx:x∈ms):OkG (ms++[(x.1,3)]) h f:=by
 have G:=OkM.g K w l
 refine⟨⟨by rw[zcv9];have:=G.1.ne;omega,G.1.f1,fun y hy=>?_⟩,by rw[zcv9,zcw7];omega,by rw[zab4];show zc9 ms+3<=_;omega⟩
 rcases zcy0.mp hy with hy|hy
 ·exact G.1.all y hy
 ·rw[zcz7.mp hy]
  have:=G.1.all x hx
  exact⟨this.1,this.2.1,this.2.2.1,by show (1:Int)<=3;decide⟩
theorem OkG.cons {h f:Nat}{ms:List (List Int×Int)}{x:List Int×Int}(K:OkM h f ms) (w:zc9 ms<=10 ^ 30) (l:ms.length<=10) (hx:x∈ms):OkG ((x.1,2) :: ms) h f:=by
 have G:=OkM.g K w l
 refine⟨⟨by rw[zcx0];omega,G.1.f1,fun y hy=>?_⟩,by rw[zcx0];omega,by unfold zc9;rw[zcy2,zda0];show 2+zc9 ms<=_;omega⟩
 rcases zcw3.mp hy with rfl|hy
 ·have:=G.1.all x hx
  exact⟨this.1,this.2.1,this.2.2.1,by show (1:Int)<=2;decide⟩
 ·exact G.1.all y hy
theorem ze3.consP {H H':Hp}{m p q:Addr}{ts:List (Addr×Addr)}{ms:List (List Int×Int)}{x:List Int×Int}(M:ze3 H m ts ms) (c:Chg m H H') (o:Off m ts) (h':H' m=some (.lst (.ref p :: ts.map fun t=>V.ref t.1))) (hp:H' p=some (.tup [.ref q,.int x.2])) (hq:H' q=some (.lst (x.1.map V.int))):ze3 H' m ((p,q) :: ts) (x :: ms):=by
 refine⟨h',by rw[zcx0,zcx0,M.len],fun i t y h1 h2=>?_⟩
 match i with
 | 0=>cases h1;cases h2;exact⟨hp,hq⟩
 | i+1=>
  have h1:ts[i]?=some t:=h1
  have:=o t (zcv1 h1)
  exact⟨c _ _ this.1 (M.part i t y h1 h2).1,c _ _ this.2 (M.part i t y h1 h2).2⟩
theorem zaj5 {t u:Int}:decide (lowT t u=lowT t u/\lowB t u=lowB t u)=true:=decide_eq_true ⟨rfl,rfl⟩
set_option maxHeartbeats 0 in
theorem ok_law {f:Addr}{fd:FuncData}(F:Fun K "law" "law" zaq9 f fd) (N:Nm mg) (zcp9:Def P w K mg base CX0 4 "_law_bent_one" ["_law_left","_law_battle"] zg3) (zcn4:Def P w K mg base CX0 12 "_law_caught_by" ["_law_battle","_law_one","_law_other"] zd2) (zcr0:Def P w K mg base CX0 1 "_law_copied" ["_law_battle"] zi7) (zco3:Def P w K mg base CX0 5 "_law_drawn_battle" ["_law_left","_law_most","_law_many"] zd4) (zcm5:Def P w K mg base CX0 4 "_law_drawn_mix" ["_law_left","_law_hosts","_law_many","_law_most"] ze1) (zcp6:Def P w K mg base CX0 2 "_law_due_of" ["_law_battle","_law_one","_law_other"] zi8) (zcq0:Def P w K mg base CX0 2 "_law_is_it" ["_law_told","_law_due"] zk4) (zcr1:Def P w K mg base CX0 1 "_law_opened" ["_law_cell"] zj1) (zcn5:Def P w K mg base CX0 5 "_law_other_mixes" ["_law_left","_law_hosts","_law_many"] zd8) (zcn7:Def P w K mg base (CXR P w) 11 "mixed_gain" ["battle","one","other"] (zd7 zcl5 zcl6)):FnOk P w K mg base CX0 13 f fd ["_law_script"] (spLaw K):=by
 refine F.ok zu6 (fun vs H Q E h=>by obtain⟨n,k,rfl,_⟩:=h;rfl) (fun cdv A outer s H vs Q E hr h=>?_)
 obtain⟨a,ns0,rfl,hS,hlen,k⟩:=h
 have hu:=hu40 hr
 refine⟨_,(za4 (zac3 PassesOwn.never rfl (zj2 (K:=K) rfl (zb4 oAdd (zi6 (za0 za2 za1)) (zj4 (slK (K:=K) rfl) (pq 0) zn8 (zt0 za2)))) (za7 (i:=1) zu6.nd rfl (by first|exact Or.inl rfl|exact Or.inr rfl)) (za4 (psS (i:=2) zu6.nd (pD zcr1 hr zb5 (za0 (pq 1) za1)))
   (za4 (psS (i:=3) zu6.nd (pD zco3 hr zb5 (za0 (pq 2) (za0 za2 (za0 za2 za1)))))
   (za4 (zag2 (pq 3) (zk3 (K:=K) (n:=3) rfl rfl (zb1 (za7 (i:=4) zu6.nd rfl (by first|exact Or.inl rfl|exact Or.inr rfl)) (zb1 (za7 (i:=5) zu6.nd rfl (by first|exact Or.inl rfl|exact Or.inr rfl)) (zb1 (za7 (i:=6) zu6.nd rfl (by first|exact Or.inl rfl|exact Or.inr rfl)) zk1)))))
   (za4 (psS (i:=7) zu6.nd (pD zcm5 hr zb5 (za0 (pq 2) (za0 (pq 4) (za0 (pB (zq4 (K:=K) rfl) N.len_ zj3 (za0 (pq 6) za1)) (za0 za2 za1))))))
   (za4 (psS (i:=8) zu6.nd (pD zcm5 hr zb5 (za0 (pq 2) (za0 (pq 5) (za0 (pB (zq4 (K:=K) rfl) N.len_ zj3 (za0 (pq 6) za1)) (za0 za2 za1))))))
   (za4 (psS (i:=9) zu6.nd (zi6 (za0 (pD zcr0 hr zb5 (za0 (pq 3) za1)) (za0 (pT (zaa4 (K:=K) rfl) N.list_ zn7 (za0 (pq 7) za1)) (za0 (pT (zaa4 (K:=K) rfl) N.list_ zn7 (za0 (pq 8) za1)) za1)))))
   (za4 (zac3 PassesOwn.never rfl (zac1 N.range_ (za0 za2 za1)) (za7 (i:=10) zu6.nd rfl (by first|exact Or.inl rfl|exact Or.inr rfl)) (za6 (psIf (zm0 (ptV (pD zcq0 hr zb5 (za0 (pD zcn7 hr zce9 (za0 (pq 3) (za0 (pq 7) (za0 (pq 8) za1)))) (za0 (pD zcp6 hr zb5 (za0 (pq 3) (za0 (pq 7) (za0 (pq 8) za1)))) za1))))) (za6 (zb0 zx8)) zc2)))
   (za4 (zac3 PassesOwn.never rfl (zj2 (K:=K) rfl (pD zcn5 hr zb5 (za0 (pq 2) (za0 (pq 4) (za0 (pB (zq4 (K:=K) rfl) N.len_ zj3 (za0 (pq 6) za1)) za1))))) (za7 (i:=11) zu6.nd rfl (by first|exact Or.inl rfl|exact Or.inr rfl)) (za6 (psIf (ptC (oNeK (K:=K) rfl (by exact hu)) (pD zcn4 hr zb5 (za0 (pq 3) (za0 (pq 11) (za0 (pq 8) za1)))) (zh2 (za0 zg5 (za0 zaz9 za1)))) (za6 (zb0 zx8)) zc2)))
   (za4 (zac3 PassesOwn.never rfl (zj2 (K:=K) rfl (pD zcn5 hr zb5 (za0 (pq 2) (za0 (pq 5) (za0 (pB (zq4 (K:=K) rfl) N.len_ zj3 (za0 (pq 6) za1)) za1))))) (za7 (i:=11) zu6.nd rfl (by first|exact Or.inl rfl|exact Or.inr rfl)) (za6 (psIf (ptC (oNeK (K:=K) rfl (by exact hu)) (pD zcn4 hr zb5 (za0 (pq 3) (za0 (pq 7) (za0 (pq 11) za1)))) (zh2 (za0 zg5 (za0 zaz9 za1)))) (za6 (zb0 zx8)) zc2)))
   (za4 (zag2 (pD zcp9 hr zb5 (za0 (pq 2) (za0 (pq 3) za1))) (zk3 (K:=K) (n:=2) rfl rfl (zb1 (za7 (i:=12) zu6.nd rfl (by first|exact Or.inl rfl|exact Or.inr rfl)) (zb1 (za7 (i:=13) zu6.nd rfl (by first|exact Or.inl rfl|exact Or.inr rfl)) zk1))))
   (za4 (psIf (ptW (pwOr (ptC (oNeK (K:=K) rfl (by exact hu)) (pD zcn4 hr zb5 (za0 (pq 12) (za0 (zi6 za1) (za0 (pq 8) za1)))) (zh2 (za0 zg5 (za0 (pq 13) za1)))) (zaa8 (ptC (oNeK (K:=K) rfl (by exact hu)) (zi6 (za0 (pq 3) (za0 (pq 7) (za0 (pq 8) za1)))) (pq 9))))) (za6 (zb0 zx8)) zc2)
   (za4 (zr7 (zr4 (pq 7) (za0 (zh2 (za0 (pT (zaa4 (K:=K) rfl) N.list_ zn7 (za0 (zb8 (K:=K) rfl (zb8 (K:=K) rfl (pq 7) za2) za2) za1)) (za0 za2 za1))) za1)))
   (za4 (zr7 (zbj8 (K:=K) rfl (pq 8) (za0 za2 (za0 (zh2 (za0 (pT (zaa4 (K:=K) rfl) N.list_ zn7 (za0 (zb8 (K:=K) rfl (zb8 (K:=K) rfl (pq 8) (zaa3 uNeg za2)) za2) za1)) (za0 za2 za1))) za1))))
   (za6 (psIf (zm0 (ptV (pD zcq0 hr zb5 (za0 (pD zcn7 hr zce9 (za0 (pq 3) (za0 (pq 7) (za0 (pq 8) za1)))) (za0 (pD zcp6 hr zb5 (za0 (pq 3) (za0 (pq 7) (za0 (pq 8) za1)))) za1))))) (za6 (zb0 zx8)) zc2))))))))))))))))
   (za6 (zb0 zx8))),?_⟩
 refine zc5 (fun p1 H1 hf1 hs1 ha1=>?_)
 refine zam7 (hs1.seq hS) (fun p2 H2 hf2 hs2 ha2=>?_)
 refine zp9 (hs2 _ _ ha1) ha2 (zaz0 hlen) (fun p3 H3 hf3 hs3 ha3=>?_)
 refine zd0 ha3 ?_
 refine zp7 (xs:=[V.int 3]++cutV (ns0.map V.int) none (some 12)) (fun i σ H4=>∃ x1 x2 x3 x4 x5 x6 x7 x8 x9 x10 x11 x12 x13:Option V,σ=[some (.ref a),x1,x2,x3,x4,x5,x6,x7,x8,x9,x10,x11,x12,x13]/\Same H3 H4) ?_ ?_ ?_ ?_
 ·exact⟨_,_,_,_,_,_,_,_,_,_,_,_,_,rfl,Same.refl _⟩
 ·rintro i σ H4 _ ⟨_,_,_,_,_,_,_,_,_,_,_,_,_,_,h⟩
  exact SqL.of (h _ _ ha3)
 ·rintro i x σ H4 hi ⟨x1,x2,x3,x4,x5,x6,x7,x8,x9,x10,x11,x12,x13,rfl,s4⟩
  obtain⟨z,rfl⟩:=zax9 hi
  refine zbt9 (fun pl H5 f5 s5 L5=>?_)
  have fpl:H3 pl=none:=s4.free f5
  have s35:Same H3 H5:=s4.trans s5
  refine zal7 L5 (by walk_at "om") (fun bt l ps n m fs H6 c6 L6 B6 O D=>?_)
  have s36:=s35.chg fpl c6
  have o1:=O.1
  have o2:=O.2
  have B:=B6.same (zb9 pl H6)
  have bl:=B.len
  refine ze7 B.out ?_
  refine zh4 B.lst ?_
  rw[zcu6,bl]
  refine zs6 (g:=5) L6 (by walk_at "om") (by walk_at "om") ⟨by walk_at "om",by walk_at "om"⟩ (by walk_at "om") (by walk_at "om") (fun m1 t1 ms1 H7 f7 c7 L7 M7 n7 O7 P7 N7 K7 w7 l7=>?_)
  have B7:=(B6.same (Chg.rm c7)).same (zb9 pl H7)
  refine zh4 B7.lst ?_
  rw[zcu6,bl]
  refine zs6 (g:=5) L7 (by walk_at "om") (by walk_at "om") ⟨by walk_at "om",by walk_at "om"⟩ (by walk_at "om") (by walk_at "om") (fun m2 t2 ms2 H8 f8 c8 L8 M8 n8 O8 P8 N8 K8 w8 l8=>?_)
  have s37:=s36.chg fpl c7
  have s38:=s37.chg fpl c8
  have fm1:H3 m1=none:=s36.free f7
  have fm2:H3 m2=none:=s37.free f8
  have B8:=(B6.same (Chg.rm c7)).same (Chg.rm c8)
  have m12:m1≠m2:=za5 M7.out f8
  have off2:Off m1 t2:=fun t ht=>⟨Ne.symm (za5 M7.out (N8 t ht).1),Ne.symm (za5 M7.out (N8 t ht).2)⟩
  refine zbm4 L8.some (toBx B8 o1.1 o1.2) (by rw[zcu6];omega) (fun b2 l2 ps2 H9 s9 fl2 fb2 hb2 X9=>?_)
  have C9:=X9.batR hb2 B.oks (L8.ne fb2) (L8.ne fl2)
  have M79:=((M7.rm n7 O7).same (Chg.rm c8)).same (Same.rm s9)
  have M89:=(M8.rm n8 O8).same (Same.rm s9)
  refine zs0 (SqL.of (zm1 M79.out).2) (fun k1 H10 f10 s10 h10=>?_)
  have M8a:=M89.same (Same.rm s10)
  refine zs0 (SqL.of (zm1 M8a.out).2) (fun k2 H11 f11 s11 h11=>?_)
  refine zc5 (fun kp H12 f12 s12 h12=>?_)
  have s812:Same H8 H12:=((s9.trans s10).trans s11).trans s12
  have s912:Same H9 H12:=(s10.trans s11).trans s12
  have s312:=s38.trans s812
  have L12:=L8.same s812
  have L9:=L8.same s9
  have one12:ze3 (rm pl H12) m1 t1 ms1:=M79.same (Same.rm s912)
  have two12:ze3 (rm pl H12) m2 t2 ms2:=M89.same (Same.rm s912)
  have W12:W73 (rm pl H12) bt l m1 m2 b2 l2 k1 k2 kp ps ps2 t1 t2 n m fs ms1 ms2:=⟨
   B6.same (fun b o e=>by
    obtain⟨e1,e2⟩:=zm1 e
    have e7:=c7 _ _ e1 e2
    exact zf6 (za5 e2 f7) (zf6 (za5 e7 f8) (zf6 e1 (s812 _ _ (c8 _ _ e1 e7))))),
   (M7.rm n7 O7).same (fun b o e=>by
    obtain⟨e1,e2⟩:=zm1 e
    exact zf6 (za5 e2 f8) (zf6 e1 (s812 _ _ (c8 _ _ e1 e2)))),
   two12.rm (Ne.symm m12) off2,
   C9.same (Same.rm s912),
   one12.sub (zf6 (L9.ne f10) ((s11.trans s12) _ _ h10)) one12.len (fun i t x g1 g2=>⟨i,g1,g2⟩),
   two12.sub (zf6 ((L9.same s10).ne f11) (s12 _ _ h11)) two12.len (fun i t x g1 g2=>⟨i,g1,g2⟩),
   zf6 ((L9.same (s10.trans s11)).ne f12) h12⟩
  have G1:OkG ms1 n fs.length:=OkM.g K7 w7 l7
  have G2:OkG ms2 m fs.length:=OkM.g K8 w8 l8
  have y1:=zau1 G1.1 (by walk_at "om") (by walk_at "om")
  have y2:=zau1 G2.1 (by walk_at "om") (by walk_at "om")
  clear M79 M89 M8a one12 two12 X9 C9 B7 B8 s9 s10 s11 s12 h10 h11 h12 s912 hb2
  refine zt5 (by decide) (by decide) (by decide) (by decide) ?_
  refine zw1 (fun i σ H13=>∃ y10:Option V,σ=[some (.ref a),some (.int z),some (.ref pl),some (.ref bt),some (.int n),some (.int m),some (.ref l),some (.ref m1),some (.ref m2),some (.ref kp),y10,x11,x12,x13]/\Same H12 H13) ?_ ?_ ?_
  ·exact⟨_,rfl,Same.refl _⟩
  ·rintro j σ H13 hj ⟨y10,rfl,s13⟩
   have W13:=(W12.same (zb9 pl H12)).same s13
   have b13:=(W13.bat.same (zb9 _ _)).same (zb9 _ _)
   have o13:=W13.one.same (zb9 _ _)
   have t13:=W13.two.same (zb9 _ _)
   refine zbm0 b13 O D o13.sh (G1.sml (by walk_at "om")) t13.sh (G2.sml (by walk_at "om")) y1 y2 G1.good G2.good (fun p H14 f14 s14 h14=>?_)
   rw[zae7,zae7] at h14
   refine zau9 (b13.same s14) O D (o13.same s14) (t13.same s14) G1 G2 (fun p' H15 f15 s15 h15=>?_)
   refine zbi2 (s15 _ _ h14) h15 ?_
   rw[zaj5]
   refine zd6 (br_T ?_)
   walk_at "wh"
   exact⟨_,rfl,(s13.trans s14).trans s15⟩
  rintro σ H13 ⟨y10,rfl,s13⟩
  have W13:=W12.same (Same.rm s13)
  have L13:=L12.same s13
  have s313:=s312.trans s13
  have b13:=((W13.bat.same (zb9 _ _)).same (zb9 _ _)).same (zb9 _ _)
  clear W12 L12 s312
  refine zh4 b13.lst ?_
  rw[zcu6,bl]
  refine zaa9 L13 (by walk_at "om") (by walk_at "om") (by walk_at "om") (by walk_at "om") (fun r v1 v2 v3 v4 H14 c14 L14 nr hr' od=>?_)
  have W14:=W13.same (Chg.rm c14)
  have s314:=s313.chg fpl c14
  refine zd0 hr' ?_
  refine zp7 (xs:=[v1,v2,v3,v4]) (fun i σ Hx=>∃ y11:Option V,σ=[some (.ref a),some (.int z),some (.ref pl),some (.ref bt),some (.int n),some (.int m),some (.ref l),some (.ref m1),some (.ref m2),some (.ref kp),y10,y11,x12,x13]/\Same H14 Hx) ?_ ?_ ?_ ?_
  ·exact⟨_,rfl,Same.refl _⟩
  ·rintro j σ Hx _ ⟨_,_,sx⟩
   exact SqL.of (sx _ _ hr')
  ·rintro j v σ Hx hj ⟨y11,rfl,sx⟩
   obtain⟨d,hd,sd,nd⟩:=((od v (zcv1 hj)).same (zb9 _ _)).same sx
   have Wx:=(W14.same (zb9 pl H14)).same sx
   refine zad4 ((Wx.bat.same (zb9 _ _)).same (zb9 _ _)) O D hd sd (Wx.two.same (zb9 _ _)).sh (G2.sml (by walk_at "om")) (by rw[nd];rfl) (fun t Hy fy sy hy=>?_)
   refine zb7 (fun t' Hz fz sz hz=>?_)
   refine zav9 (eqT2 (sz _ _ hy) hz rfl rfl) ?_
   refine br_F ?_
   walk_at "wh"
   exact⟨_,rfl,(sx.trans sy).trans sz⟩
  rintro σ H15 ⟨y11,rfl,s15⟩
  have W15:=W14.same (Same.rm s15)
  have L15:=L14.same s15
  have s315:=s314.trans s15
  have b15:=((W15.bat.same (zb9 _ _)).same (zb9 _ _)).same (zb9 _ _)
  clear W13 W14 L13 L14 od
  refine zh4 b15.lst ?_
  rw[zcu6,bl]
  refine zaa9 L15 (by walk_at "om") (by walk_at "om") (by walk_at "om") (by walk_at "om") (fun r v1 v2 v3 v4 H16 c16 L16 nr hr' od=>?_)
  have W16:=W15.same (Chg.rm c16)
  have s316:=s315.chg fpl c16
  refine zd0 hr' ?_
  refine zp7 (xs:=[v1,v2,v3,v4]) (fun i σ Hx=>∃ y11:Option V,σ=[some (.ref a),some (.int z),some (.ref pl),some (.ref bt),some (.int n),some (.int m),some (.ref l),some (.ref m1),some (.ref m2),some (.ref kp),y10,y11,x12,x13]/\Same H16 Hx) ?_ ?_ ?_ ?_
  ·exact⟨_,rfl,Same.refl _⟩
  ·rintro j σ Hx _ ⟨_,_,sx⟩
   exact SqL.of (sx _ _ hr')
  ·rintro j v σ Hx hj ⟨y11,rfl,sx⟩
   obtain⟨d,hd,sd,nd⟩:=((od v (zcv1 hj)).same (zb9 _ _)).same sx
   have Wx:=(W16.same (zb9 pl H16)).same sx
   refine zad4 ((Wx.bat.same (zb9 _ _)).same (zb9 _ _)) O D (Wx.one.same (zb9 _ _)).sh (G1.sml (by walk_at "om")) hd sd (by rw[nd,Bool.and_false]) (fun t Hy fy sy hy=>?_)
   refine zb7 (fun t' Hz fz sz hz=>?_)
   refine zav9 (eqT2 (sz _ _ hy) hz rfl rfl) ?_
   refine br_F ?_
   walk_at "wh"
   exact⟨_,rfl,(sx.trans sy).trans sz⟩
  rintro σ H17 ⟨y12,rfl,s17⟩
  have W17:=W16.same (Same.rm s17)
  have L17:=L16.same s17
  have s317:=s316.trans s17
  clear W15 W16 L15 L16 od
  refine zba2 L17 (by walk_at "om") ((W17.bat.same (zb9 _ _)).same (zb9 _ _)) O (fun t bad kb H18 c18 L18 nt ht Bad=>?_)
  have W18:=W17.same (Chg.rm c18)
  have s318:=s317.chg fpl c18
  refine ze7 ht ?_
  refine zc5 (fun e19 H19 f19 s19 h19=>?_)
  have W19:=W18.same (Same.rm s19)
  refine zas3 ((Bad.same (Same.rm s19)).same (zb9 _ _)) (fun t20 H20 f20 s20 h20=>?_)
  refine zb7 (fun t21 H21 f21 s21 h21=>?_)
  refine zav9 (eqT2 (s21 _ _ h20) h21 rfl rfl) ?_
  refine br_F ?_
  refine zc5 (fun l22 H22 f22 s22 h22=>?_)
  have s1922:=(s20.trans s21).trans s22
  have W22:=W19.same (Same.rm s1922)
  have s322:=(s318.trans s19).trans s1922
  have V22:=W22.same (zb9 pl H22)
  have b22:=(V22.bat.same (zb9 _ _)).same (zb9 _ _)
  have o22:=V22.one.same (zb9 _ _)
  have t22:=V22.two.same (zb9 _ _)
  refine zav9 (n:=6) (EqR.allT (SqL.of h22) (SqL.of V22.kept) rfl fun j u v hu hv=>by
   match j with
   | 0=>cases hu;cases hv;exact b22.eq V22.cop
   | 1=>cases hu;cases hv;exact o22.eq V22.c1
   | 2=>cases hu;cases hv;exact t22.eq V22.c2
   | j+3=>simp at hu) ?_
  refine br_F ?_
  clear W17 W18 W19 L17
  obtain⟨xa,exa⟩:∃ x,ms1[0]?=some x:=⟨_,zcu7 (by have:=K7.1;omega)⟩
  obtain⟨ta,eta,ata,hta,hpa⟩:=o22.ix exa
  refine zaa7 o22.out ?_
  refine zg6 (v:=.ref ta.1) o22.out ata ?_
  refine zb6 (v:=.ref ta.2) hta rfl ?_
  refine zs0 (SqL.of hpa) (fun q23 H23 f23 s23 h23=>?_)
  refine zb7 (fun q24 H24 f24 s24 h24=>?_)
  have s2224:=s23.trans s24
  have V24:=V22.same s2224
  have o24:=o22.same s2224
  have q23m1:q23≠m1:=Ne.symm (za5 o22.out f23)
  have q24m1:q24≠m1:=Ne.symm (za5 (o22.same s23).out f24)
  have q23m2:q23≠m2:=Ne.symm (za5 t22.out f23)
  have q24m2:q24≠m2:=Ne.symm (za5 (t22.same s23).out f24)
  refine zai6 o24.out (by rw[zcu6,sizeLine_eq,o24.len];omega) (fun H25 c25 h25=>?_)
  have A25:ze3 H25 m1 (t1++[(q24,q23)]) (ms1++[(xa.1,3)]):=o24.push c25 P7 h25 (x:=(xa.1,3)) (c25 _ _ q24m1 h24) (c25 _ _ q23m1 (s24 _ _ h23))
  have T25:ze3 (rm m1 H25) m2 t2 ms2:=V24.two.same (Chg.rm c25)
  have bt25:zq3 (rm m1 (rm m2 H25)) bt l ps n m fs:=V24.bat.same (fun b o e=>by
   obtain⟨e1,e2⟩:=zm1 e
   obtain⟨e3,e4⟩:=zm1 e2
   exact zf6 e1 (zf6 e3 (c25 _ _ e1 e4)))
  have off1:Off m2 t1:=fun t ht=>by
   obtain⟨i,ei⟩:=zdb0 ht
   obtain⟨t',x',g1,g2,g3,g4⟩:=V24.one.get (i:=i) (by have:=(zcv3.mp ei).1;have:=V24.one.len;omega)
   rw[ei] at g1
   cases g1
   exact⟨(zm1 g3).1,(zm1 g4).1⟩
  have s325:Same H3 H25:=(s322.trans s2224).chg fm1 c25
  have T25':=T25.same (zb9 _ _)
  obtain⟨xb,exb⟩:∃ x,ms2[ms2.length - 1]?=some x:=⟨_,zcu7 (by have:=K8.1;omega)⟩
  obtain⟨tb,etb,_,htb,hpb⟩:=T25'.ix exb
  have tl:=T25'.len
  refine zaa7 T25'.out ?_
  refine zg6 (v:=.ref tb.1) T25'.out (zbv2 (n:=ms2.length - 1) (by rw[zcu6];have:=K8.1;omega) (by rw[zcu9,etb];rfl)) ?_
  refine zb6 (v:=.ref tb.2) htb rfl ?_
  refine zs0 (SqL.of hpb) (fun q26 H26 f26 s26 h26=>?_)
  refine zb7 (fun q27 H27 f27 s27 h27=>?_)
  have s2527:=s26.trans s27
  have T27:=T25'.same s2527
  have A27:=A25.same s2527
  have q26m2:q26≠m2:=Ne.symm (za5 T25'.out f26)
  have q27m2:q27≠m2:=Ne.symm (za5 (T25'.same s26).out f27)
  walk_at "wh"
  refine⟨rfl,ins_rd T27.out (by rw[zcu6,sizeLine_eq,T27.len];omega) (fun H28 c28 h28=>?_)⟩
  have A28:ze3 H28 m1 (t1++[(q24,q23)]) (ms1++[(xa.1,3)]):=A27.chg c28 m12 (off1.push q24m2 q23m2)
  have T28:ze3 H28 m2 ((q27,q26) :: t2) ((xb.1,2) :: ms2):=T27.consP (x:=(xb.1,2)) c28 P8 h28 (c28 _ _ q27m2 h27) (c28 _ _ q26m2 (s27 _ _ h26))
  have b28:zq3 H28 bt l ps n m fs:=bt25.same (fun b o e=>by
   obtain⟨e1,e2⟩:=zm1 e
   obtain⟨e3,e4⟩:=zm1 e2
   exact c28 _ _ e3 (s2527 _ _ e4))
  have s328:Same H3 H28:=(s325.trans s2527).chg fm2 c28
  have J1:=OkG.snoc K7 w7 l7 (zcv1 exa)
  have J2:=OkG.cons K8 w8 l8 (zcv1 exb)
  have z1:=zau1 J1.1 (by walk_at "om") (by walk_at "om")
  have z2:=zau1 J2.1 (by walk_at "om") (by walk_at "om")
  refine zbm0 b28 O D A28.sh (J1.sml (by walk_at "om")) T28.sh (J2.sml (by walk_at "om")) z1 z2 J1.good J2.good (fun p H29 f29 s29 h29=>?_)
  rw[zae7,zae7] at h29
  refine zau9 (b28.same s29) O D (A28.same s29) (T28.same s29) J1 J2 (fun p' H30 f30 s30 h30=>?_)
  refine zbi2 (s30 _ _ h29) h30 ?_
  rw[zaj5]
  refine zd6 (br_T ?_)
  walk_at "wh"
  exact⟨_,_,_,_,_,_,_,_,_,_,_,_,_,rfl,(s328.trans s29).trans s30⟩
 ·rintro σ H4 ⟨_,_,_,_,_,_,_,_,_,_,_,_,_,rfl,_⟩
  exact k H4
end
theorem all_mk {l:PySem.W.OpenLaw}{w:World}{K:zcu8}{h:Heap}{mg:Str->Option Value}{fa:Addr}(X:K.In h) (G:h.Ns mainGlobals mg) (hfa:mg "law"=some (.ref fa))
  {zco2:Tok}{zco0:Tok}{zco1:Tok}{zcn6:Tok}{f_0:Addr}{od_0 an_0:Option Addr}{sl_0:Array (Option Value)}{oc_0 kV_0 dc_0 pm_0 cd_0 ct_0:Value}{f_1:Addr}{od_1 an_1:Option Addr}{sl_1:Array (Option Value)}{oc_1 kV_1 dc_1 pm_1 cd_1 ct_1:Value}{f_2:Addr}{od_2 an_2:Option Addr}{sl_2:Array (Option Value)}{oc_2 kV_2 dc_2 pm_2 cd_2 ct_2:Value}{f_3:Addr}{od_3 an_3:Option Addr}{sl_3:Array (Option Value)}{oc_3 kV_3 dc_3 pm_3 cd_3 ct_3:Value}{f_4:Addr}{od_4 an_4:Option Addr}{sl_4:Array (Option Value)}{oc_4 kV_4 dc_4 pm_4 cd_4 ct_4:Value}{f_5:Addr}{od_5 an_5:Option Addr}{sl_5:Array (Option Value)}{oc_5 kV_5 dc_5 pm_5 cd_5 ct_5:Value}{f_6:Addr}{od_6 an_6:Option Addr}{sl_6:Array (Option Value)}{oc_6 kV_6 dc_6 pm_6 cd_6 ct_6:Value}{f_7:Addr}{od_7 an_7:Option Addr}{sl_7:Array (Option Value)}{oc_7 kV_7 dc_7 pm_7 cd_7 ct_7:Value}{f_8:Addr}{od_8 an_8:Option Addr}{sl_8:Array (Option Value)}{oc_8 kV_8 dc_8 pm_8 cd_8 ct_8:Value}{f_9:Addr}{od_9 an_9:Option Addr}{sl_9:Array (Option Value)}{oc_9 kV_9 dc_9 pm_9 cd_9 ct_9:Value}{f_10:Addr}{od_10 an_10:Option Addr}{sl_10:Array (Option Value)}{oc_10 kV_10 dc_10 pm_10 cd_10 ct_10:Value}{f_11:Addr}{od_11 an_11:Option Addr}{sl_11:Array (Option Value)}{oc_11 kV_11 dc_11 pm_11 cd_11 ct_11:Value}{f_12:Addr}{od_12 an_12:Option Addr}{sl_12:Array (Option Value)}{oc_12 kV_12 dc_12 pm_12 cd_12 ct_12:Value}{f_13:Addr}{od_13 an_13:Option Addr}{sl_13:Array (Option Value)}{oc_13 kV_13 dc_13 pm_13 cd_13 ct_13:Value}{f_14:Addr}{od_14 an_14:Option Addr}{sl_14:Array (Option Value)}{oc_14 kV_14 dc_14 pm_14 cd_14 ct_14:Value}{f_15:Addr}{od_15 an_15:Option Addr}{sl_15:Array (Option Value)}{oc_15 kV_15 dc_15 pm_15 cd_15 ct_15:Value}{f_16:Addr}{od_16 an_16:Option Addr}{sl_16:Array (Option Value)}{oc_16 kV_16 dc_16 pm_16 cd_16 ct_16:Value}{f_17:Addr}{od_17 an_17:Option Addr}{sl_17:Array (Option Value)}{oc_17 kV_17 dc_17 pm_17 cd_17 ct_17:Value}{f_18:Addr}{od_18 an_18:Option Addr}{sl_18:Array (Option Value)}{oc_18 kV_18 dc_18 pm_18 cd_18 ct_18:Value}{f_19:Addr}{od_19 an_19:Option Addr}{sl_19:Array (Option Value)}{oc_19 kV_19 dc_19 pm_19 cd_19 ct_19:Value}{f_20:Addr}{od_20 an_20:Option Addr}{sl_20:Array (Option Value)}{oc_20 kV_20 dc_20 pm_20 cd_20 ct_20:Value}{f_21:Addr}{od_21 an_21:Option Addr}{sl_21:Array (Option Value)}{oc_21 kV_21 dc_21 pm_21 cd_21 ct_21:Value}{f_22:Addr}{od_22 an_22:Option Addr}{sl_22:Array (Option Value)}{oc_22 kV_22 dc_22 pm_22 cd_22 ct_22:Value}{f_23:Addr}{od_23 an_23:Option Addr}{sl_23:Array (Option Value)}{oc_23 kV_23 dc_23 pm_23 cd_23 ct_23:Value}{f_24:Addr}{od_24 an_24:Option Addr}{sl_24:Array (Option Value)}{oc_24 kV_24 dc_24 pm_24 cd_24 ct_24:Value}{f_25:Addr}{od_25 an_25:Option Addr}{sl_25:Array (Option Value)}{oc_25 kV_25 dc_25 pm_25 cd_25 ct_25:Value}{f_26:Addr}{od_26 an_26:Option Addr}{sl_26:Array (Option Value)}{oc_26 kV_26 dc_26 pm_26 cd_26 ct_26:Value}{f_27:Addr}{od_27 an_27:Option Addr}{sl_27:Array (Option Value)}{oc_27 kV_27 dc_27 pm_27 cd_27 ct_27:Value}{f_28:Addr}{od_28 an_28:Option Addr}{sl_28:Array (Option Value)}{oc_28 kV_28 dc_28 pm_28 cd_28 ct_28:Value}{f_29:Addr}{od_29 an_29:Option Addr}{sl_29:Array (Option Value)}{oc_29 kV_29 dc_29 pm_29 cd_29 ct_29:Value}{f_30:Addr}{od_30 an_30:Option Addr}{sl_30:Array (Option Value)}{oc_30 kV_30 dc_30 pm_30 cd_30 ct_30:Value}{f_31:Addr}{od_31 an_31:Option Addr}{sl_31:Array (Option Value)}{oc_31 kV_31 dc_31 pm_31 cd_31 ct_31:Value}{f_32:Addr}{od_32 an_32:Option Addr}{sl_32:Array (Option Value)}{oc_32 kV_32 dc_32 pm_32 cd_32 ct_32:Value}{f_33:Addr}{od_33 an_33:Option Addr}{sl_33:Array (Option Value)}{oc_33 kV_33 dc_33 pm_33 cd_33 ct_33:Value}{f_34:Addr}{od_34 an_34:Option Addr}{sl_34:Array (Option Value)}{oc_34 kV_34 dc_34 pm_34 cd_34 ct_34:Value}{f_35:Addr}{od_35 an_35:Option Addr}{sl_35:Array (Option Value)}{oc_35 kV_35 dc_35 pm_35 cd_35 ct_35:Value}{f_36:Addr}{od_36 an_36:Option Addr}{sl_36:Array (Option Value)}{oc_36 kV_36 dc_36 pm_36 cd_36 ct_36:Value}{f_37:Addr}{od_37 an_37:Option Addr}{sl_37:Array (Option Value)}{oc_37 kV_37 dc_37 pm_37 cd_37 ct_37:Value}{f_38:Addr}{od_38 an_38:Option Addr}{sl_38:Array (Option Value)}{oc_38 kV_38 dc_38 pm_38 cd_38 ct_38:Value}{f_39:Addr}{od_39 an_39:Option Addr}{sl_39:Array (Option Value)}{oc_39 kV_39 dc_39 pm_39 cd_39 ct_39:Value}{f_40:Addr}{od_40 an_40:Option Addr}{sl_40:Array (Option Value)}{oc_40 kV_40 dc_40 pm_40 cd_40 ct_40:Value}{f_41:Addr}{od_41 an_41:Option Addr}{sl_41:Array (Option Value)}{oc_41 kV_41 dc_41 pm_41 cd_41 ct_41:Value}{f_42:Addr}{od_42 an_42:Option Addr}{sl_42:Array (Option Value)}{oc_42 kV_42 dc_42 pm_42 cd_42 ct_42:Value}{f_43:Addr}{od_43 an_43:Option Addr}{sl_43:Array (Option Value)}{oc_43 kV_43 dc_43 pm_43 cd_43 ct_43:Value}{f_44:Addr}{od_44 an_44:Option Addr}{sl_44:Array (Option Value)}{oc_44 kV_44 dc_44 pm_44 cd_44 ct_44:Value}{f_45:Addr}{od_45 an_45:Option Addr}{sl_45:Array (Option Value)}{oc_45 kV_45 dc_45 pm_45 cd_45 ct_45:Value}{f_46:Addr}{od_46 an_46:Option Addr}{sl_46:Array (Option Value)}{oc_46 kV_46 dc_46 pm_46 cd_46 ct_46:Value}{f_47:Addr}{od_47 an_47:Option Addr}{sl_47:Array (Option Value)}{oc_47 kV_47 dc_47 pm_47 cd_47 ct_47:Value}{f_48:Addr}{od_48 an_48:Option Addr}{sl_48:Array (Option Value)}{oc_48 kV_48 dc_48 pm_48 cd_48 ct_48:Value}{f_49:Addr}{od_49 an_49:Option Addr}{sl_49:Array (Option Value)}{oc_49 kV_49 dc_49 pm_49 cd_49 ct_49:Value}{f_50:Addr}{od_50 an_50:Option Addr}{sl_50:Array (Option Value)}{oc_50 kV_50 dc_50 pm_50 cd_50 ct_50:Value}{f_51:Addr}{od_51 an_51:Option Addr}{sl_51:Array (Option Value)}{oc_51 kV_51 dc_51 pm_51 cd_51 ct_51:Value}{f_52:Addr}{od_52 an_52:Option Addr}{sl_52:Array (Option Value)}{oc_52 kV_52 dc_52 pm_52 cd_52 ct_52:Value}{f_53:Addr}{od_53 an_53:Option Addr}{sl_53:Array (Option Value)}{oc_53 kV_53 dc_53 pm_53 cd_53 ct_53:Value}{f_54:Addr}{od_54 an_54:Option Addr}{sl_54:Array (Option Value)}{oc_54 kV_54 dc_54 pm_54 cd_54 ct_54:Value}{f_55:Addr}{od_55 an_55:Option Addr}{sl_55:Array (Option Value)}{oc_55 kV_55 dc_55 pm_55 cd_55 ct_55:Value}{zcl8:Addr}{zct0:ClassData}{zcl5:Addr}{zct3:ClassData}{zcm7:Addr}{zct9:ClassData}{zcl6:Addr}{zcu4:ClassData}{zcl9:Addr}{zct4:ClassData}{zcm8:Addr}{zcu0:ClassData}{zcm2:Addr}{zct7:ClassData}{zcm0:Addr}{zct5:ClassData}{zcm1:Addr}{zct6:ClassData}{zcm9:Addr}{zcu1:ClassData}{zcn0:Addr}{zcu2:ClassData}{zcn3:Addr}{zcu5:ClassData}{zcn1:Addr}{zcu3:ClassData}{zcm3:Addr}{zct8:ClassData}{nm_NoBattle qn_NoBattle:Str}{N_NoBattle:Addr}{bs_NoBattle:List Value}{sn_NoBattle:List Str}{sub_NoBattle:List Value}{ab_NoBattle:Bool}{col_NoBattle:Option Bool}{dd_NoBattle:Option Addr}{k0_NoBattle k1_NoBattle k2_NoBattle k3_NoBattle k5_NoBattle:Option Value}{zcm6:Addr}{iod_NoBattle ian_NoBattle:Option Addr}{isl_NoBattle:Array (Option Value)}{ioc_NoBattle ikV_NoBattle idc_NoBattle ipm_NoBattle icd_NoBattle ict_NoBattle:Value}
  (e_MOST_HOSTS_plans:zcv6 K mainGlobals "MOST_HOSTS_plans"=some (some (.int 40 zco2)))
  (e_MOST_FIELDS_plans:zcv6 K mainGlobals "MOST_FIELDS_plans"=some (some (.int 8 zco0)))
  (e_MOST_HOSTS_fields:zcv6 K mainGlobals "MOST_HOSTS_fields"=some (some (.int 10 zco1)))
  (e_MOST_FIELDS_fields:zcv6 K mainGlobals "MOST_FIELDS_fields"=some (some (.int 5 zcn6)))
  (a_0:zcv6 K mainGlobals "is_whole"=some (some (.ref f_0)))
  (l_0:K.lookup f_0=some ⟨oc_0,od_0,.func (zcw4 "is_whole" "is_whole" (zb2 zu0) (za9 zu0) (za3 zu0) .none kV_0 dc_0 pm_0 an_0 cd_0 ct_0),sl_0⟩)
  (c_0:zcw1 K cd_0 "is_whole"=true)
  (k_0:zcw0 K (.ref f_0)=true)
  (a_1:zcv6 K mainGlobals "is_from"=some (some (.ref f_1)))
  (l_1:K.lookup f_1=some ⟨oc_1,od_1,.func (zcw4 "is_from" "is_from" (zb2 zv7) (za9 zv7) (za3 zv7) .none kV_1 dc_1 pm_1 an_1 cd_1 ct_1),sl_1⟩)
  (c_1:zcw1 K cd_1 "is_from"=true)
  (k_1:zcw0 K (.ref f_1)=true)
  (a_2:zcv6 K mainGlobals "is_between"=some (some (.ref f_2)))
  (l_2:K.lookup f_2=some ⟨oc_2,od_2,.func (zcw4 "is_between" "is_between" (zb2 zp1) (za9 zp1) (za3 zp1) .none kV_2 dc_2 pm_2 an_2 cd_2 ct_2),sl_2⟩)
  (c_2:zcw1 K cd_2 "is_between"=true)
  (k_2:zcw0 K (.ref f_2)=true)
  (a_3:zcv6 K mainGlobals "sends_hosts"=some (some (.ref f_3)))
  (l_3:K.lookup f_3=some ⟨oc_3,od_3,.func (zcw4 "sends_hosts" "sends_hosts" (zb2 zm9) (za9 zm9) (za3 zm9) .none kV_3 dc_3 pm_3 an_3 cd_3 ct_3),sl_3⟩)
  (c_3:zcw1 K cd_3 "sends_hosts"=true)
  (k_3:zcw0 K (.ref f_3)=true)
  (a_4:zcv6 K mainGlobals "is_plan"=some (some (.ref f_4)))
  (l_4:K.lookup f_4=some ⟨oc_4,od_4,.func (zcw4 "is_plan" "is_plan" (zb2 zv9) (za9 zv9) (za3 zv9) .none kV_4 dc_4 pm_4 an_4 cd_4 ct_4),sl_4⟩)
  (c_4:zcw1 K cd_4 "is_plan"=true)
  (k_4:zcw0 K (.ref f_4)=true)
  (a_5:zcv6 K mainGlobals "is_size"=some (some (.ref f_5)))
  (l_5:K.lookup f_5=some ⟨oc_5,od_5,.func (zcw4 "is_size" "is_size" (zb2 zw3) (za9 zw3) (za3 zw3) .none kV_5 dc_5 pm_5 an_5 cd_5 ct_5),sl_5⟩)
  (c_5:zcw1 K cd_5 "is_size"=true)
  (k_5:zcw0 K (.ref f_5)=true)
  (a_6:zcv6 K mainGlobals "is_part"=some (some (.ref f_6)))
  (l_6:K.lookup f_6=some ⟨oc_6,od_6,.func (zcw4 "is_part" "is_part" (zb2 zw4) (za9 zw4) (za3 zw4) .none kV_6 dc_6 pm_6 an_6 cd_6 ct_6),sl_6⟩)
  (c_6:zcw1 K cd_6 "is_part"=true)
  (k_6:zcw0 K (.ref f_6)=true)
  (a_7:zcv6 K mainGlobals "is_mix"=some (some (.ref f_7)))
  (l_7:K.lookup f_7=some ⟨oc_7,od_7,.func (zcw4 "is_mix" "is_mix" (zb2 zz5) (za9 zz5) (za3 zz5) .none kV_7 dc_7 pm_7 an_7 cd_7 ct_7),sl_7⟩)
  (c_7:zcw1 K cd_7 "is_mix"=true)
  (k_7:zcw0 K (.ref f_7)=true)
  (a_8:zcv6 K mainGlobals "look_mix"=some (some (.ref f_8)))
  (l_8:K.lookup f_8=some ⟨oc_8,od_8,.func (zcw4 "look_mix" "look_mix" (zb2 zt8) (za9 zt8) (za3 zt8) .none kV_8 dc_8 pm_8 an_8 cd_8 ct_8),sl_8⟩)
  (c_8:zcw1 K cd_8 "look_mix"=true)
  (k_8:zcw0 K (.ref f_8)=true)
  (a_9:zcv6 K mainGlobals "are_hosts"=some (some (.ref f_9)))
  (l_9:K.lookup f_9=some ⟨oc_9,od_9,.func (zcw4 "are_hosts" "are_hosts" (zb2 zr5) (za9 zr5) (za3 zr5) .none kV_9 dc_9 pm_9 an_9 cd_9 ct_9),sl_9⟩)
  (c_9:zcw1 K cd_9 "are_hosts"=true)
  (k_9:zcw0 K (.ref f_9)=true)
  (a_10:zcv6 K mainGlobals "has_size"=some (some (.ref f_10)))
  (l_10:K.lookup f_10=some ⟨oc_10,od_10,.func (zcw4 "has_size" "has_size" (zb2 zt6) (za9 zt6) (za3 zt6) .none kV_10 dc_10 pm_10 an_10 cd_10 ct_10),sl_10⟩)
  (c_10:zcw1 K cd_10 "has_size"=true)
  (k_10:zcw0 K (.ref f_10)=true)
  (a_11:zcv6 K mainGlobals "is_table_row"=some (some (.ref f_11)))
  (l_11:K.lookup f_11=some ⟨oc_11,od_11,.func (zcw4 "is_table_row" "is_table_row" (zb2 zl2) (za9 zl2) (za3 zl2) .none kV_11 dc_11 pm_11 an_11 cd_11 ct_11),sl_11⟩)
  (c_11:zcw1 K cd_11 "is_table_row"=true)
  (k_11:zcw0 K (.ref f_11)=true)
  (a_12:zcv6 K mainGlobals "is_table"=some (some (.ref f_12)))
  (l_12:K.lookup f_12=some ⟨oc_12,od_12,.func (zcw4 "is_table" "is_table" (zb2 zu2) (za9 zu2) (za3 zu2) .none kV_12 dc_12 pm_12 an_12 cd_12 ct_12),sl_12⟩)
  (c_12:zcw1 K cd_12 "is_table"=true)
  (k_12:zcw0 K (.ref f_12)=true)
  (a_13:zcv6 K mainGlobals "is_field"=some (some (.ref f_13)))
  (l_13:K.lookup f_13=some ⟨oc_13,od_13,.func (zcw4 "is_field" "is_field" (zb2 zt7) (za9 zt7) (za3 zt7) .none kV_13 dc_13 pm_13 an_13 cd_13 ct_13),sl_13⟩)
  (c_13:zcw1 K cd_13 "is_field"=true)
  (k_13:zcw0 K (.ref f_13)=true)
  (a_14:zcv6 K mainGlobals "look_battle"=some (some (.ref f_14)))
  (l_14:K.lookup f_14=some ⟨oc_14,od_14,.func (zcw4 "look_battle" "look_battle" (zb2 zn1) (za9 zn1) (za3 zn1) .none kV_14 dc_14 pm_14 an_14 cd_14 ct_14),sl_14⟩)
  (c_14:zcw1 K cd_14 "look_battle"=true)
  (k_14:zcw0 K (.ref f_14)=true)
  (a_15:zcv6 K mainGlobals "won"=some (some (.ref f_15)))
  (l_15:K.lookup f_15=some ⟨oc_15,od_15,.func (zcw4 "won" "won" (zb2 zbl3) (za9 zbl3) (za3 zbl3) .none kV_15 dc_15 pm_15 an_15 cd_15 ct_15),sl_15⟩)
  (c_15:zcw1 K cd_15 "won"=true)
  (k_15:zcw0 K (.ref f_15)=true)
  (a_16:zcv6 K mainGlobals "is_flow"=some (some (.ref f_16)))
  (l_16:K.lookup f_16=some ⟨oc_16,od_16,.func (zcw4 "is_flow" "is_flow" (zb2 zw2) (za9 zw2) (za3 zw2) .none kV_16 dc_16 pm_16 an_16 cd_16 ct_16),sl_16⟩)
  (c_16:zcw1 K cd_16 "is_flow"=true)
  (k_16:zcw0 K (.ref f_16)=true)
  (a_17:zcv6 K mainGlobals "is_row"=some (some (.ref f_17)))
  (l_17:K.lookup f_17=some ⟨oc_17,od_17,.func (zcw4 "is_row" "is_row" (zb2 zz8) (za9 zz8) (za3 zz8) .none kV_17 dc_17 pm_17 an_17 cd_17 ct_17),sl_17⟩)
  (c_17:zcw1 K cd_17 "is_row"=true)
  (k_17:zcw0 K (.ref f_17)=true)
  (a_18:zcv6 K mainGlobals "begins"=some (some (.ref f_18)))
  (l_18:K.lookup f_18=some ⟨oc_18,od_18,.func (zcw4 "begins" "begins" (zb2 zz6) (za9 zz6) (za3 zz6) .none kV_18 dc_18 pm_18 an_18 cd_18 ct_18),sl_18⟩)
  (c_18:zcw1 K cd_18 "begins"=true)
  (k_18:zcw0 K (.ref f_18)=true)
  (a_19:zcv6 K mainGlobals "summed"=some (some (.ref f_19)))
  (l_19:K.lookup f_19=some ⟨oc_19,od_19,.func (zcw4 "summed" "summed" (zb2 zz4) (za9 zz4) (za3 zz4) .none kV_19 dc_19 pm_19 an_19 cd_19 ct_19),sl_19⟩)
  (c_19:zcw1 K cd_19 "summed"=true)
  (k_19:zcw0 K (.ref f_19)=true)
  (a_20:zcv6 K mainGlobals "meets"=some (some (.ref f_20)))
  (l_20:K.lookup f_20=some ⟨oc_20,od_20,.func (zcw4 "meets" "meets" (zb2 zae4) (za9 zae4) (za3 zae4) .none kV_20 dc_20 pm_20 an_20 cd_20 ct_20),sl_20⟩)
  (c_20:zcw1 K cd_20 "meets"=true)
  (k_20:zcw0 K (.ref f_20)=true)
  (a_21:zcv6 K mainGlobals "is_stream"=some (some (.ref f_21)))
  (l_21:K.lookup f_21=some ⟨oc_21,od_21,.func (zcw4 "is_stream" "is_stream" (zb2 zq7) (za9 zq7) (za3 zq7) .none kV_21 dc_21 pm_21 an_21 cd_21 ct_21),sl_21⟩)
  (c_21:zcw1 K cd_21 "is_stream"=true)
  (k_21:zcw0 K (.ref f_21)=true)
  (a_22:zcv6 K mainGlobals "hosts_in"=some (some (.ref f_22)))
  (l_22:K.lookup f_22=some ⟨oc_22,od_22,.func (zcw4 "hosts_in" "hosts_in" (zb2 zu3) (za9 zu3) (za3 zu3) .none kV_22 dc_22 pm_22 an_22 cd_22 ct_22),sl_22⟩)
  (c_22:zcw1 K cd_22 "hosts_in"=true)
  (k_22:zcw0 K (.ref f_22)=true)
  (a_23:zcv6 K mainGlobals "is_any_stream"=some (some (.ref f_23)))
  (l_23:K.lookup f_23=some ⟨oc_23,od_23,.func (zcw4 "is_any_stream" "is_any_stream" (zb2 zj7) (za9 zj7) (za3 zj7) .none kV_23 dc_23 pm_23 an_23 cd_23 ct_23),sl_23⟩)
  (c_23:zcw1 K cd_23 "is_any_stream"=true)
  (k_23:zcw0 K (.ref f_23)=true)
  (a_24:zcv6 K mainGlobals "look_stream"=some (some (.ref f_24)))
  (l_24:K.lookup f_24=some ⟨oc_24,od_24,.func (zcw4 "look_stream" "look_stream" (zb2 zn4) (za9 zn4) (za3 zn4) .none kV_24 dc_24 pm_24 an_24 cd_24 ct_24),sl_24⟩)
  (c_24:zcw1 K cd_24 "look_stream"=true)
  (k_24:zcw0 K (.ref f_24)=true)
  (a_25:zcv6 K mainGlobals "row_of"=some (some (.ref f_25)))
  (l_25:K.lookup f_25=some ⟨oc_25,od_25,.func (zcw4 "row_of" "row_of" (zb2 zz1) (za9 zz1) (za3 zz1) .none kV_25 dc_25 pm_25 an_25 cd_25 ct_25),sl_25⟩)
  (c_25:zcw1 K cd_25 "row_of"=true)
  (k_25:zcw0 K (.ref f_25)=true)
  (a_26:zcv6 K mainGlobals "stream_of"=some (some (.ref f_26)))
  (l_26:K.lookup f_26=some ⟨oc_26,od_26,.func (zcw4 "stream_of" "stream_of" (zb2 zq6) (za9 zq6) (za3 zq6) .none kV_26 dc_26 pm_26 an_26 cd_26 ct_26),sl_26⟩)
  (c_26:zcw1 K cd_26 "stream_of"=true)
  (k_26:zcw0 K (.ref f_26)=true)
  (a_27:zcv6 K mainGlobals "row_shares"=some (some (.ref f_27)))
  (l_27:K.lookup f_27=some ⟨oc_27,od_27,.func (zcw4 "row_shares" "row_shares" (zb2 zp4) (za9 zp4) (za3 zp4) .none kV_27 dc_27 pm_27 an_27 cd_27 ct_27),sl_27⟩)
  (c_27:zcw1 K cd_27 "row_shares"=true)
  (k_27:zcw0 K (.ref f_27)=true)
  (a_28:zcv6 K mainGlobals "shares_of"=some (some (.ref f_28)))
  (l_28:K.lookup f_28=some ⟨oc_28,od_28,.func (zcw4 "shares_of" "shares_of" (zb2 zq9) (za9 zq9) (za3 zq9) .none kV_28 dc_28 pm_28 an_28 cd_28 ct_28),sl_28⟩)
  (c_28:zcw1 K cd_28 "shares_of"=true)
  (k_28:zcw0 K (.ref f_28)=true)
  (a_29:zcv6 K mainGlobals "common_divisor"=some (some (.ref f_29)))
  (l_29:K.lookup f_29=some ⟨oc_29,od_29,.func (zcw4 "common_divisor" "common_divisor" (zb2 zi5) (za9 zi5) (za3 zi5) .none kV_29 dc_29 pm_29 an_29 cd_29 ct_29),sl_29⟩)
  (c_29:zcw1 K cd_29 "common_divisor"=true)
  (k_29:zcw0 K (.ref f_29)=true)
  (a_30:zcv6 K mainGlobals "ratio"=some (some (.ref f_30)))
  (l_30:K.lookup f_30=some ⟨oc_30,od_30,.func (zcw4 "ratio" "ratio" (zb2 zaf1) (za9 zaf1) (za3 zaf1) .none kV_30 dc_30 pm_30 an_30 cd_30 ct_30),sl_30⟩)
  (c_30:zcw1 K cd_30 "ratio"=true)
  (k_30:zcw0 K (.ref f_30)=true)
  (a_31:zcv6 K mainGlobals "whole_weight"=some (some (.ref f_31)))
  (l_31:K.lookup f_31=some ⟨oc_31,od_31,.func (zcw4 "whole_weight" "whole_weight" (zb2 zl0) (za9 zl0) (za3 zl0) .none kV_31 dc_31 pm_31 an_31 cd_31 ct_31),sl_31⟩)
  (c_31:zcw1 K cd_31 "whole_weight"=true)
  (k_31:zcw0 K (.ref f_31)=true)
  (a_32:zcv6 K mainGlobals "look_own_mix"=some (some (.ref f_32)))
  (l_32:K.lookup f_32=some ⟨oc_32,od_32,.func (zcw4 "look_own_mix" "look_own_mix" (zb2 zl5) (za9 zl5) (za3 zl5) .none kV_32 dc_32 pm_32 an_32 cd_32 ct_32),sl_32⟩)
  (c_32:zcw1 K cd_32 "look_own_mix"=true)
  (k_32:zcw0 K (.ref f_32)=true)
  (a_33:zcv6 K mainGlobals "won_by_count"=some (some (.ref f_33)))
  (l_33:K.lookup f_33=some ⟨oc_33,od_33,.func (zcw4 "won_by_count" "won_by_count" (zb2 zl1) (za9 zl1) (za3 zl1) .none kV_33 dc_33 pm_33 an_33 cd_33 ct_33),sl_33⟩)
  (c_33:zcw1 K cd_33 "won_by_count"=true)
  (k_33:zcw0 K (.ref f_33)=true)
  (a_34:zcv6 K mainGlobals "won_by_shares"=some (some (.ref f_34)))
  (l_34:K.lookup f_34=some ⟨oc_34,od_34,.func (zcw4 "won_by_shares" "won_by_shares" (zb2 zj8) (za9 zj8) (za3 zj8) .none kV_34 dc_34 pm_34 an_34 cd_34 ct_34),sl_34⟩)
  (c_34:zcw1 K cd_34 "won_by_shares"=true)
  (k_34:zcw0 K (.ref f_34)=true)
  (a_35:zcv6 K mainGlobals "mixed_gain"=some (some (.ref f_35)))
  (l_35:K.lookup f_35=some ⟨oc_35,od_35,.func (zcw4 "mixed_gain" "mixed_gain" (zb2 zp5) (za9 zp5) (za3 zp5) .none kV_35 dc_35 pm_35 an_35 cd_35 ct_35),sl_35⟩)
  (c_35:zcw1 K cd_35 "mixed_gain"=true)
  (k_35:zcw0 K (.ref f_35)=true)
  (a_36:zcv6 K mainGlobals "_law_stirred"=some (some (.ref f_36)))
  (l_36:K.lookup f_36=some ⟨oc_36,od_36,.func (zcw4 "_law_stirred" "_law_stirred" (zb2 zl3) (za9 zl3) (za3 zl3) .none kV_36 dc_36 pm_36 an_36 cd_36 ct_36),sl_36⟩)
  (c_36:zcw1 K cd_36 "_law_stirred"=true)
  (k_36:zcw0 K (.ref f_36)=true)
  (a_37:zcv6 K mainGlobals "_law_opened"=some (some (.ref f_37)))
  (l_37:K.lookup f_37=some ⟨oc_37,od_37,.func (zcw4 "_law_opened" "_law_opened" (zb2 zn0) (za9 zn0) (za3 zn0) .none kV_37 dc_37 pm_37 an_37 cd_37 ct_37),sl_37⟩)
  (c_37:zcw1 K cd_37 "_law_opened"=true)
  (k_37:zcw0 K (.ref f_37)=true)
  (a_38:zcv6 K mainGlobals "_law_draw"=some (some (.ref f_38)))
  (l_38:K.lookup f_38=some ⟨oc_38,od_38,.func (zcw4 "_law_draw" "_law_draw" (zb2 zr6) (za9 zr6) (za3 zr6) .none kV_38 dc_38 pm_38 an_38 cd_38 ct_38),sl_38⟩)
  (c_38:zcw1 K cd_38 "_law_draw"=true)
  (k_38:zcw0 K (.ref f_38)=true)
  (a_39:zcv6 K mainGlobals "_law_in_lowest"=some (some (.ref f_39)))
  (l_39:K.lookup f_39=some ⟨oc_39,od_39,.func (zcw4 "_law_in_lowest" "_law_in_lowest" (zb2 zi4) (za9 zi4) (za3 zi4) .none kV_39 dc_39 pm_39 an_39 cd_39 ct_39),sl_39⟩)
  (c_39:zcw1 K cd_39 "_law_in_lowest"=true)
  (k_39:zcw0 K (.ref f_39)=true)
  (a_40:zcv6 K mainGlobals "_law_drawn_worth"=some (some (.ref f_40)))
  (l_40:K.lookup f_40=some ⟨oc_40,od_40,.func (zcw4 "_law_drawn_worth" "_law_drawn_worth" (zb2 zf8) (za9 zf8) (za3 zf8) .none kV_40 dc_40 pm_40 an_40 cd_40 ct_40),sl_40⟩)
  (c_40:zcw1 K cd_40 "_law_drawn_worth"=true)
  (k_40:zcw0 K (.ref f_40)=true)
  (a_41:zcv6 K mainGlobals "_law_drawn_field"=some (some (.ref f_41)))
  (l_41:K.lookup f_41=some ⟨oc_41,od_41,.func (zcw4 "_law_drawn_field" "_law_drawn_field" (zb2 zf7) (za9 zf7) (za3 zf7) .none kV_41 dc_41 pm_41 an_41 cd_41 ct_41),sl_41⟩)
  (c_41:zcw1 K cd_41 "_law_drawn_field"=true)
  (k_41:zcw0 K (.ref f_41)=true)
  (a_42:zcv6 K mainGlobals "_law_drawn_battle"=some (some (.ref f_42)))
  (l_42:K.lookup f_42=some ⟨oc_42,od_42,.func (zcw4 "_law_drawn_battle" "_law_drawn_battle" (zb2 zf2) (za9 zf2) (za3 zf2) .none kV_42 dc_42 pm_42 an_42 cd_42 ct_42),sl_42⟩)
  (c_42:zcw1 K cd_42 "_law_drawn_battle"=true)
  (k_42:zcw0 K (.ref f_42)=true)
  (a_43:zcv6 K mainGlobals "_law_copied"=some (some (.ref f_43)))
  (l_43:K.lookup f_43=some ⟨oc_43,od_43,.func (zcw4 "_law_copied" "_law_copied" (zb2 zn2) (za9 zn2) (za3 zn2) .none kV_43 dc_43 pm_43 an_43 cd_43 ct_43),sl_43⟩)
  (c_43:zcw1 K cd_43 "_law_copied"=true)
  (k_43:zcw0 K (.ref f_43)=true)
  (a_44:zcv6 K mainGlobals "_law_bad_field"=some (some (.ref f_44)))
  (l_44:K.lookup f_44=some ⟨oc_44,od_44,.func (zcw4 "_law_bad_field" "_law_bad_field" (zb2 zi0) (za9 zi0) (za3 zi0) .none kV_44 dc_44 pm_44 an_44 cd_44 ct_44),sl_44⟩)
  (c_44:zcw1 K cd_44 "_law_bad_field"=true)
  (k_44:zcw0 K (.ref f_44)=true)
  (a_45:zcv6 K mainGlobals "_law_bent_one"=some (some (.ref f_45)))
  (l_45:K.lookup f_45=some ⟨oc_45,od_45,.func (zcw4 "_law_bent_one" "_law_bent_one" (zb2 zj9) (za9 zj9) (za3 zj9) .none kV_45 dc_45 pm_45 an_45 cd_45 ct_45),sl_45⟩)
  (c_45:zcw1 K cd_45 "_law_bent_one"=true)
  (k_45:zcw0 K (.ref f_45)=true)
  (a_46:zcv6 K mainGlobals "_law_pay"=some (some (.ref f_46)))
  (l_46:K.lookup f_46=some ⟨oc_46,od_46,.func (zcw4 "_law_pay" "_law_pay" (zb2 zt9) (za9 zt9) (za3 zt9) .none kV_46 dc_46 pm_46 an_46 cd_46 ct_46),sl_46⟩)
  (c_46:zcw1 K cd_46 "_law_pay"=true)
  (k_46:zcw0 K (.ref f_46)=true)
  (a_47:zcv6 K mainGlobals "_law_drawn_plan"=some (some (.ref f_47)))
  (l_47:K.lookup f_47=some ⟨oc_47,od_47,.func (zcw4 "_law_drawn_plan" "_law_drawn_plan" (zb2 zh0) (za9 zh0) (za3 zh0) .none kV_47 dc_47 pm_47 an_47 cd_47 ct_47),sl_47⟩)
  (c_47:zcw1 K cd_47 "_law_drawn_plan"=true)
  (k_47:zcw0 K (.ref f_47)=true)
  (a_48:zcv6 K mainGlobals "_law_drawn_mix"=some (some (.ref f_48)))
  (l_48:K.lookup f_48=some ⟨oc_48,od_48,.func (zcw4 "_law_drawn_mix" "_law_drawn_mix" (zb2 zi1) (za9 zi1) (za3 zi1) .none kV_48 dc_48 pm_48 an_48 cd_48 ct_48),sl_48⟩)
  (c_48:zcw1 K cd_48 "_law_drawn_mix"=true)
  (k_48:zcw0 K (.ref f_48)=true)
  (a_49:zcv6 K mainGlobals "_law_is_whole"=some (some (.ref f_49)))
  (l_49:K.lookup f_49=some ⟨oc_49,od_49,.func (zcw4 "_law_is_whole" "_law_is_whole" (zb2 zj6) (za9 zj6) (za3 zj6) .none kV_49 dc_49 pm_49 an_49 cd_49 ct_49),sl_49⟩)
  (c_49:zcw1 K cd_49 "_law_is_whole"=true)
  (k_49:zcw0 K (.ref f_49)=true)
  (a_50:zcv6 K mainGlobals "_law_is_it"=some (some (.ref f_50)))
  (l_50:K.lookup f_50=some ⟨oc_50,od_50,.func (zcw4 "_law_is_it" "_law_is_it" (zb2 zp3) (za9 zp3) (za3 zp3) .none kV_50 dc_50 pm_50 an_50 cd_50 ct_50),sl_50⟩)
  (c_50:zcw1 K cd_50 "_law_is_it"=true)
  (k_50:zcw0 K (.ref f_50)=true)
  (a_51:zcv6 K mainGlobals "_law_kind_of"=some (some (.ref f_51)))
  (l_51:K.lookup f_51=some ⟨oc_51,od_51,.func (zcw4 "_law_kind_of" "_law_kind_of" (zb2 zk9) (za9 zk9) (za3 zk9) .none kV_51 dc_51 pm_51 an_51 cd_51 ct_51),sl_51⟩)
  (c_51:zcw1 K cd_51 "_law_kind_of"=true)
  (k_51:zcw0 K (.ref f_51)=true)
  (a_52:zcv6 K mainGlobals "_law_due_of"=some (some (.ref f_52)))
  (l_52:K.lookup f_52=some ⟨oc_52,od_52,.func (zcw4 "_law_due_of" "_law_due_of" (zb2 zn6) (za9 zn6) (za3 zn6) .none kV_52 dc_52 pm_52 an_52 cd_52 ct_52),sl_52⟩)
  (c_52:zcw1 K cd_52 "_law_due_of"=true)
  (k_52:zcw0 K (.ref f_52)=true)
  (a_53:zcv6 K mainGlobals "_law_caught_by"=some (some (.ref f_53)))
  (l_53:K.lookup f_53=some ⟨oc_53,od_53,.func (zcw4 "_law_caught_by" "_law_caught_by" (zb2 zi3) (za9 zi3) (za3 zi3) .none kV_53 dc_53 pm_53 an_53 cd_53 ct_53),sl_53⟩)
  (c_53:zcw1 K cd_53 "_law_caught_by"=true)
  (k_53:zcw0 K (.ref f_53)=true)
  (a_54:zcv6 K mainGlobals "_law_other_mixes"=some (some (.ref f_54)))
  (l_54:K.lookup f_54=some ⟨oc_54,od_54,.func (zcw4 "_law_other_mixes" "_law_other_mixes" (zb2 zf9) (za9 zf9) (za3 zf9) .none kV_54 dc_54 pm_54 an_54 cd_54 ct_54),sl_54⟩)
  (c_54:zcw1 K cd_54 "_law_other_mixes"=true)
  (k_54:zcw0 K (.ref f_54)=true)
  (a_55:zcv6 K mainGlobals "law"=some (some (.ref f_55)))
  (l_55:K.lookup f_55=some ⟨oc_55,od_55,.func (zcw4 "law" "law" (zb2 zaq9) (za9 zaq9) (za3 zaq9) .none kV_55 dc_55 pm_55 an_55 cd_55 ct_55),sl_55⟩)
  (c_55:zcw1 K cd_55 "law"=true)
  (k_55:zcw0 K (.ref f_55)=true)
  (z_ValueError:zcv6 K mainGlobals "ValueError"=some none)
  (z_abs:zcv6 K mainGlobals "abs"=some none)
  (z_all:zcv6 K mainGlobals "all"=some none)
  (z_bool:zcv6 K mainGlobals "bool"=some none)
  (z_enumerate:zcv6 K mainGlobals "enumerate"=some none)
  (z_int:zcv6 K mainGlobals "int"=some none)
  (z_isinstance:zcv6 K mainGlobals "isinstance"=some none)
  (z_len:zcv6 K mainGlobals "len"=some none)
  (z_list:zcv6 K mainGlobals "list"=some none)
  (z_range:zcv6 K mainGlobals "range"=some none)
  (z_sorted:zcv6 K mainGlobals "sorted"=some none)
  (z_sum:zcv6 K mainGlobals "sum"=some none)
  (z_tuple:zcv6 K mainGlobals "tuple"=some none)
  (z_zip:zcv6 K mainGlobals "zip"=some none)
  (e_HostError:zcv6 K mainGlobals "HostError"=some (some (.ref zcl8)))
  (kk_HostError:zcy5 K zcl8=some zct0)
  (tt_HostError:zcz2 K (.ref zcl8)=some (.type "type"))
  (nn_HostError:zcw8 K (.type "NoneType") (.ref zcl8)=some false)
  (e_NoBattle:zcv6 K mainGlobals "NoBattle"=some (some (.ref zcl5)))
  (kk_NoBattle:zcy5 K zcl5=some zct3)
  (tt_NoBattle:zcz2 K (.ref zcl5)=some (.type "type"))
  (nn_NoBattle:zcw8 K (.type "NoneType") (.ref zcl5)=some false)
  (e_NoPlan:zcv6 K mainGlobals "NoPlan"=some (some (.ref zcm7)))
  (kk_NoPlan:zcy5 K zcm7=some zct9)
  (tt_NoPlan:zcz2 K (.ref zcm7)=some (.type "type"))
  (nn_NoPlan:zcw8 K (.type "NoneType") (.ref zcm7)=some false)
  (e_NoMix:zcv6 K mainGlobals "NoMix"=some (some (.ref zcl6)))
  (kk_NoMix:zcy5 K zcl6=some zcu4)
  (tt_NoMix:zcz2 K (.ref zcl6)=some (.type "type"))
  (nn_NoMix:zcw8 K (.type "NoneType") (.ref zcl6)=some false)
  (e_NoStream:zcv6 K mainGlobals "NoStream"=some (some (.ref zcl9)))
  (kk_NoStream:zcy5 K zcl9=some zct4)
  (tt_NoStream:zcz2 K (.ref zcl9)=some (.type "type"))
  (nn_NoStream:zcw8 K (.type "NoneType") (.ref zcl9)=some false)
  (e_NoSide:zcv6 K mainGlobals "NoSide"=some (some (.ref zcm8)))
  (kk_NoSide:zcy5 K zcm8=some zcu0)
  (tt_NoSide:zcz2 K (.ref zcm8)=some (.type "type"))
  (nn_NoSide:zcw8 K (.type "NoneType") (.ref zcm8)=some false)
  (e_NoAlike:zcv6 K mainGlobals "NoAlike"=some (some (.ref zcm2)))
  (kk_NoAlike:zcy5 K zcm2=some zct7)
  (tt_NoAlike:zcz2 K (.ref zcm2)=some (.type "type"))
  (nn_NoAlike:zcw8 K (.type "NoneType") (.ref zcm2)=some false)
  (e_NoNumber:zcv6 K mainGlobals "NoNumber"=some (some (.ref zcm0)))
  (kk_NoNumber:zcy5 K zcm0=some zct5)
  (tt_NoNumber:zcz2 K (.ref zcm0)=some (.type "type"))
  (nn_NoNumber:zcw8 K (.type "NoneType") (.ref zcm0)=some false)
  (e_TooGreat:zcv6 K mainGlobals "TooGreat"=some (some (.ref zcm1)))
  (kk_TooGreat:zcy5 K zcm1=some zct6)
  (tt_TooGreat:zcz2 K (.ref zcm1)=some (.type "type"))
  (nn_TooGreat:zcw8 K (.type "NoneType") (.ref zcm1)=some false)
  (e_NoEven:zcv6 K mainGlobals "NoEven"=some (some (.ref zcm9)))
  (kk_NoEven:zcy5 K zcm9=some zcu1)
  (tt_NoEven:zcz2 K (.ref zcm9)=some (.type "type"))
  (nn_NoEven:zcw8 K (.type "NoneType") (.ref zcm9)=some false)
  (e_NoText:zcv6 K mainGlobals "NoText"=some (some (.ref zcn0)))
  (kk_NoText:zcy5 K zcn0=some zcu2)
  (tt_NoText:zcz2 K (.ref zcn0)=some (.type "type"))
  (nn_NoText:zcw8 K (.type "NoneType") (.ref zcn0)=some false)
  (e_NoRow:zcv6 K mainGlobals "NoRow"=some (some (.ref zcn3)))
  (kk_NoRow:zcy5 K zcn3=some zcu5)
  (tt_NoRow:zcz2 K (.ref zcn3)=some (.type "type"))
  (nn_NoRow:zcw8 K (.type "NoneType") (.ref zcn3)=some false)
  (e_NoName:zcv6 K mainGlobals "NoName"=some (some (.ref zcn1)))
  (kk_NoName:zcy5 K zcn1=some zcu3)
  (tt_NoName:zcz2 K (.ref zcn1)=some (.type "type"))
  (nn_NoName:zcw8 K (.type "NoneType") (.ref zcn1)=some false)
  (e_NoPlace:zcv6 K mainGlobals "NoPlace"=some (some (.ref zcm3)))
  (kk_NoPlace:zcy5 K zcm3=some zct8)
  (tt_NoPlace:zcz2 K (.ref zcm3)=some (.type "type"))
  (nn_NoPlace:zcw8 K (.type "NoneType") (.ref zcm3)=some false)
  (bb_HostError:zcw8 K (.ref zcl8) (.type "BaseException")=some true)
  (x_HostError:PySem.W.excIn K zcl8 bmV newV=true)
  (ob_NoBattle:K.lookup zcl5=some (excClassObj nm_NoBattle qn_NoBattle zcl5 N_NoBattle bs_NoBattle (.ref zcl8 :: bmV) true sn_NoBattle sub_NoBattle ab_NoBattle col_NoBattle dd_NoBattle k0_NoBattle k1_NoBattle k2_NoBattle k3_NoBattle k5_NoBattle newV))
  (in_NoBattle:zcy7 K (.ref zcl5) "__init__"=some (some (.ref zcm6)))
  (ty_NoBattle:zcz2 K (.ref zcm6)=some (.type "function"))
  (sa_NoBattle:zcy7 K (.ref zcl5) "__setattr__"=some (some (.builtin "object.__setattr__")))
  (nf_NoBattle:zcy7 K (.ref zcl5) "field"=some none)
  (hd_NoBattle:zdd5 K zcl5=true)
  (li_NoBattle:K.lookup zcm6=some ⟨ioc_NoBattle,iod_NoBattle,.func (zcw4 "__init__" "NoBattle.__init__" (zb2 zo9) (za9 zo9) (za3 zo9) .none ikV_NoBattle idc_NoBattle ipm_NoBattle ian_NoBattle icd_NoBattle ict_NoBattle),isl_NoBattle⟩)
  (ci_NoBattle:zcw1 K icd_NoBattle "NoBattle.__init__"=true)
  (ki_NoBattle:zcw0 K (.ref zcm6)=true)
  (f1_NoBattle:zcy7 K (.ref zcl5) "__getattribute__"=some (some (.builtin "BaseException.__getattribute__")))
  (f2_NoBattle:zcy7 K (.ref zcl5) "__getattr__"=some none)
  (f3_NoBattle:zcy7 K (.ref zcl5) "__class__"=some (some (.builtin "object.__class__")))
  (f4_NoBattle:zcw8 K (.ref zcl5) (.type "BaseException")=some true)
  (f5_NoBattle:PySem.W.mroIn K zcl5 (.type "object")=some true)
  (f6_NoBattle:zcw8 K (.ref zcl5) (.type "ValueError")=some true)
  (s_NoBattle_HostError:zcw8 K (.ref zcl5) (.ref zcl8)=some true)
  (s_NoBattle_NoBattle:zcw8 K (.ref zcl5) (.ref zcl5)=some true)
  (s_NoBattle_NoPlan:zcw8 K (.ref zcl5) (.ref zcm7)=some false)
  (s_NoBattle_NoMix:zcw8 K (.ref zcl5) (.ref zcl6)=some false)
  (s_NoBattle_NoStream:zcw8 K (.ref zcl5) (.ref zcl9)=some false)
  (s_NoBattle_NoSide:zcw8 K (.ref zcl5) (.ref zcm8)=some false)
  (s_NoBattle_NoAlike:zcw8 K (.ref zcl5) (.ref zcm2)=some false)
  (s_NoBattle_NoNumber:zcw8 K (.ref zcl5) (.ref zcm0)=some false)
  (s_NoBattle_TooGreat:zcw8 K (.ref zcl5) (.ref zcm1)=some false)
  (s_NoBattle_NoEven:zcw8 K (.ref zcl5) (.ref zcm9)=some false)
  (s_NoBattle_NoText:zcw8 K (.ref zcl5) (.ref zcn0)=some false)
  (s_NoBattle_NoRow:zcw8 K (.ref zcl5) (.ref zcn3)=some false)
  (s_NoBattle_NoName:zcw8 K (.ref zcl5) (.ref zcn1)=some false)
  (s_NoBattle_NoPlace:zcw8 K (.ref zcl5) (.ref zcm3)=some false)
  (x_NoMix:PySem.W.excIn K zcl6 bmV newV=true)
  (f1_NoMix:zcy7 K (.ref zcl6) "__getattribute__"=some (some (.builtin "BaseException.__getattribute__")))
  (f2_NoMix:zcy7 K (.ref zcl6) "__getattr__"=some none)
  (f3_NoMix:zcy7 K (.ref zcl6) "__class__"=some (some (.builtin "object.__class__")))
  (f4_NoMix:zcw8 K (.ref zcl6) (.type "BaseException")=some true)
  (f5_NoMix:PySem.W.mroIn K zcl6 (.type "object")=some true)
  (f6_NoMix:zcw8 K (.ref zcl6) (.type "ValueError")=some true)
  (s_NoMix_HostError:zcw8 K (.ref zcl6) (.ref zcl8)=some true)
  (s_NoMix_NoBattle:zcw8 K (.ref zcl6) (.ref zcl5)=some false)
  (s_NoMix_NoPlan:zcw8 K (.ref zcl6) (.ref zcm7)=some false)
  (s_NoMix_NoMix:zcw8 K (.ref zcl6) (.ref zcl6)=some true)
  (s_NoMix_NoStream:zcw8 K (.ref zcl6) (.ref zcl9)=some false)
  (s_NoMix_NoSide:zcw8 K (.ref zcl6) (.ref zcm8)=some false)
  (s_NoMix_NoAlike:zcw8 K (.ref zcl6) (.ref zcm2)=some false)
  (s_NoMix_NoNumber:zcw8 K (.ref zcl6) (.ref zcm0)=some false)
  (s_NoMix_TooGreat:zcw8 K (.ref zcl6) (.ref zcm1)=some false)
  (s_NoMix_NoEven:zcw8 K (.ref zcl6) (.ref zcm9)=some false)
  (s_NoMix_NoText:zcw8 K (.ref zcl6) (.ref zcn0)=some false)
  (s_NoMix_NoRow:zcw8 K (.ref zcl6) (.ref zcn3)=some false)
  (s_NoMix_NoName:zcw8 K (.ref zcl6) (.ref zcn1)=some false)
  (s_NoMix_NoPlace:zcw8 K (.ref zcl6) (.ref zcm3)=some false) :
  ∃ fd:FuncData,(∀ (s:Shared) (v:Value),BindsTo s fd ⟨[v],[]⟩ [("_law_script",v)])/\∀ base:Heap,K.In base->base.Ns mainGlobals mg->FnOk l.prog w K mg base CX0 13 fa fd ["_law_script"] (spLaw K):=by
 have e:=hfa.symm.trans (zcv7 X G a_55)
 cases e
 have N:Nm mg:=⟨zcz1 X G z_ValueError,zcz1 X G z_abs,zcz1 X G z_all,zcz1 X G z_bool,zcz1 X G z_enumerate,zcz1 X G z_int,zcz1 X G z_isinstance,zcz1 X G z_len,zcz1 X G z_list,zcz1 X G z_range,zcz1 X G z_sorted,zcz1 X G z_sum,zcz1 X G z_tuple,zcz1 X G z_zip⟩
 have zcs1:=zcv7 X G e_MOST_HOSTS_plans
 have zcr9:=zcv7 X G e_MOST_FIELDS_plans
 have zcs0:=zcv7 X G e_MOST_HOSTS_fields
 have zcr6:=zcv7 X G e_MOST_FIELDS_fields
 have F_0:=zc4 (st:=zu0) l_0 c_0 k_0
 have F_1:=zc4 (st:=zv7) l_1 c_1 k_1
 have F_2:=zc4 (st:=zp1) l_2 c_2 k_2
 have F_3:=zc4 (st:=zm9) l_3 c_3 k_3
 have F_4:=zc4 (st:=zv9) l_4 c_4 k_4
 have F_5:=zc4 (st:=zw3) l_5 c_5 k_5
 have F_6:=zc4 (st:=zw4) l_6 c_6 k_6
 have F_7:=zc4 (st:=zz5) l_7 c_7 k_7
 have F_8:=zc4 (st:=zt8) l_8 c_8 k_8
 have F_9:=zc4 (st:=zr5) l_9 c_9 k_9
 have F_10:=zc4 (st:=zt6) l_10 c_10 k_10
 have F_11:=zc4 (st:=zl2) l_11 c_11 k_11
 have F_12:=zc4 (st:=zu2) l_12 c_12 k_12
 have F_13:=zc4 (st:=zt7) l_13 c_13 k_13
 have F_14:=zc4 (st:=zn1) l_14 c_14 k_14
 have F_15:=zc4 (st:=zbl3) l_15 c_15 k_15
 have F_16:=zc4 (st:=zw2) l_16 c_16 k_16
 have F_17:=zc4 (st:=zz8) l_17 c_17 k_17
 have F_18:=zc4 (st:=zz6) l_18 c_18 k_18
 have F_19:=zc4 (st:=zz4) l_19 c_19 k_19
 have F_20:=zc4 (st:=zae4) l_20 c_20 k_20
 have F_21:=zc4 (st:=zq7) l_21 c_21 k_21
 have F_22:=zc4 (st:=zu3) l_22 c_22 k_22
 have F_23:=zc4 (st:=zj7) l_23 c_23 k_23
 have F_24:=zc4 (st:=zn4) l_24 c_24 k_24
 have F_25:=zc4 (st:=zz1) l_25 c_25 k_25
 have F_26:=zc4 (st:=zq6) l_26 c_26 k_26
 have F_27:=zc4 (st:=zp4) l_27 c_27 k_27
 have F_28:=zc4 (st:=zq9) l_28 c_28 k_28
 have F_29:=zc4 (st:=zi5) l_29 c_29 k_29
 have F_30:=zc4 (st:=zaf1) l_30 c_30 k_30
 have F_31:=zc4 (st:=zl0) l_31 c_31 k_31
 have F_32:=zc4 (st:=zl5) l_32 c_32 k_32
 have F_33:=zc4 (st:=zl1) l_33 c_33 k_33
 have F_34:=zc4 (st:=zj8) l_34 c_34 k_34
 have F_35:=zc4 (st:=zp5) l_35 c_35 k_35
 have F_36:=zc4 (st:=zl3) l_36 c_36 k_36
 have F_37:=zc4 (st:=zn0) l_37 c_37 k_37
 have F_38:=zc4 (st:=zr6) l_38 c_38 k_38
 have F_39:=zc4 (st:=zi4) l_39 c_39 k_39
 have F_40:=zc4 (st:=zf8) l_40 c_40 k_40
 have F_41:=zc4 (st:=zf7) l_41 c_41 k_41
 have F_42:=zc4 (st:=zf2) l_42 c_42 k_42
 have F_43:=zc4 (st:=zn2) l_43 c_43 k_43
 have F_44:=zc4 (st:=zi0) l_44 c_44 k_44
 have F_45:=zc4 (st:=zj9) l_45 c_45 k_45
 have F_46:=zc4 (st:=zt9) l_46 c_46 k_46
 have F_47:=zc4 (st:=zh0) l_47 c_47 k_47
 have F_48:=zc4 (st:=zi1) l_48 c_48 k_48
 have F_49:=zc4 (st:=zj6) l_49 c_49 k_49
 have F_50:=zc4 (st:=zp3) l_50 c_50 k_50
 have F_51:=zc4 (st:=zk9) l_51 c_51 k_51
 have F_52:=zc4 (st:=zn6) l_52 c_52 k_52
 have F_53:=zc4 (st:=zi3) l_53 c_53 k_53
 have F_54:=zc4 (st:=zf9) l_54 c_54 k_54
 have F_55:=zc4 (st:=zaq9) l_55 c_55 k_55
 refine⟨zcw4 "law" "law" (zb2 zaq9) (za9 zaq9) (za3 zaq9) .none kV_55 dc_55 pm_55 an_55 cd_55 ct_55,fun s v=>.of_eq rfl,fun base XB GB=>?_⟩
 have Z:Cz K mg base zcl8 zcl5 zcm7 zcl6 zcl9 zcm8 zcm2 zcm0 zcm1 zcm9 zcn0 zcn3 zcn1 zcm3 zcm6:=⟨zcv7 X G e_HostError,zcv7 X G e_NoBattle,zcv7 X G e_NoPlan,zcv7 X G e_NoMix,zcv7 X G e_NoStream,zcv7 X G e_NoSide,zcv7 X G e_NoAlike,zcv7 X G e_NoNumber,zcv7 X G e_TooGreat,zcv7 X G e_NoEven,zcv7 X G e_NoText,zcv7 X G e_NoRow,zcv7 X G e_NoName,zcv7 X G e_NoPlace,⟨⟨_,_,_,_,_,_,_,_,_,_,_,_,_,_,ob_NoBattle⟩,fun h X=>zbs0 X x_HostError,in_NoBattle,ty_NoBattle,sa_NoBattle,nf_NoBattle⟩,⟨_,zc4 (st:=zo9) li_NoBattle ci_NoBattle ki_NoBattle,(zc4 (st:=zo9) li_NoBattle ci_NoBattle ki_NoBattle).binds fun _ _ _ _ _ _ us hl=>match us,hl with | [_,_],_=>rfl⟩,hd_NoBattle,⟨f1_NoBattle,f2_NoBattle,f3_NoBattle,f4_NoBattle,f5_NoBattle⟩,by rw[kk_NoBattle];rfl,zbw6 bb_HostError kk_HostError tt_HostError s_NoBattle_HostError,zaa6 f6_NoBattle,ze8 kk_HostError tt_HostError s_NoBattle_HostError s_NoBattle_NoBattle,ze8 kk_NoBattle tt_NoBattle s_NoBattle_NoBattle s_NoBattle_NoBattle,ze8 kk_NoPlan tt_NoPlan s_NoBattle_NoPlan s_NoBattle_NoBattle,ze8 kk_NoMix tt_NoMix s_NoBattle_NoMix s_NoBattle_NoBattle,ze8 kk_NoStream tt_NoStream s_NoBattle_NoStream s_NoBattle_NoBattle,ze8 kk_NoSide tt_NoSide s_NoBattle_NoSide s_NoBattle_NoBattle,ze8 kk_NoAlike tt_NoAlike s_NoBattle_NoAlike s_NoBattle_NoBattle,ze8 kk_NoNumber tt_NoNumber s_NoBattle_NoNumber s_NoBattle_NoBattle,ze8 kk_TooGreat tt_TooGreat s_NoBattle_TooGreat s_NoBattle_NoBattle,ze8 kk_NoEven tt_NoEven s_NoBattle_NoEven s_NoBattle_NoBattle,ze8 kk_NoText tt_NoText s_NoBattle_NoText s_NoBattle_NoBattle,ze8 kk_NoRow tt_NoRow s_NoBattle_NoRow s_NoBattle_NoBattle,ze8 kk_NoName tt_NoName s_NoBattle_NoName s_NoBattle_NoBattle,ze8 kk_NoPlace tt_NoPlace s_NoBattle_NoPlace s_NoBattle_NoBattle,zca7 XB GB e_NoMix x_NoMix,⟨f1_NoMix,f2_NoMix,f3_NoMix,f4_NoMix,f5_NoMix⟩,by rw[kk_NoMix];rfl,zbw6 bb_HostError kk_HostError tt_HostError s_NoMix_HostError,zaa6 f6_NoMix,ze8 kk_HostError tt_HostError s_NoMix_HostError s_NoMix_NoMix,ze8 kk_NoBattle tt_NoBattle s_NoMix_NoBattle s_NoMix_NoMix,ze8 kk_NoPlan tt_NoPlan s_NoMix_NoPlan s_NoMix_NoMix,ze8 kk_NoMix tt_NoMix s_NoMix_NoMix s_NoMix_NoMix,ze8 kk_NoStream tt_NoStream s_NoMix_NoStream s_NoMix_NoMix,ze8 kk_NoSide tt_NoSide s_NoMix_NoSide s_NoMix_NoMix,ze8 kk_NoAlike tt_NoAlike s_NoMix_NoAlike s_NoMix_NoMix,ze8 kk_NoNumber tt_NoNumber s_NoMix_NoNumber s_NoMix_NoMix,ze8 kk_TooGreat tt_TooGreat s_NoMix_TooGreat s_NoMix_NoMix,ze8 kk_NoEven tt_NoEven s_NoMix_NoEven s_NoMix_NoMix,ze8 kk_NoText tt_NoText s_NoMix_NoText s_NoMix_NoMix,ze8 kk_NoRow tt_NoRow s_NoMix_NoRow s_NoMix_NoMix,ze8 kk_NoName tt_NoName s_NoMix_NoName s_NoMix_NoMix,ze8 kk_NoPlace tt_NoPlace s_NoMix_NoPlace s_NoMix_NoMix,zl9 kk_HostError tt_HostError nn_HostError,zl9 kk_NoBattle tt_NoBattle nn_NoBattle,zl9 kk_NoPlan tt_NoPlan nn_NoPlan,zl9 kk_NoMix tt_NoMix nn_NoMix,zl9 kk_NoStream tt_NoStream nn_NoStream,zl9 kk_NoSide tt_NoSide nn_NoSide,zl9 kk_NoAlike tt_NoAlike nn_NoAlike,zl9 kk_NoNumber tt_NoNumber nn_NoNumber,zl9 kk_TooGreat tt_TooGreat nn_TooGreat,zl9 kk_NoEven tt_NoEven nn_NoEven,zl9 kk_NoText tt_NoText nn_NoText,zl9 kk_NoRow tt_NoRow nn_NoRow,zl9 kk_NoName tt_NoName nn_NoName,zl9 kk_NoPlace tt_NoPlace nn_NoPlace⟩
 have zcn8:Def l.prog w K mg base CX0 1 "is_whole" ["thing"] zj0:=⟨⟨_,_,zba8 (P:=l.prog) (w:=w) (base:=base) F_0 N ,zcv7 X G a_0,k_0,F_0.binds fun _ _ _ _ _ _ us hl=>match us,hl with | [_],_=>rfl⟩⟩
 have zcn2:Def l.prog w K mg base CX0 2 "is_from" ["thing","least"] zi2:=⟨⟨_,_,zbl6 (P:=l.prog) (w:=w) (base:=base) F_1 N zcn8,zcv7 X G a_1,k_1,F_1.binds fun _ _ _ _ _ _ us hl=>match us,hl with | [_,_],_=>rfl⟩⟩
 have zcm4:Def l.prog w K mg base CX0 3 "is_between" ["thing","least","most"] ze4:=⟨⟨_,_,zat3 (P:=l.prog) (w:=w) (base:=base) F_2 N zcn2,zcv7 X G a_2,k_2,F_2.binds fun _ _ _ _ _ _ us hl=>match us,hl with | [_,_,_],_=>rfl⟩⟩
 have zcn9:Def l.prog w K mg base CX0 3 "sends_hosts" ["plan"] zg9:=⟨⟨_,_,zao8 (P:=l.prog) (w:=w) (base:=base) F_3 N zcn2,zcv7 X G a_3,k_3,F_3.binds fun _ _ _ _ _ _ us hl=>match us,hl with | [_],_=>rfl⟩⟩
 have zcq4:Def l.prog w K mg base CX0 4 "is_plan" ["hosts","fields","plan"] zp0:=⟨⟨_,_,zbl1 (P:=l.prog) (w:=w) (base:=base) F_4 N zcn9,zcv7 X G a_4,k_4,F_4.binds fun _ _ _ _ _ _ us hl=>match us,hl with | [_,_,_],_=>rfl⟩⟩
 have zcq5:Def l.prog w K mg base CX0 4 "is_size" ["hosts","fields"] zo8:=⟨⟨_,_,zbj2 (P:=l.prog) (w:=w) (base:=base) F_5 N zcr9 zcs1 zcm4,zcv7 X G a_5,k_5,F_5.binds fun _ _ _ _ _ _ us hl=>match us,hl with | [_,_],_=>rfl⟩⟩
 have zcs7:Def l.prog w K mg base CX0 4 "is_part" ["part"] zr2:=⟨⟨_,_,zbk1 (P:=l.prog) (w:=w) (base:=base) F_6 N zcn2 zcn9,zcv7 X G a_6,k_6,F_6.binds fun _ _ _ _ _ _ us hl=>match us,hl with | [_],_=>rfl⟩⟩
 have zcr3:Def l.prog w K mg base CX0 5 "is_mix" ["mix"] zs1:=⟨⟨_,_,zbo4 (P:=l.prog) (w:=w) (base:=base) F_7 N zcs7 zcq4 zcq5,zcv7 X G a_7,k_7,F_7.binds fun _ _ _ _ _ _ us hl=>match us,hl with | [_],_=>rfl⟩⟩
 have zcs2:Def l.prog w K mg base (CXR l.prog w) 6 "look_mix" ["mix"] (zo2 zcl6):=⟨⟨_,_,zbc7 (P:=l.prog) (w:=w) (base:=base) F_8 N zcr3 Z,zcv7 X G a_8,k_8,F_8.binds fun _ _ _ _ _ _ us hl=>match us,hl with | [_],_=>rfl⟩⟩
 have zcr8:Def l.prog w K mg base CX0 4 "are_hosts" ["first","second"] zm3:=⟨⟨_,_,zau8 (P:=l.prog) (w:=w) (base:=base) F_9 N zcs0 zcm4,zcv7 X G a_9,k_9,F_9.binds fun _ _ _ _ _ _ us hl=>match us,hl with | [_,_],_=>rfl⟩⟩
 have zcs4:Def l.prog w K mg base CX0 5 "has_size" ["battle"] zo4:=⟨⟨_,_,zbe1 (P:=l.prog) (w:=w) (base:=base) F_10 N zcr6 zcr8,zcv7 X G a_10,k_10,F_10.binds fun _ _ _ _ _ _ us hl=>match us,hl with | [_],_=>rfl⟩⟩
 have zcq1:Def l.prog w K mg base CX0 2 "is_table_row" ["many_numbers","row"] zh5:=⟨⟨_,_,zak9 (P:=l.prog) (w:=w) (base:=base) F_11 N zcn8,zcv7 X G a_11,k_11,F_11.binds fun _ _ _ _ _ _ us hl=>match us,hl with | [_,_],_=>rfl⟩⟩
 have zcs3:Def l.prog w K mg base CX0 3 "is_table" ["many_rows","many_numbers","rows"] zo3:=⟨⟨_,_,zbd2 (P:=l.prog) (w:=w) (base:=base) F_12 N zcq1,zcv7 X G a_12,k_12,F_12.binds fun _ _ _ _ _ _ us hl=>match us,hl with | [_,_,_],_=>rfl⟩⟩
 have zcs5:Def l.prog w K mg base CX0 4 "is_field" ["first","second","field"] zo6:=⟨⟨_,_,zbb6 (P:=l.prog) (w:=w) (base:=base) F_13 N zcm4 zcn2 zcs3 zcn8,zcv7 X G a_13,k_13,F_13.binds fun _ _ _ _ _ _ us hl=>match us,hl with | [_,_,_],_=>rfl⟩⟩
 have zcq7:Def l.prog w K mg base (CXR l.prog w) 6 "look_battle" ["battle"] (zf4 zcl5):=⟨⟨_,_,zao6 (P:=l.prog) (w:=w) (base:=base) F_14 N zcs4 zcs5 Z,zcv7 X G a_14,k_14,F_14.binds fun _ _ _ _ _ _ us hl=>match us,hl with | [_],_=>rfl⟩⟩
 have D_won:Def l.prog w K mg base CX0 1 "won" ["field","x","y"] zaj1:=⟨⟨_,_,ok_won (P:=l.prog) (w:=w) (base:=base) F_15 N ,zcv7 X G a_15,k_15,F_15.binds fun _ _ _ _ _ _ us hl=>match us,hl with | [_,_,_],_=>rfl⟩⟩
 have zcs8:Def l.prog w K mg base CX0 4 "is_flow" ["thing"] zr8:=⟨⟨_,_,zbj0 (P:=l.prog) (w:=w) (base:=base) F_16 N zcm4 zcn2,zcv7 X G a_16,k_16,F_16.binds fun _ _ _ _ _ _ us hl=>match us,hl with | [_],_=>rfl⟩⟩
 have zcr4:Def l.prog w K mg base CX0 5 "is_row" ["row"] zs5:=⟨⟨_,_,zbv9 (P:=l.prog) (w:=w) (base:=base) F_17 N zcs8,zcv7 X G a_17,k_17,F_17.binds fun _ _ _ _ _ _ us hl=>match us,hl with | [_],_=>rfl⟩⟩
 have zcr5:Def l.prog w K mg base CX0 6 "begins" ["stream"] zs3:=⟨⟨_,_,zbp8 (P:=l.prog) (w:=w) (base:=base) F_18 N zcr4,zcv7 X G a_18,k_18,F_18.binds fun _ _ _ _ _ _ us hl=>match us,hl with | [_],_=>rfl⟩⟩
 have zco9:Def l.prog w K mg base CX0 1 "summed" ["pairs"] zm6:=⟨⟨_,_,zbu7 (P:=l.prog) (w:=w) (base:=base) F_19 N ,zcv7 X G a_19,k_19,F_19.binds fun _ _ _ _ _ _ us hl=>match us,hl with | [_],_=>rfl⟩⟩
 have zct1:Def l.prog w K mg base CX0 2 "meets" ["ahead","row"] zw5:=⟨⟨_,_,zby3 (P:=l.prog) (w:=w) (base:=base) F_20 N zco9,zcv7 X G a_20,k_20,F_20.binds fun _ _ _ _ _ _ us hl=>match us,hl with | [_,_],_=>rfl⟩⟩
 have zcr7:Def l.prog w K mg base CX0 7 "is_stream" ["hosts","fields","stream"] zm2:=⟨⟨_,_,zav2 (P:=l.prog) (w:=w) (base:=base) F_21 N zcr5 zcr4 zct1,zcv7 X G a_21,k_21,F_21.binds fun _ _ _ _ _ _ us hl=>match us,hl with | [_,_,_],_=>rfl⟩⟩
 have zco7:Def l.prog w K mg base CX0 1 "hosts_in" ["stream"] zm7:=⟨⟨_,_,zbb1 (P:=l.prog) (w:=w) (base:=base) F_22 N ,zcv7 X G a_22,k_22,F_22.binds fun _ _ _ _ _ _ us hl=>match us,hl with | [_],_=>rfl⟩⟩
 have zcp7:Def l.prog w K mg base CX0 8 "is_any_stream" ["stream"] zg4:=⟨⟨_,_,zah2 (P:=l.prog) (w:=w) (base:=base) F_23 N zcr5 zco7 zcq5 zcr7,zcv7 X G a_23,k_23,F_23.binds fun _ _ _ _ _ _ us hl=>match us,hl with | [_],_=>rfl⟩⟩
 have zcq6:Def l.prog w K mg base CX0 9 "look_stream" ["stream"] zi9:=⟨⟨_,_,zao1 (P:=l.prog) (w:=w) (base:=base) F_24 N zcp7 Z,zcv7 X G a_24,k_24,F_24.binds fun _ _ _ _ _ _ us hl=>match us,hl with | [_],_=>rfl⟩⟩
 have zcs9:Def l.prog w K mg base CX0 2 "row_of" ["mix","field"] zu7:=⟨⟨_,_,zbr4 (P:=l.prog) (w:=w) (base:=base) F_25 N zco9,zcv7 X G a_25,k_25,F_25.binds fun _ _ _ _ _ _ us hl=>match us,hl with | [_,_],_=>rfl⟩⟩
 have zcq9:Def l.prog w K mg base (CXR l.prog w) 7 "stream_of" ["mix"] (zm5 zcl6):=⟨⟨_,_,zax2 (P:=l.prog) (w:=w) (base:=base) F_26 N zcs2 zcs9,zcv7 X G a_26,k_26,F_26.binds fun _ _ _ _ _ _ us hl=>match us,hl with | [_],_=>rfl⟩⟩
 have zcr2:Def l.prog w K mg base CX0 2 "row_shares" ["hosts","row"] zk6:=⟨⟨_,_,zat1 (P:=l.prog) (w:=w) (base:=base) F_27 N zco9,zcv7 X G a_27,k_27,F_27.binds fun _ _ _ _ _ _ us hl=>match us,hl with | [_,_],_=>rfl⟩⟩
 have zcq8:Def l.prog w K mg base CX0 10 "shares_of" ["stream"] zm4:=⟨⟨_,_,zax4 (P:=l.prog) (w:=w) (base:=base) F_28 N zco7 zcq6 zcr2,zcv7 X G a_28,k_28,F_28.binds fun _ _ _ _ _ _ us hl=>match us,hl with | [_],_=>rfl⟩⟩
 have zcp4:Def l.prog w K mg base CX0 1 "common_divisor" ["one","other"] zf0:=⟨⟨_,_,zaf5 (P:=l.prog) (w:=w) (base:=base) F_29 N ,zcv7 X G a_29,k_29,F_29.binds fun _ _ _ _ _ _ us hl=>match us,hl with | [_,_],_=>rfl⟩⟩
 have zct2:Def l.prog w K mg base CX0 2 "ratio" ["top","bottom"] zw9:=⟨⟨_,_,zby7 (P:=l.prog) (w:=w) (base:=base) F_30 N zcp4 Z,zcv7 X G a_30,k_30,F_30.binds fun _ _ _ _ _ _ us hl=>match us,hl with | [_,_],_=>rfl⟩⟩
 have zcp1:Def l.prog w K mg base CX0 1 "whole_weight" ["mix"] zh7:=⟨⟨_,_,zak3 (P:=l.prog) (w:=w) (base:=base) F_31 N ,zcv7 X G a_31,k_31,F_31.binds fun _ _ _ _ _ _ us hl=>match us,hl with | [_],_=>rfl⟩⟩
 have zcp0:Def l.prog w K mg base (CXR l.prog w) 6 "look_own_mix" ["hosts","fields","mix"] (zh6 zcl6):=⟨⟨_,_,zal9 (P:=l.prog) (w:=w) (base:=base) F_32 N zcr3 zcq4 Z,zcv7 X G a_32,k_32,F_32.binds fun _ _ _ _ _ _ us hl=>match us,hl with | [_,_,_],_=>rfl⟩⟩
 have zcq3:Def l.prog w K mg base CX0 2 "won_by_count" ["field","x","others"] zh3:=⟨⟨_,_,zak6 (P:=l.prog) (w:=w) (base:=base) F_33 N D_won,zcv7 X G a_33,k_33,F_33.binds fun _ _ _ _ _ _ us hl=>match us,hl with | [_,_,_],_=>rfl⟩⟩
 have zcp8:Def l.prog w K mg base CX0 3 "won_by_shares" ["field","own","others"] zg1:=⟨⟨_,_,zah1 (P:=l.prog) (w:=w) (base:=base) F_34 N zcq3,zcv7 X G a_34,k_34,F_34.binds fun _ _ _ _ _ _ us hl=>match us,hl with | [_,_,_],_=>rfl⟩⟩
 have zcn7:Def l.prog w K mg base (CXR l.prog w) 11 "mixed_gain" ["battle","one","other"] (zd7 zcl5 zcl6):=⟨⟨_,_,zat2 (P:=l.prog) (w:=w) (base:=base) F_35 N zcq7 zcp0 zct2 zcq8 zcq9 zcp1 zcp8,zcv7 X G a_35,k_35,F_35.binds fun _ _ _ _ _ _ us hl=>match us,hl with | [_,_,_],_=>rfl⟩⟩
 have zcq2:Def l.prog w K mg base CX0 1 "_law_stirred" ["_law_number","_law_k"] zh9:=⟨⟨_,_,zal8 (P:=l.prog) (w:=w) (base:=base) F_36 N ,zcv7 X G a_36,k_36,F_36.binds fun _ _ _ _ _ _ us hl=>match us,hl with | [_,_],_=>rfl⟩⟩
 have zcr1:Def l.prog w K mg base CX0 1 "_law_opened" ["_law_cell"] zj1:=⟨⟨_,_,zan6 (P:=l.prog) (w:=w) (base:=base) F_37 N ,zcv7 X G a_37,k_37,F_37.binds fun _ _ _ _ _ _ us hl=>match us,hl with | [_],_=>rfl⟩⟩
 have zcl7:Def l.prog w K mg base CX0 2 "_law_draw" ["_law_left","_law_base"] zd5:=⟨⟨_,_,zaw1 (P:=l.prog) (w:=w) (base:=base) F_38 N zcq2,zcv7 X G a_38,k_38,F_38.binds fun _ _ _ _ _ _ us hl=>match us,hl with | [_,_],_=>rfl⟩⟩
 have zcp5:Def l.prog w K mg base CX0 1 "_law_in_lowest" ["_law_top","_law_bottom"] zf3:=⟨⟨_,_,zaf9 (P:=l.prog) (w:=w) (base:=base) F_39 N ,zcv7 X G a_39,k_39,F_39.binds fun _ _ _ _ _ _ us hl=>match us,hl with | [_,_],_=>rfl⟩⟩
 have zco4:Def l.prog w K mg base CX0 3 "_law_drawn_worth" ["_law_left"] ze0:=⟨⟨_,_,zab3 (P:=l.prog) (w:=w) (base:=base) F_40 N zcl7,zcv7 X G a_40,k_40,F_40.binds fun _ _ _ _ _ _ us hl=>match us,hl with | [_],_=>rfl⟩⟩
 have zco5:Def l.prog w K mg base CX0 4 "_law_drawn_field" ["_law_left","_law_first","_law_second"] zd9:=⟨⟨_,_,zab5 (P:=l.prog) (w:=w) (base:=base) F_41 N zcl7 zco4,zcv7 X G a_41,k_41,F_41.binds fun _ _ _ _ _ _ us hl=>match us,hl with | [_,_,_],_=>rfl⟩⟩
 have zco3:Def l.prog w K mg base CX0 5 "_law_drawn_battle" ["_law_left","_law_most","_law_many"] zd4:=⟨⟨_,_,zz9 (P:=l.prog) (w:=w) (base:=base) F_42 N zcl7 zco5,zcv7 X G a_42,k_42,F_42.binds fun _ _ _ _ _ _ us hl=>match us,hl with | [_,_,_],_=>rfl⟩⟩
 have zcr0:Def l.prog w K mg base CX0 1 "_law_copied" ["_law_battle"] zi7:=⟨⟨_,_,zao0 (P:=l.prog) (w:=w) (base:=base) F_43 N ,zcv7 X G a_43,k_43,F_43.binds fun _ _ _ _ _ _ us hl=>match us,hl with | [_],_=>rfl⟩⟩
 have zcp3:Def l.prog w K mg base CX0 3 "_law_bad_field" ["_law_left","_law_field","_law_first","_law_second"] zf1:=⟨⟨_,_,zae6 (P:=l.prog) (w:=w) (base:=base) F_44 N zcl7,zcv7 X G a_44,k_44,F_44.binds fun _ _ _ _ _ _ us hl=>match us,hl with | [_,_,_,_],_=>rfl⟩⟩
 have zcp9:Def l.prog w K mg base CX0 4 "_law_bent_one" ["_law_left","_law_battle"] zg3:=⟨⟨_,_,zah0 (P:=l.prog) (w:=w) (base:=base) F_45 N zcp3 zcl7,zcv7 X G a_45,k_45,F_45.binds fun _ _ _ _ _ _ us hl=>match us,hl with | [_,_],_=>rfl⟩⟩
 have zcs6:Def l.prog w K mg base CX0 1 "_law_pay" ["_law_field","_law_x","_law_y"] zo5:=⟨⟨_,_,zbc3 (P:=l.prog) (w:=w) (base:=base) F_46 N ,zcv7 X G a_46,k_46,F_46.binds fun _ _ _ _ _ _ us hl=>match us,hl with | [_,_,_],_=>rfl⟩⟩
 have zco8:Def l.prog w K mg base CX0 3 "_law_drawn_plan" ["_law_left","_law_hosts","_law_many"] ze5:=⟨⟨_,_,zad6 (P:=l.prog) (w:=w) (base:=base) F_47 N zcl7,zcv7 X G a_47,k_47,F_47.binds fun _ _ _ _ _ _ us hl=>match us,hl with | [_,_,_],_=>rfl⟩⟩
 have zcm5:Def l.prog w K mg base CX0 4 "_law_drawn_mix" ["_law_left","_law_hosts","_law_many","_law_most"] ze1:=⟨⟨_,_,zaf2 (P:=l.prog) (w:=w) (base:=base) F_48 N zcl7 zco8,zcv7 X G a_48,k_48,F_48.binds fun _ _ _ _ _ _ us hl=>match us,hl with | [_,_,_,_],_=>rfl⟩⟩
 have zco6:Def l.prog w K mg base CX0 1 "_law_is_whole" ["_law_told"] zg2:=⟨⟨_,_,zah5 (P:=l.prog) (w:=w) (base:=base) F_49 N ,zcv7 X G a_49,k_49,F_49.binds fun _ _ _ _ _ _ us hl=>match us,hl with | [_],_=>rfl⟩⟩
 have zcq0:Def l.prog w K mg base CX0 2 "_law_is_it" ["_law_told","_law_due"] zk4:=⟨⟨_,_,zar0 (P:=l.prog) (w:=w) (base:=base) F_50 N zco6,zcv7 X G a_50,k_50,F_50.binds fun _ _ _ _ _ _ us hl=>match us,hl with | [_,_],_=>rfl⟩⟩
 have zcp2:Def l.prog w K mg base CX0 1 "_law_kind_of" ["_law_caught"] (ze6 zcl5 zcl6):=⟨⟨_,_,zan2 (P:=l.prog) (w:=w) (base:=base) F_51 N Z,zcv7 X G a_51,k_51,F_51.binds fun _ _ _ _ _ _ us hl=>match us,hl with | [_],_=>rfl⟩⟩
 have zcp6:Def l.prog w K mg base CX0 2 "_law_due_of" ["_law_battle","_law_one","_law_other"] zi8:=⟨⟨_,_,zap0 (P:=l.prog) (w:=w) (base:=base) F_52 N zcp5 zcs6,zcv7 X G a_52,k_52,F_52.binds fun _ _ _ _ _ _ us hl=>match us,hl with | [_,_,_],_=>rfl⟩⟩
 have zcn4:Def l.prog w K mg base CX0 12 "_law_caught_by" ["_law_battle","_law_one","_law_other"] zd2:=⟨⟨_,_,zaf3 (P:=l.prog) (w:=w) (base:=base) F_53 N zcp2 zcn7 Z,zcv7 X G a_53,k_53,F_53.binds fun _ _ _ _ _ _ us hl=>match us,hl with | [_,_,_],_=>rfl⟩⟩
 have zcn5:Def l.prog w K mg base CX0 5 "_law_other_mixes" ["_law_left","_law_hosts","_law_many"] zd8:=⟨⟨_,_,zac0 (P:=l.prog) (w:=w) (base:=base) F_54 N zcl7 zcm5,zcv7 X G a_54,k_54,F_54.binds fun _ _ _ _ _ _ us hl=>match us,hl with | [_,_,_],_=>rfl⟩⟩
 exact ok_law (P:=l.prog) (w:=w) (base:=base) F_55 N zcp9 zcn4 zcr0 zco3 zcm5 zcp6 zcq0 zcr1 zcn5 zcn7
theorem walk {l:PySem.W.OpenLaw}{q:Program}{loose:List Str}{XP:(Str->Option Value)->Heap->Prop}{YP:World->Heap->Prop}{d:DefRec}{K:Params->zcu8}(hn:l.most=some 63) (hdf:d.params.defaults=[])
  (hY:∀ (w:World) (h:Heap),YP w h->(K w.params).In h)
  (F:∀ (w:World) (mg:Str->Option Value) (fa:Addr) (h:Heap),(K w.params).In h->h.Ns mainGlobals mg->mg d.name=some (.ref fa) ->
   ∃ fd:FuncData,(∀ (s:Shared) (u:Value),BindsTo s fd ⟨[u],[]⟩ [("_law_script",u)])/\∀ base:Heap,(K w.params).In base->base.Ns mainGlobals mg->FnOk l.prog w (K w.params) mg base CX0 13 fa fd ["_law_script"] (spLaw (K w.params))) :
  PySem.W.WalkO q loose XP YP l.row.toRowW d [] (fun f vs=>PySem.call f vs):=
 L2.walk_of (n:=63) (k:=13) (x:="_law_script") (CX:=fun _=>CX0) (sp:=fun w=>spLaw (K w.params)) hn (by decide) hdf ⟨rfl,by decide,by decide,rfl⟩ hY F (fun _ _ a ns hl _ hS=>⟨a,ns,rfl,hS,hl,fun _=>rfl⟩) fun _ _ _ _ _ z=>z
end G
theorem PySem.W.Fast.tw11850502596086237677 : True := trivial
theorem PySem.W.Fast.tw18302010472662394212 : True := trivial
theorem PySem.W.Fast.tw3723793050891099148 : True := trivial
theorem PySem.W.Fast.tw136382030805323261 : True := trivial
theorem PySem.W.Fast.tw9009507408215649504 : True := trivial
theorem PySem.W.Fast.tw1066870899358099723 : True := trivial
theorem PySem.W.Fast.tw7144253951104911885 : True := trivial
theorem PySem.W.Fast.tw3818350622966760717 : True := trivial
theorem PySem.W.Fast.tw5329819092173815493 : True := trivial
theorem PySem.W.Fast.tw13808957679574203516 : True := trivial
theorem PySem.W.Fast.tw2174484926378161686 : True := trivial
theorem PySem.W.Fast.tw10687324310889795238 : True := trivial
theorem PySem.W.Fast.tw13003743606415959322 : True := trivial
theorem PySem.W.Fast.tw3213438160018902130 : True := trivial
theorem PySem.W.Fast.tw7182992152811296652 : True := trivial
theorem PySem.W.Fast.tw2486441481152160353 : True := trivial
theorem PySem.W.Fast.tw6548530423200056000 : True := trivial
theorem PySem.W.Fast.tw3704266813606625576 : True := trivial
theorem PySem.W.Fast.tw12496010513218141144 : True := trivial
theorem PySem.W.Fast.tw12675631733724559060 : True := trivial
theorem PySem.W.Fast.tw17343552532007696076 : True := trivial
theorem PySem.W.Fast.tw16368272167884652576 : True := trivial
theorem PySem.W.Fast.tw30046480150987669 : True := trivial
theorem PySem.W.Fast.tw11237259178100035409 : True := trivial
theorem PySem.W.Fast.tw1648817560892245926 : True := trivial
theorem PySem.W.Fast.tw12125662983209127843 : True := trivial
theorem PySem.W.Fast.tw14510397129634859206 : True := trivial
theorem PySem.W.Fast.tw6297991557880463519 : True := trivial
theorem PySem.W.Fast.tw11166427796984744435 : True := trivial
theorem PySem.W.Fast.tw8804868503979567154 : True := trivial
theorem PySem.W.Fast.tw6304531419398579533 : True := trivial
theorem PySem.W.Fast.tw10408379229194770268 : True := trivial
theorem PySem.W.Fast.tw8252371710227655689 : True := trivial
theorem PySem.W.Fast.tw15984773121021685620 : True := trivial
theorem PySem.W.Fast.tw894860450133999423 : True := trivial
theorem PySem.W.Fast.tw11260638112250452884 : True := trivial
theorem PySem.W.Fast.tw16062168686866048659 : True := trivial
theorem PySem.W.Fast.tw10044651977943103250 : True := trivial
theorem PySem.W.Fast.tw9316227214517522244 : True := trivial
theorem PySem.W.Fast.tw14487070117789413259 : True := trivial
theorem PySem.W.Fast.tw10150158392102900846 : True := trivial
theorem PySem.W.Fast.tw14037268171763654738 : True := trivial
theorem PySem.W.Fast.tw1088955833436734361 : True := trivial
theorem PySem.W.Fast.tw10458114003109660100 : True := trivial
theorem PySem.W.Fast.tw772567388996777635 : True := trivial
theorem PySem.W.Fast.tw1627171811725054703 : True := trivial
theorem PySem.W.Fast.tw17728317561730459615 : True := trivial
theorem PySem.W.Fast.tw6834643073059662698 : True := trivial
theorem PySem.W.Fast.tw11726498625939527782 : True := trivial
theorem PySem.W.Fast.tw12194746739225660759 : True := trivial
theorem PySem.W.Fast.tw1971345597565277240 : True := trivial
theorem PySem.W.Fast.tw4349775616560411456 : True := trivial
theorem PySem.W.Fast.tw9921386865450839554 : True := trivial
theorem PySem.W.Fast.tw9269692821799252805 : True := trivial
theorem PySem.W.Fast.tw481752411551209377 : True := trivial
theorem PySem.W.Fast.tw18288916333795134588 : True := trivial
theorem PySem.W.Fast.tw4242838079546639795 : True := trivial
theorem PySem.W.Fast.tw2672041945574515758 : True := trivial
theorem PySem.W.Fast.tw17350363425022939633 : True := trivial
theorem PySem.W.Fast.tw7387543567606256805 : True := trivial
theorem PySem.W.Fast.tw3255915348065527972 : True := trivial
theorem PySem.W.Fast.tw4855796480010028294 : True := trivial
theorem PySem.W.Fast.tw232401194166034099 : True := trivial
theorem PySem.W.Fast.tw18384881137542442326 : True := trivial
open PySem PySem.W PyProof.Rows
set_option maxRecDepth 100000 in
set_option maxHeartbeats 0 in
theorem PySem.Challenge.cw_hostfields_k73_mixes_held_against_one_an_holds : PySem.Challenge.rw_hostfields_k73_mixes_held_against_one_an.Holds := by
 w_on;o_law;k_head;(case hw=>w_witness2)
 k_fill
 first|refine G.walk (l:=PySem.Challenge.rw_hostfields_k73_mixes_held_against_one_an) rfl rfl (fun w h Y=>PySem.W.kIn_of Y) ?F|refine G.walk (l:=PySem.Challenge.rw_hostfields_k73_mixes_held_against_one_an) rfl rfl (fun w h Y=>PySem.W.km_in_of Y) ?F
 case F=>
  intro w mg fa h KX GG hmg
  refine' G.all_mk KX GG hmg ?e_MOST_HOSTS_plans ?e_MOST_FIELDS_plans ?e_MOST_HOSTS_fields ?e_MOST_FIELDS_fields ?a_0 ?l_0 ?c_0 ?k_0 ?a_1 ?l_1 ?c_1 ?k_1 ?a_2 ?l_2 ?c_2 ?k_2 ?a_3 ?l_3 ?c_3 ?k_3 ?a_4 ?l_4 ?c_4 ?k_4 ?a_5 ?l_5 ?c_5 ?k_5 ?a_6 ?l_6 ?c_6 ?k_6 ?a_7 ?l_7 ?c_7 ?k_7 ?a_8 ?l_8 ?c_8 ?k_8 ?a_9 ?l_9 ?c_9 ?k_9 ?a_10 ?l_10 ?c_10 ?k_10 ?a_11 ?l_11 ?c_11 ?k_11 ?a_12 ?l_12 ?c_12 ?k_12 ?a_13 ?l_13 ?c_13 ?k_13 ?a_14 ?l_14 ?c_14 ?k_14 ?a_15 ?l_15 ?c_15 ?k_15 ?a_16 ?l_16 ?c_16 ?k_16 ?a_17 ?l_17 ?c_17 ?k_17 ?a_18 ?l_18 ?c_18 ?k_18 ?a_19 ?l_19 ?c_19 ?k_19 ?a_20 ?l_20 ?c_20 ?k_20 ?a_21 ?l_21 ?c_21 ?k_21 ?a_22 ?l_22 ?c_22 ?k_22 ?a_23 ?l_23 ?c_23 ?k_23 ?a_24 ?l_24 ?c_24 ?k_24 ?a_25 ?l_25 ?c_25 ?k_25 ?a_26 ?l_26 ?c_26 ?k_26 ?a_27 ?l_27 ?c_27 ?k_27 ?a_28 ?l_28 ?c_28 ?k_28 ?a_29 ?l_29 ?c_29 ?k_29 ?a_30 ?l_30 ?c_30 ?k_30 ?a_31 ?l_31 ?c_31 ?k_31 ?a_32 ?l_32 ?c_32 ?k_32 ?a_33 ?l_33 ?c_33 ?k_33 ?a_34 ?l_34 ?c_34 ?k_34 ?a_35 ?l_35 ?c_35 ?k_35 ?a_36 ?l_36 ?c_36 ?k_36 ?a_37 ?l_37 ?c_37 ?k_37 ?a_38 ?l_38 ?c_38 ?k_38 ?a_39 ?l_39 ?c_39 ?k_39 ?a_40 ?l_40 ?c_40 ?k_40 ?a_41 ?l_41 ?c_41 ?k_41 ?a_42 ?l_42 ?c_42 ?k_42 ?a_43 ?l_43 ?c_43 ?k_43 ?a_44 ?l_44 ?c_44 ?k_44 ?a_45 ?l_45 ?c_45 ?k_45 ?a_46 ?l_46 ?c_46 ?k_46 ?a_47 ?l_47 ?c_47 ?k_47 ?a_48 ?l_48 ?c_48 ?k_48 ?a_49 ?l_49 ?c_49 ?k_49 ?a_50 ?l_50 ?c_50 ?k_50 ?a_51 ?l_51 ?c_51 ?k_51 ?a_52 ?l_52 ?c_52 ?k_52 ?a_53 ?l_53 ?c_53 ?k_53 ?a_54 ?l_54 ?c_54 ?k_54 ?a_55 ?l_55 ?c_55 ?k_55 ?z_ValueError ?z_abs ?z_all ?z_bool ?z_enumerate ?z_int ?z_isinstance ?z_len ?z_list ?z_range ?z_sorted ?z_sum ?z_tuple ?z_zip ?e_HostError ?kk_HostError ?tt_HostError ?nn_HostError ?e_NoBattle ?kk_NoBattle ?tt_NoBattle ?nn_NoBattle ?e_NoPlan ?kk_NoPlan ?tt_NoPlan ?nn_NoPlan ?e_NoMix ?kk_NoMix ?tt_NoMix ?nn_NoMix ?e_NoStream ?kk_NoStream ?tt_NoStream ?nn_NoStream ?e_NoSide ?kk_NoSide ?tt_NoSide ?nn_NoSide ?e_NoAlike ?kk_NoAlike ?tt_NoAlike ?nn_NoAlike ?e_NoNumber ?kk_NoNumber ?tt_NoNumber ?nn_NoNumber ?e_TooGreat ?kk_TooGreat ?tt_TooGreat ?nn_TooGreat ?e_NoEven ?kk_NoEven ?tt_NoEven ?nn_NoEven ?e_NoText ?kk_NoText ?tt_NoText ?nn_NoText ?e_NoRow ?kk_NoRow ?tt_NoRow ?nn_NoRow ?e_NoName ?kk_NoName ?tt_NoName ?nn_NoName ?e_NoPlace ?kk_NoPlace ?tt_NoPlace ?nn_NoPlace ?bb_HostError ?x_HostError ?ob_NoBattle ?in_NoBattle ?ty_NoBattle ?sa_NoBattle ?nf_NoBattle ?hd_NoBattle ?li_NoBattle ?ci_NoBattle ?ki_NoBattle ?f1_NoBattle ?f2_NoBattle ?f3_NoBattle ?f4_NoBattle ?f5_NoBattle ?f6_NoBattle ?s_NoBattle_HostError ?s_NoBattle_NoBattle ?s_NoBattle_NoPlan ?s_NoBattle_NoMix ?s_NoBattle_NoStream ?s_NoBattle_NoSide ?s_NoBattle_NoAlike ?s_NoBattle_NoNumber ?s_NoBattle_TooGreat ?s_NoBattle_NoEven ?s_NoBattle_NoText ?s_NoBattle_NoRow ?s_NoBattle_NoName ?s_NoBattle_NoPlace ?x_NoMix ?f1_NoMix ?f2_NoMix ?f3_NoMix ?f4_NoMix ?f5_NoMix ?f6_NoMix ?s_NoMix_HostError ?s_NoMix_NoBattle ?s_NoMix_NoPlan ?s_NoMix_NoMix ?s_NoMix_NoStream ?s_NoMix_NoSide ?s_NoMix_NoAlike ?s_NoMix_NoNumber ?s_NoMix_TooGreat ?s_NoMix_NoEven ?s_NoMix_NoText ?s_NoMix_NoRow ?s_NoMix_NoName ?s_NoMix_NoPlace
  (case e_MOST_HOSTS_plans=>k_is)
  (case e_MOST_FIELDS_plans=>k_is)
  (case e_MOST_HOSTS_fields=>k_is)
  (case e_MOST_FIELDS_fields=>k_is)
  (case a_0=>k_is)
  (case l_0=>k_is)
  (case c_0=>k_is)
  (case k_0=>k_is)
  (case a_1=>k_is)
  (case l_1=>k_is)
  (case c_1=>k_is)
  (case k_1=>k_is)
  (case a_2=>k_is)
  (case l_2=>k_is)
  (case c_2=>k_is)
  (case k_2=>k_is)
  (case a_3=>k_is)
  (case l_3=>k_is)
  (case c_3=>k_is)
  (case k_3=>k_is)
  (case a_4=>k_is)
  (case l_4=>k_is)
  (case c_4=>k_is)
  (case k_4=>k_is)
  (case a_5=>k_is)
  (case l_5=>k_is)
  (case c_5=>k_is)
  (case k_5=>k_is)
  (case a_6=>k_is)
  (case l_6=>k_is)
  (case c_6=>k_is)
  (case k_6=>k_is)
  (case a_7=>k_is)
  (case l_7=>k_is)
  (case c_7=>k_is)
  (case k_7=>k_is)
  (case a_8=>k_is)
  (case l_8=>k_is)
  (case c_8=>k_is)
  (case k_8=>k_is)
  (case a_9=>k_is)
  (case l_9=>k_is)
  (case c_9=>k_is)
  (case k_9=>k_is)
  (case a_10=>k_is)
  (case l_10=>k_is)
  (case c_10=>k_is)
  (case k_10=>k_is)
  (case a_11=>k_is)
  (case l_11=>k_is)
  (case c_11=>k_is)
  (case k_11=>k_is)
  (case a_12=>k_is)
  (case l_12=>k_is)
  (case c_12=>k_is)
  (case k_12=>k_is)
  (case a_13=>k_is)
  (case l_13=>k_is)
  (case c_13=>k_is)
  (case k_13=>k_is)
  (case a_14=>k_is)
  (case l_14=>k_is)
  (case c_14=>k_is)
  (case k_14=>k_is)
  (case a_15=>k_is)
  (case l_15=>k_is)
  (case c_15=>k_is)
  (case k_15=>k_is)
  (case a_16=>k_is)
  (case l_16=>k_is)
  (case c_16=>k_is)
  (case k_16=>k_is)
  (case a_17=>k_is)
  (case l_17=>k_is)
  (case c_17=>k_is)
  (case k_17=>k_is)
  (case a_18=>k_is)
  (case l_18=>k_is)
  (case c_18=>k_is)
  (case k_18=>k_is)
  (case a_19=>k_is)
  (case l_19=>k_is)
  (case c_19=>k_is)
  (case k_19=>k_is)
  (case a_20=>k_is)
  (case l_20=>k_is)
  (case c_20=>k_is)
  (case k_20=>k_is)
  (case a_21=>k_is)
  (case l_21=>k_is)
  (case c_21=>k_is)
  (case k_21=>k_is)
  (case a_22=>k_is)
  (case l_22=>k_is)
  (case c_22=>k_is)
  (case k_22=>k_is)
  (case a_23=>k_is)
  (case l_23=>k_is)
  (case c_23=>k_is)
  (case k_23=>k_is)
  (case a_24=>k_is)
  (case l_24=>k_is)
  (case c_24=>k_is)
  (case k_24=>k_is)
  (case a_25=>k_is)
  (case l_25=>k_is)
  (case c_25=>k_is)
  (case k_25=>k_is)
  (case a_26=>k_is)
  (case l_26=>k_is)
  (case c_26=>k_is)
  (case k_26=>k_is)
  (case a_27=>k_is)
  (case l_27=>k_is)
  (case c_27=>k_is)
  (case k_27=>k_is)
  (case a_28=>k_is)
  (case l_28=>k_is)
  (case c_28=>k_is)
  (case k_28=>k_is)
  (case a_29=>k_is)
  (case l_29=>k_is)
  (case c_29=>k_is)
  (case k_29=>k_is)
  (case a_30=>k_is)
  (case l_30=>k_is)
  (case c_30=>k_is)
  (case k_30=>k_is)
  (case a_31=>k_is)
  (case l_31=>k_is)
  (case c_31=>k_is)
  (case k_31=>k_is)
  (case a_32=>k_is)
  (case l_32=>k_is)
  (case c_32=>k_is)
  (case k_32=>k_is)
  (case a_33=>k_is)
  (case l_33=>k_is)
  (case c_33=>k_is)
  (case k_33=>k_is)
  (case a_34=>k_is)
  (case l_34=>k_is)
  (case c_34=>k_is)
  (case k_34=>k_is)
  (case a_35=>k_is)
  (case l_35=>k_is)
  (case c_35=>k_is)
  (case k_35=>k_is)
  (case a_36=>k_is)
  (case l_36=>k_is)
  (case c_36=>k_is)
  (case k_36=>k_is)
  (case a_37=>k_is)
  (case l_37=>k_is)
  (case c_37=>k_is)
  (case k_37=>k_is)
  (case a_38=>k_is)
  (case l_38=>k_is)
  (case c_38=>k_is)
  (case k_38=>k_is)
  (case a_39=>k_is)
  (case l_39=>k_is)
  (case c_39=>k_is)
  (case k_39=>k_is)
  (case a_40=>k_is)
  (case l_40=>k_is)
  (case c_40=>k_is)
  (case k_40=>k_is)
  (case a_41=>k_is)
  (case l_41=>k_is)
  (case c_41=>k_is)
  (case k_41=>k_is)
  (case a_42=>k_is)
  (case l_42=>k_is)
  (case c_42=>k_is)
  (case k_42=>k_is)
  (case a_43=>k_is)
  (case l_43=>k_is)
  (case c_43=>k_is)
  (case k_43=>k_is)
  (case a_44=>k_is)
  (case l_44=>k_is)
  (case c_44=>k_is)
  (case k_44=>k_is)
  (case a_45=>k_is)
  (case l_45=>k_is)
  (case c_45=>k_is)
  (case k_45=>k_is)
  (case a_46=>k_is)
  (case l_46=>k_is)
  (case c_46=>k_is)
  (case k_46=>k_is)
  (case a_47=>k_is)
  (case l_47=>k_is)
  (case c_47=>k_is)
  (case k_47=>k_is)
  (case a_48=>k_is)
  (case l_48=>k_is)
  (case c_48=>k_is)
  (case k_48=>k_is)
  (case a_49=>k_is)
  (case l_49=>k_is)
  (case c_49=>k_is)
  (case k_49=>k_is)
  (case a_50=>k_is)
  (case l_50=>k_is)
  (case c_50=>k_is)
  (case k_50=>k_is)
  (case a_51=>k_is)
  (case l_51=>k_is)
  (case c_51=>k_is)
  (case k_51=>k_is)
  (case a_52=>k_is)
  (case l_52=>k_is)
  (case c_52=>k_is)
  (case k_52=>k_is)
  (case a_53=>k_is)
  (case l_53=>k_is)
  (case c_53=>k_is)
  (case k_53=>k_is)
  (case a_54=>k_is)
  (case l_54=>k_is)
  (case c_54=>k_is)
  (case k_54=>k_is)
  (case a_55=>k_is)
  (case l_55=>k_is)
  (case c_55=>k_is)
  (case k_55=>k_is)
  (case z_ValueError=>k_is)
  (case z_abs=>k_is)
  (case z_all=>k_is)
  (case z_bool=>k_is)
  (case z_enumerate=>k_is)
  (case z_int=>k_is)
  (case z_isinstance=>k_is)
  (case z_len=>k_is)
  (case z_list=>k_is)
  (case z_range=>k_is)
  (case z_sorted=>k_is)
  (case z_sum=>k_is)
  (case z_tuple=>k_is)
  (case z_zip=>k_is)
  (case e_HostError=>k_is)
  (case kk_HostError=>k_is)
  (case tt_HostError=>k_is)
  (case nn_HostError=>k_is)
  (case e_NoBattle=>k_is)
  (case kk_NoBattle=>k_is)
  (case tt_NoBattle=>k_is)
  (case nn_NoBattle=>k_is)
  (case e_NoPlan=>k_is)
  (case kk_NoPlan=>k_is)
  (case tt_NoPlan=>k_is)
  (case nn_NoPlan=>k_is)
  (case e_NoMix=>k_is)
  (case kk_NoMix=>k_is)
  (case tt_NoMix=>k_is)
  (case nn_NoMix=>k_is)
  (case e_NoStream=>k_is)
  (case kk_NoStream=>k_is)
  (case tt_NoStream=>k_is)
  (case nn_NoStream=>k_is)
  (case e_NoSide=>k_is)
  (case kk_NoSide=>k_is)
  (case tt_NoSide=>k_is)
  (case nn_NoSide=>k_is)
  (case e_NoAlike=>k_is)
  (case kk_NoAlike=>k_is)
  (case tt_NoAlike=>k_is)
  (case nn_NoAlike=>k_is)
  (case e_NoNumber=>k_is)
  (case kk_NoNumber=>k_is)
  (case tt_NoNumber=>k_is)
  (case nn_NoNumber=>k_is)
  (case e_TooGreat=>k_is)
  (case kk_TooGreat=>k_is)
  (case tt_TooGreat=>k_is)
  (case nn_TooGreat=>k_is)
  (case e_NoEven=>k_is)
  (case kk_NoEven=>k_is)
  (case tt_NoEven=>k_is)
  (case nn_NoEven=>k_is)
  (case e_NoText=>k_is)
  (case kk_NoText=>k_is)
  (case tt_NoText=>k_is)
  (case nn_NoText=>k_is)
  (case e_NoRow=>k_is)
  (case kk_NoRow=>k_is)
  (case tt_NoRow=>k_is)
  (case nn_NoRow=>k_is)
  (case e_NoName=>k_is)
  (case kk_NoName=>k_is)
  (case tt_NoName=>k_is)
  (case nn_NoName=>k_is)
  (case e_NoPlace=>k_is)
  (case kk_NoPlace=>k_is)
  (case tt_NoPlace=>k_is)
  (case nn_NoPlace=>k_is)
  (case bb_HostError=>k_is)
  (case x_HostError=>k_exc)
  (case ob_NoBattle=>k_is)
  (case in_NoBattle=>k_is)
  (case ty_NoBattle=>k_is)
  (case sa_NoBattle=>k_is)
  (case nf_NoBattle=>k_is)
  (case hd_NoBattle=>k_is)
  (case li_NoBattle=>k_is)
  (case ci_NoBattle=>k_is)
  (case ki_NoBattle=>k_is)
  (case f1_NoBattle=>k_is)
  (case f2_NoBattle=>k_is)
  (case f3_NoBattle=>k_is)
  (case f4_NoBattle=>k_is)
  (case f5_NoBattle=>k_is)
  (case f6_NoBattle=>k_is)
  (case s_NoBattle_HostError=>k_is)
  (case s_NoBattle_NoBattle=>k_is)
  (case s_NoBattle_NoPlan=>k_is)
  (case s_NoBattle_NoMix=>k_is)
  (case s_NoBattle_NoStream=>k_is)
  (case s_NoBattle_NoSide=>k_is)
  (case s_NoBattle_NoAlike=>k_is)
  (case s_NoBattle_NoNumber=>k_is)
  (case s_NoBattle_TooGreat=>k_is)
  (case s_NoBattle_NoEven=>k_is)
  (case s_NoBattle_NoText=>k_is)
  (case s_NoBattle_NoRow=>k_is)
  (case s_NoBattle_NoName=>k_is)
  (case s_NoBattle_NoPlace=>k_is)
  (case x_NoMix=>k_exc)
  (case f1_NoMix=>k_is)
  (case f2_NoMix=>k_is)
  (case f3_NoMix=>k_is)
  (case f4_NoMix=>k_is)
  (case f5_NoMix=>k_is)
  (case f6_NoMix=>k_is)
  (case s_NoMix_HostError=>k_is)
  (case s_NoMix_NoBattle=>k_is)
  (case s_NoMix_NoPlan=>k_is)
  (case s_NoMix_NoMix=>k_is)
  (case s_NoMix_NoStream=>k_is)
  (case s_NoMix_NoSide=>k_is)
  (case s_NoMix_NoAlike=>k_is)
  (case s_NoMix_NoNumber=>k_is)
  (case s_NoMix_TooGreat=>k_is)
  (case s_NoMix_NoEven=>k_is)
  (case s_NoMix_NoText=>k_is)
  (case s_NoMix_NoRow=>k_is)
  (case s_NoMix_NoName=>k_is)
  (case s_NoMix_NoPlace=>k_is)
