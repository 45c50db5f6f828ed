import PyProof.Rows.All
import Wide.All
import OpenK.AllK
import Wide.FinOn
import Lean
import PyProof.EqAt
import PyProof.EqKinds
import PyProof.TupleCall
import PyProof.NeKinds
import PyProof.CompFree
import PyProof.EnumMake
import KE.KTryMore
import PyProof.ExcArgsOwn
import PyProof.ZipIter
import PyProof.ListRange
import KE.KIsAll
import PyProof.InstStoreFacts
import PyProof.ExcInit
import PyProof.ReprRoads
import PyProof.CallStr
import KE.KEqDict
import PyProof.EqLayable
import KE.KRevIter
import PyProof.StrLawsRepr
import PySem.Challenge.RW_hostfields_k32_whole_no_plan_does_better
open List renaming length_map->zcq3,getElem?_eq_getElem->zcq4,getElem?_eq_some_iff->zcq6,getD_eq_getElem?_getD->zcq7,getElem?_map->zcq8,mem_of_getElem?->zcr0,size_toArray->zcr3,length_append->zcr6,mem_cons->zcs2,map_append->zcs3,mem_map->zcs5,map_congr_left->zcs6,map_cons->zcs8,length_cons->zct0,getElem?_append_left->zct1,getElem?_eq_none->zct2,all_eq_true->zct4,map_map->zct5,lookup_cons->zct7,mem_append_right->zct8,length_range->zct9,not_mem_nil->zcu0,getElem?_append_right->zcu2,sum_cons->zcu6,mem_cons_of_mem->zcu7,mem_append->zcu8,mem_range->zcu9,getElem?_range->zcv3,getElem?_of_mem->zcv6,mem_cons_self->zcv7,length_take->zcw0,length_drop->zcw1,ext_getElem?->zcw2,length_nil->zcw3,find?_cons->zcw4,getElem_mem->zcw5,length_singleton->zcw7,filter_cons->zcw9,take_of_length_le->zcx3,drop_of_length_le->zcx4,all_map->zcx6,mem_singleton->zcx8,replicate_succ->zcy0,take_length->zcy2,nodup_cons->zcy3,range_succ->zcy4,sum_append->zcy5,ext_getElem->zcy6
open PySem.W renaming Frag->zcq5,nsIn->zcr4,keepIn->zcr5,codeIn->zcr7,mg_of->zcr8,fnOf->zcs1,kitOne->zcu1,mg_none_of->zcu3,findIn->zcu5,subIn->zcv0,kia_one->zcv9,typeIn->zcx5,hideAll_get->zcx9,clsIn->zcy1
open PySem.Heap renaming get?_push_of_some->zcq9,lt_size->zcs0,get?_push_size->zcs4,get?_update_other->zct3,get?_update_self->zcv2,size_push->zcw8
open Option renaming map_eq_some_iff->zcr1
open Bool renaming false_ne_true->zcr2,and_eq_true->zcs9,true_and->zcv4,false_eq_true->zcv8
open Nat renaming le_refl->zcr9,lt_of_lt_of_le->zcs7,ne_of_lt->zct6,zero_le->zcu4,le_trans->zcv1,le_add_right->zcv5,ne_of_gt->zcw6,le_succ->zcx0,lt_irrefl->zcx2
open Int renaming toNat_natCast->zcx1,zero_add->zcx7
set_option Elab.async false
set_option linter.all false
set_option maxRecDepth 100000
namespace L2
open PySem PySem.Spec PyProof.Rows
abbrev Key:=Sum Int Str
def zbg9:Key->Value->Bool
 | .inl k,v=>Value.isInt k v
 | .inr x,v=>Value.isStrOf x v
def keyH (w:World):Key->Int
 | .inl k=>hashInt k
 | .inr x=>hashStr w x
theorem zh0:∀ {k:Key}{v:Value},zbg9 k v=true->(∃ i t,k=Sum.inl i/\v=Value.int i t)∨(∃ x t,k=Sum.inr x/\v=Value.str x t)
 | .inl i,v,h=>by
  obtain⟨t,e⟩:=Value.isInt_shape (k:=i) (v:=v) h
  exact .inl ⟨i,t,rfl,e⟩
 | .inr x,v,h=>by
  obtain⟨t,e⟩:=Value.isStrOf_shape (x:=x) (v:=v) h
  exact .inr ⟨x,t,rfl,e⟩
theorem zbr1 (i:Int) (t:Tok):zbg9 (.inl i) (.int i t)=true:=by simp[zbg9,Value.isInt]
theorem zbi8 (x:Str) (t:Tok):zbg9 (.inr x) (.str x t)=true:=by simp[zbg9,Value.isStrOf]
theorem key_ll (a b:Int):decide ((Sum.inl a:Key)=Sum.inl b)=(a==b):=by
 by_cases e:a=b
 ·subst e;simp
 ·have h:¬ (Sum.inl a:Key)=Sum.inl b:=fun q=>e (Sum.inl.inj q)
  rw[decide_eq_false h]
  exact (beq_eq_false_iff_ne.mpr e).symm
theorem key_rr (a b:Str):decide ((Sum.inr a:Key)=Sum.inr b)=decide (a=b):=by
 by_cases e:a=b
 ·subst e;simp
 ·have h:¬ (Sum.inr a:Key)=Sum.inr b:=fun q=>e (Sum.inr.inj q)
  rw[decide_eq_false h,decide_eq_false e]
theorem key_lr (a:Int) (b:Str):decide ((Sum.inl a:Key)=Sum.inr b)=false:=decide_eq_false (fun q=>nomatch q)
theorem key_rl (a:Str) (b:Int):decide ((Sum.inr a:Key)=Sum.inl b)=false:=decide_eq_false (fun q=>nomatch q)
def zk7 (prog:Program) (w:World):PySem.KeyKind prog w Key where
 is:=zbg9
 hash:=keyH w
 inj:=fun v a b ha hb=>by
  rcases zh0 ha with ⟨i,t,rfl,rfl⟩|⟨x,t,rfl,rfl⟩
  ·rcases zh0 hb with ⟨j,u,rfl,e⟩|⟨y,u,rfl,e⟩
   ·injection e with e1 _;rw[e1]
   ·exact nomatch e
  ·rcases zh0 hb with ⟨j,u,rfl,e⟩|⟨y,u,rfl,e⟩
   ·exact nomatch e
   ·injection e with e1 _;rw[e1]
 byValue:=fun k v h=>by
  rcases zh0 h with ⟨i,t,rfl,rfl⟩|⟨x,t,rfl,rfl⟩<;>rfl
 pyHash:=fun hv h=>by
  rcases zh0 hv with ⟨i,t,rfl,rfl⟩|⟨x,t,rfl,rfl⟩
  ·exact wpAny_pyHash_int h
  ·exact wpAny_pyHash_str h
 eqBool:=fun hu hv h=>by
  rcases zh0 hu with ⟨i,t,rfl,rfl⟩|⟨x,t,rfl,rfl⟩
  ·rcases zh0 hv with ⟨j,u,rfl,rfl⟩|⟨y,u,rfl,rfl⟩
   ·rw[key_ll] at h;exact wpAny_eqBool_int h
   ·rw[key_lr] at h;exact SeqAt.EqAt.int_str i t y u _ _ _ _ h
  ·rcases zh0 hv with ⟨j,u,rfl,rfl⟩|⟨y,u,rfl,rfl⟩
   ·rw[key_rl] at h;exact SeqAt.EqAt.str_int x t j u _ _ _ _ h
   ·rw[key_rr] at h;exact wpAny_eqBool_str h
 «strs»:=fun k x t v h=>by
  rcases zh0 h with ⟨i,u,rfl,e⟩|⟨y,u,rfl,e⟩
  ·exact nomatch e
  ·injection e with e1 _
   subst e1
   cases v<;>rfl
theorem zax6 (prog:Program) (w:World) (i:Int) (t:Tok):(zk7 prog w).is (.inl i) (.int i t)=true:=zbr1 i t
theorem zax8 (prog:Program) (w:World) (x:Str) (t:Tok):(zk7 prog w).is (.inr x) (.str x t)=true:=zbi8 x t
end L2
namespace L2
open PySem PySem.Spec PyProof.Rows
inductive V where
 | non | bl (b:Bool) | int (i:Int) | str (x:Str) | byt (b:Array UInt8) | flt (b:UInt64) | ref (a:Addr) | ty (n:String)
 deriving DecidableEq
def RelV:V->Value->Prop
 | .non,u=>u=Value.none
 | .bl b,u=>u=Value.bool b
 | .int i,u=>∃ t,u=Value.int i t
 | .str x,u=>∃ t,u=Value.str x t
 | .byt b,u=>∃ t,u=Value.bytes b t
 | .flt b,u=>∃ t,u=Value.float b t
 | .ref a,u=>u=Value.ref a
 | .ty n,u=>u=Value.type n
abbrev Vals:List V->List Value->Prop:=Paired RelV
theorem Vals.length {xs:List V}{us:List Value}(r:Vals xs us):xs.length=us.length:=Paired.length r
theorem Vals.get:∀ {xs:List V}{us:List Value}{i:Nat}{x:V},Vals xs us->xs[i]?=some x->∃ u,us[i]?=some u/\RelV x u
 | _,_,_,_,.nil,e=>by simp at e
 | _,_,0,_,.cons r _,e=>by simp at e;subst e;exact⟨_,rfl,r⟩
 | _,_,i+1,x,.cons _ t,e=>by
  obtain⟨u,h1,h2⟩:=Vals.get (i:=i) (x:=x) t (by simpa using e)
  exact⟨u,by simpa using h1,h2⟩
theorem Vals.set {x:V}{u:Value}(r:RelV x u):∀ {xs:List V}{us:List Value}(i:Nat),Vals xs us->Vals (xs.set i x) (us.set i u)
 | _,_,_,.nil=>.nil
 | _,_,0,.cons _ t=>.cons r t
 | _,_,i+1,.cons q t=>.cons q (Vals.set r i t)
theorem Vals.append:∀ {xs ys:List V}{us ws:List Value},Vals xs us->Vals ys ws->Vals (xs++ys) (us++ws)
 | _,_,_,_,.nil,s=>s
 | _,_,_,_,.cons r t,s=>.cons r (Vals.append t s)
theorem Vals.take:∀ {xs:List V}{us:List Value}(n:Nat),Vals xs us->Vals (xs.take n) (us.take n)
 | _,_,0,_=>.nil
 | _,_,_+1,.nil=>.nil
 | _,_,n+1,.cons r t=>.cons r (Vals.take n t)
theorem Vals.drop:∀ {xs:List V}{us:List Value}(n:Nat),Vals xs us->Vals (xs.drop n) (us.drop n)
 | _,_,0,r=>r
 | _,_,_+1,.nil=>.nil
 | _,_,n+1,.cons _ t=>Vals.drop n t
def RelO:Option V->Option Value->Prop
 | some v,some u=>RelV v u
 | none,none=>True
 | _,_=>False
def KV {κ:Type}:List (κ×V)->List (κ×Value)->Prop:=Paired fun (p:κ×V) (q:κ×Value)=>p.1=q.1/\RelV p.2 q.2
def kV:Key->V
 | .inl i=>.int i
 | .inr x=>.str x
inductive HO where
 | lst (xs:List V)
 | tup (xs:List V)
 | dK (kvs:List (Key×V)) | dT (kvs:List (List Key×V))
 | set (S:Int->Bool) (n:Nat)
 | ins (C dx:Addr) (fs:List (Str×V))
 | own (x:Addr)
 | xd (fs:List (Str×V))
 | met (f x:Addr)
 | rng (lo hi:Int)
 | frz (o:Obj) (u:HO)
 | tbl (ps:Array Value)
 | ext (φ:Heap->Prop)
abbrev Hp:=Addr->Option HO
def upd (H:Hp) (a:Addr) (o:HO):Hp:=fun b=>if b=a then some o else H b
theorem zc2 {H:Hp}{a:Addr}{o:HO}:upd H a o a=some o:=by unfold upd;rw[if_pos rfl]
theorem zc3 {H:Hp}{a b:Addr}{o:HO}(h:b≠a):upd H a o b=H b:=by unfold upd;rw[if_neg h]
theorem ne_of {H:Hp}{a b:Addr}{o u:HO}(h:H a=some o) (h':H b=some u) (d:o≠u):a≠b:=by
 intro e;subst e;rw[h] at h';exact d (Option.some.inj h')
theorem za5 {H:Hp}{a b:Addr}{o:HO}(h:H a=some o) (h':H b=none):a≠b:=by
 intro e;subst e;rw[h] at h';cases h'
section
variable (P:Program) (w:World)
def zi2 (H:Hp) (h:Heap) (a:Addr):HO->Prop
 | .lst xs=>xs.length<=sizeLine/\∃ (its:List Value) (n:Nat),Vals xs its/\h.get? a=some { cls:=.type "list",data:=.seq its.toArray n }
 | .tup xs=>xs.length<=sizeLine/\∃ its:List Value,Vals xs its/\IsTup h a its.toArray
 | .dK kvs=>kvs.length<=sizeLine/\(a==sysModules)=false/\∃ vs,KV kvs vs/\h.DictOf (zk7 P w) a vs
 | .dT kvs=>kvs.length<=sizeLine/\(a==sysModules)=false/\∃ xs:List (List Key×Addr×Value),
   Paired (fun (p:List Key×V) (q:List Key×Addr×Value)=>p.1=q.1/\H q.2.1=some (.tup (p.1.map kV))/\RelV p.2 q.2.2) kvs xs /\
   ∃ o es ep,h.get? a=some o/\o.ExactDict/\o.data=.dict es ep/\es.toList=xs.map (entryOfKey (tupleKind (zk7 P w)))/\(xs.map (·.1)).Nodup
 | .set S n=>h.SetOf (intKind P w) a S n
 | .ins C dx fs=>H dx=some (.own a)/\fs.length<=1000/\dx≠a/\h.get? a=some (PySem.W.instObj C dx) /\
   ∃ mA,h.Ns1 dx mA/\(∀ f,RelO (fs.lookup f) (mA f))/\PySem.Within mA (fs.map (·.1))
 | .own _=>∃ o,h.get? a=some o
 | .xd fs=>∃ mA,h.Ns1 a mA/\∀ f,RelO (fs.lookup f) (mA f)
 | .rng lo hi=>∃ t u v,h.get? a=some { cls:=.type "range",data:=.fields #[.int lo t,.int hi u,.int 1 v] }
 | .frz o u=>h.get? a=some o/\zi2 H h a u
 | .tbl ps=>h.get? a=some { cls:=.none,data:=.fields ps }
 | .met f x=>h.get? a=some (PySem.W.methodObj (.ref f) (.ref x))
 | .ext φ=>φ h/\(∃ o,h.get? a=some o)/\∀ h1 h2:Heap,φ h1->(∀ o,h1.get? a=some o->h2.get? a=some o)->φ h2
def HOk (H:Hp) (h:Heap):Prop:=∀ a o,H a=some o->zi2 P w H h a o
end
section
variable {P:Program}{w:World}{H H':Hp}{h h':Heap}{a:Addr}{o:HO}
theorem zi2.lt (x:zi2 P w H h a o):a<h.objs.size:=by
 cases o with
 | lst xs=>obtain⟨_,_,_,_,e⟩:=x;exact zcs0 e
 | tup xs=>obtain⟨_,_,_,p⟩:=x;exact p.lt
 | dK kvs=>obtain⟨_,_,_,_,o,_,_,e,_⟩:=x;exact zcs0 e
 | dT kvs=>obtain⟨_,_,_,_,o,_,_,e,_⟩:=x;exact zcs0 e
 | set S n=>obtain⟨o,_,_,_,e,_⟩:=x;exact zcs0 e
 | ins C dx fs=>obtain⟨_,_,_,e,_⟩:=x;exact zcs0 e
 | own y=>obtain⟨_,e⟩:=x;exact zcs0 e
 | xd fs=>obtain⟨_,⟨_,_,_,e,_⟩,_⟩:=x;exact zcs0 e
 | rng lo hi=>obtain⟨_,_,_,e⟩:=x;exact zcs0 e
 | frz ob u=>obtain⟨e,_⟩:=x;exact zcs0 e
 | tbl ps=>exact zcs0 (show h.get? a=some _ from x)
 | met f y=>exact zcs0 (show h.get? a=some _ from x)
 | ext φ=>obtain⟨_,⟨_,e⟩,_⟩:=x;exact zcs0 e
theorem Paired.mapP {α β:Type}{F G:α->β->Prop}:∀ {l₁:List α}{l₂:List β},Paired F l₁ l₂->(∀ a b,F a b->G a b)->Paired G l₁ l₂
 | _,_,.nil,_=>.nil
 | _,_,.cons r t,f=>.cons (f _ _ r) (Paired.mapP t f)
theorem zi2.stay (x:zi2 P w H h a o) (k:∀ b u,(b=a∨H b=some (.own a))->h.get? b=some u->h'.get? b=some u)
  (ho:∀ b,H b=some (.own a)->H' b=some (.own a)) (ht:∀ b xs,H b=some (.tup xs)->H' b=some (.tup xs)):zi2 P w H' h' a o:=by
 induction o with
 | lst xs=>obtain⟨z,its,n,r,e⟩:=x;exact⟨z,its,n,r,k _ _ (.inl rfl) e⟩
 | tup xs=>obtain⟨z,its,r,ob,e,c⟩:=x;exact⟨z,its,r,ob,k _ _ (.inl rfl) e,c⟩
 | dK kvs=>obtain⟨z,y,vs,r,ob,es,ep,e,c⟩:=x;exact⟨z,y,vs,r,ob,es,ep,k _ _ (.inl rfl) e,c⟩
 | dT kvs=>
  obtain⟨z,y,xs,r,ob,es,ep,e,c⟩:=x
  exact⟨z,y,xs,Paired.mapP r fun p q z=>⟨z.1,ht _ _ z.2.1,z.2.2⟩,ob,es,ep,k _ _ (.inl rfl) e,c⟩
 | set S n=>obtain⟨ob,es,ep,t,e,c⟩:=x;exact⟨ob,es,ep,t,k _ _ (.inl rfl) e,c⟩
 | ins C dx fs=>
  obtain⟨d,z,ne,e,mA,⟨od,es,ep,e2,c⟩,r⟩:=x
  exact⟨ho _ d,z,ne,k _ _ (.inl rfl) e,mA,⟨od,es,ep,k _ _ (.inr d) e2,c⟩,r⟩
 | own y=>obtain⟨ob,e⟩:=x;exact⟨ob,k _ _ (.inl rfl) e⟩
 | xd fs=>obtain⟨mA,⟨od,es,ep,e,c⟩,r⟩:=x;exact⟨mA,⟨od,es,ep,k _ _ (.inl rfl) e,c⟩,r⟩
 | rng lo hi=>obtain⟨t,u,v,e⟩:=x;exact⟨t,u,v,k _ _ (.inl rfl) e⟩
 | frz ob u ih=>obtain⟨e,q⟩:=x;exact⟨k _ _ (.inl rfl) e,ih q⟩
 | tbl ps=>
  have e:h.get? a=some { cls:=.none,data:=.fields ps }:=x
  show h'.get? a=some { cls:=.none,data:=.fields ps }
  exact k a _ (.inl rfl) e
 | met f y=>
  have e:h.get? a=some (PySem.W.methodObj (.ref f) (.ref y)):=x
  show h'.get? a=some (PySem.W.methodObj (.ref f) (.ref y))
  exact k a _ (.inl rfl) e
 | ext φ=>obtain⟨p,⟨o,e⟩,st⟩:=x;exact⟨st _ _ p fun o q=>k _ _ (.inl rfl) q,⟨o,k _ _ (.inl rfl) e⟩,st⟩
theorem HOk.lt (x:HOk P w H h) (e:H a=some o):a<h.objs.size:=(x a o e).lt
theorem HOk.fresh (x:HOk P w H h) (e:h.objs.size<=a):H a=none:=by
 cases q:H a with
 | none=>rfl
 | some u=>exact absurd (zcs7 (x.lt q) e) (zcx2 _)
theorem HOk.kept (x:HOk P w H h) (k:∀ b u,h.get? b=some u->h'.get? b=some u):HOk P w H h':=fun a o e=>
 (x a o e).stay (fun b u _ q=>k b u q) (fun _ q=>q) fun _ _ q=>q
theorem HOk.laid (x:HOk P w H h) (k:∀ b u,h.get? b=some u->h'.get? b=some u) (hp:h.objs.size<=a) (new:zi2 P w (upd H a o) h' a o):HOk P w (upd H a o) h':=fun b u e=>by
 have hn:=x.fresh hp
 by_cases hb:b=a
 ·subst hb;rw[zc2] at e;cases e;exact new
 ·rw[zc3 hb] at e
  exact (x b u e).stay (fun c v _ q=>k c v q) (fun c q=>by rw[zc3 (za5 q hn)];exact q) fun c xs q=>by rw[zc3 (za5 q hn)];exact q
end
def Rd (H:Hp) (a:Addr) (u:HO):Prop:=H a=some u∨∃ o,H a=some (.frz o u)
theorem Rd.of {H:Hp}{a:Addr}{u:HO}(h:H a=some u):Rd H a u:=.inl h
theorem Rd.ok {P:Program}{w:World}{H:Hp}{h:Heap}{a:Addr}{u:HO}(r:Rd H a u) (x:HOk P w H h):zi2 P w H h a u:=by
 rcases r with r|⟨o,r⟩
 ·exact x a u r
 ·obtain⟨_,q⟩:=x a _ r
  exact q
def Mut:Option HO->Prop
 | some (.lst _)=>True
 | some (.dK _)=>True
 | some (.dT _)=>True
 | some (.set _ _)=>True
 | some (.ins _ _ _)=>True
 | some (.ext _)=>True
 | _=>False
section
variable {P:Program}{w:World}{H:Hp}{h h':Heap}{x e:Addr}{o':HO}
theorem HOk.write (ok:HOk P w H h) (mu:Mut (H x)) (he:e=x∨H e=some (.own x)) (k:∀ b u,b≠e->h.get? b=some u->h'.get? b=some u) (heo:∃ u,h'.get? e=some u)
  (new:zi2 P w (upd H x o') h' x o'):HOk P w (upd H x o') h':=fun b u q=>by
 have nown:∀ c y,H c=some (.own y)->c≠x:=fun c y r z=>by subst z;rw[r] at mu;exact mu
 have ntup:∀ c xs,H c=some (.tup xs)->c≠x:=fun c xs r z=>by subst z;rw[r] at mu;exact mu
 by_cases hb:b=x
 ·subst hb;rw[zc2] at q;cases q;exact new
 ·rw[zc3 hb] at q
  by_cases hbe:b=e
  ·have q':H b=some (.own x):=by
    rcases he with z|z
    ·exact absurd (hbe.trans z) hb
    ·rw[hbe];exact z
   rw[q] at q';cases q'
   obtain⟨v,hv⟩:=heo
   exact⟨v,by rw[hbe];exact hv⟩
  ·refine (ok b u q).stay (fun c v hc r=>k c v ?_ r) (fun c r=>by rw[zc3 (nown c b r)];exact r) fun c xs r=>by rw[zc3 (ntup c xs r)];exact r
   rcases hc with rfl|hc
   ·exact hbe
   ·rintro rfl
    rcases he with z|z
    ·exact nown c b hc z
    ·rw[hc] at z;cases z;exact hb rfl
end
structure Un (fs ex:List Addr) (H H':Hp) (h h':Heap):Prop where
 keep:∀ b o,h.get? b=some o->H b=none->b ∉ fs->b ∉ ex->h'.get? b=some o
 slot:∀ b o,h.get? b=some o->H b=none->b∈fs->b ∉ ex->∃ sl,h'.get? b=some { o with slots:=sl }
 free:∀ b o,h.get? b=some o->H b=none->b ∉ ex->H' b=none
 there:∀ b o,h.get? b=some o->b ∉ ex->∃ o',h'.get? b=some o'
 tups:∀ b xs,H b=some (.tup xs)->H' b=some (.tup xs)
 frzs:∀ b o u,H b=some (.frz o u)->H' b=some (.frz o u)
 tbls:∀ b ps,H b=some (.tbl ps)->∃ more,H' b=some (.tbl (ps++more))
section
variable {fs fs' ex ex':List Addr}{H H1 H2:Hp}{h h1 h2 h':Heap}{a x e:Addr}{o:HO}
theorem Un.any (u:Un fs ex H H1 h h1) {b:Addr}{ob:Obj}(q:h.get? b=some ob) (n:H b=none) (hx:b ∉ ex):∃ sl,h1.get? b=some { ob with slots:=sl }:=by
 by_cases hb:b∈fs
 ·exact u.slot b ob q n hb hx
 ·exact⟨ob.slots,u.keep b ob q n hb hx⟩
theorem Un.trans (a:Un fs ex H H1 h h1) (b:Un fs ex H1 H2 h1 h2):Un fs ex H H2 h h2 where
 keep:=fun c ob q n hc hx=>b.keep c ob (a.keep c ob q n hc hx) (a.free c ob q n hx) hc hx
 slot:=fun c ob q n hc hx=>by
  obtain⟨sl,e1⟩:=a.slot c ob q n hc hx
  obtain⟨sl',e2⟩:=b.slot c _ e1 (a.free c ob q n hx) hc hx
  exact⟨sl',e2⟩
 free:=fun c ob q n hx=>by
  obtain⟨o',e1⟩:=a.there c ob q hx
  exact b.free c o' e1 (a.free c ob q n hx) hx
 there:=fun c ob q hx=>by
  obtain⟨o',e1⟩:=a.there c ob q hx
  exact b.there c o' e1 hx
 tups:=fun c xs q=>b.tups c xs (a.tups c xs q)
 frzs:=fun c ob xs q=>b.frzs c ob xs (a.frzs c ob xs q)
 tbls:=fun c ps q=>by
  obtain⟨m1,e1⟩:=a.tbls c ps q
  obtain⟨m2,e2⟩:=b.tbls c _ e1
  exact⟨m1++m2,by rw[e2,Array.append_assoc]⟩
theorem Un.kept (k:∀ b u,h.get? b=some u->h'.get? b=some u):Un fs ex H H h h':=
 ⟨fun b ob q _ _ _=>k b ob q,fun b ob q _ _ _=>⟨ob.slots,k b ob q⟩,fun _ _ _ n _=>n,fun b ob q _=>⟨ob,k b ob q⟩,fun _ _ q=>q,fun _ _ _ q=>q,fun _ ps q=>⟨#[],by rw[q];simp⟩⟩
theorem Un.refl:Un fs ex H H h h:=Un.kept fun _ _ q=>q
theorem Un.laid (k:∀ b u,h.get? b=some u->h'.get? b=some u) (hp:h.objs.size<=a) (hn:H a=none):Un fs ex H (upd H a o) h h' where
 keep:=fun b u q _ _ _=>k b u q
 slot:=fun b u q _ _ _=>⟨u.slots,k b u q⟩
 free:=fun b u q n _=>by rw[zc3 (zct6 (zcs7 (zcs0 q) hp))];exact n
 there:=fun b u q _=>⟨u,k b u q⟩
 tups:=fun b xs q=>by rw[zc3 (za5 q hn)];exact q
 frzs:=fun b u xs q=>by rw[zc3 (za5 q hn)];exact q
 tbls:=fun b ps q=>⟨#[],by rw[zc3 (za5 q hn),q];simp⟩
theorem Un.write (mu:Mut (H x)) (he:e=x∨H e=some (.own x)) (k:∀ b u,b≠e->h.get? b=some u->h'.get? b=some u) (heo:∃ u,h'.get? e=some u):Un fs ex H (upd H x o) h h':=by
 have hx:∀ b,H b=none->b≠x:=fun b n z=>by subst z;rw[n] at mu;exact mu
 have hb:∀ b,H b=none->b≠e:=fun b n z=>by
  subst z
  rcases he with r|r
  ·exact hx b n r
  ·rw[n] at r;cases r
 have hm:∀ b u,H b=some u->¬ Mut (some u)->b≠x:=fun b u q nm z=>by subst z;rw[q] at mu;exact nm mu
 refine⟨fun b u q n _ _=>k b u (hb b n) q,fun b u q n _ _=>⟨u.slots,k b u (hb b n) q⟩,fun b u q n _=>by rw[zc3 (hx b n)];exact n,fun b u q _=>?_,
  fun b xs q=>by rw[zc3 (hm b _ q fun z=>z)];exact q,fun b u xs q=>by rw[zc3 (hm b _ q fun z=>z)];exact q,fun b ps q=>⟨#[],by rw[zc3 (hm b _ q fun z=>z),q];simp⟩⟩
 by_cases hbe:b=e
 ·subst hbe;exact heo
 ·exact⟨u,k b u hbe q⟩
end
def trk (h:Heap) (H:Hp):List Addr:=(List.range h.objs.size).filter fun a=>(H a).isSome
def hidT (h:Heap) (H:Hp):Heap:=PySem.W.hideAll h (trk h H)
theorem zbr4 (h:Heap) (H:Hp):(hidT h H).objs.size=h.objs.size:=PySem.W.hideAll_size _ _
theorem zbw6 {h:Heap}{H:Hp}{b:Addr}{o:Obj}(e:h.get? b=some o) (n:H b=none):(hidT h H).get? b=some o:=
 zcx9 _ e fun hm=>by
  have q:(H b).isSome=true:=(List.mem_filter.mp hm).2
  rw[n] at q;simp at q
theorem zcf0 {h:Heap}{H:Hp}{b:Addr}{o:Obj}(e:(hidT h H).get? b=some o):h.get? b=some o/\H b=none:=by
 have e':h.get? b=some o:=PySem.W.of_hideAll (trk h H) e
 refine⟨e',?_⟩
 cases q:H b with
 | none=>rfl
 | some x=>
  have hm:b∈trk h H:=List.mem_filter.mpr ⟨zcu9.mpr (zcs0 e'),by simp[q]⟩
  have z:(hidT h H).get? b=none:=PySem.W.hideAll_none (trk h H) hm
  rw[z] at e;cases e
def zcf1 (g h:Heap) (L:Addr):List (Addr×Obj):=(List.range h.objs.size).filterMap fun a=>if a=L∨(g.get? a).isSome=true then none else (h.get? a).map fun o=>(a,o)
def rest (g h:Heap) (L d:Addr):List (Addr×Obj):=(zcf1 g h L).filter fun p=>decide (p.1≠d)
end L2
namespace L2
open PySem PySem.Spec PyProof.Rows
structure Mod (K:zcq5) (mg:Str->Option Value) (base:Heap):Prop where
 kin:K.In base
 glob:base.Ns mainGlobals mg
 blt:∃ mb,base.Ns builtinsNs mb/\∀ x:Str,x≠"__name__"->mb x=bootBuiltins x
 nolimit:base.NoLimit
structure Cx where
 prog:Program
 w:World
 K:zcq5
 mg:Str->Option Value
 base:Heap
 A:Around
 N:List Str
 s₀:Shared
 H₀:Hp
 env:Env
 outer:List Env
 stack:List Env
 ex:List Addr
 fn:Str->Bool
 calm:Bool
 pn:List (Addr×Obj)
 xe:Value->Shared->Prop
def frs (l:List Env):List Addr:=l.filterMap (·.frame)
abbrev Cx.fs (X:Cx):List Addr:=frs X.outer
def Vis (sc:Scope) (x:Str):Prop:=sc.names.lookup x=some .local∨sc.names.lookup x=some .cell∨sc.names.lookup x=some .free
def Loc (sc:Scope) (x:Str):Prop:=sc.names.lookup x=some .local∨sc.names.lookup x=some .cell
def Look (env:Env) (h:Heap) (m:Str->Option Value) (x:Str) (u:Value):Prop:=
 (env.kindOf x=some .local/\m x=some u)∨((env.kindOf x=some .cell∨env.kindOf x=some .free)/\∃ c,env.cells.lookup x=some c/\h.IsCell c (some u))
structure Cx.Ok (X:Cx):Prop where
 mod:Mod X.K X.mg X.base
 kind:X.env.scope.kind=.function
 glob:X.env.globals=mainGlobals
 blt:X.env.builtins=builtinsNs
 above:X.s₀.heap.objs.size<=X.env.locals
 inj:∀ x y c,X.env.cells.lookup x=some c->X.env.cells.lookup y=some c->x=y
 has:∀ x,(X.env.kindOf x=some .cell∨X.env.kindOf x=some .free)->∃ c,X.env.cells.lookup x=some c
 cab:∀ x c,X.fn x=true->X.env.cells.lookup x=some c->X.s₀.heap.objs.size<=c
 hd:X.calm=true->X.A.handled=none
 frames:X.A.frames=some X.stack
 stk:X.stack=X.outer∨(X.stack=X.env :: X.outer/\X.env.frame=some X.env.locals)
 exf:∀ b∈X.ex,b≠X.env.locals/\∀ x c,X.env.cells.lookup x=some c->c≠b
 bs:∀ b o,X.base.get? b=some o->X.s₀.heap.get? b=some o/\X.H₀ b=none
 bsz:X.base.objs.size<=X.s₀.heap.objs.size
 noex:∀ b o,X.base.get? b=some o->b ∉ X.ex
 exfs:∀ b∈X.ex,b ∉ X.fs
 funs:X.s₀.heap.FunFrames X.base X.outer
 frf:∀ b∈X.fs,X.H₀ b=none
structure Inv (X:Cx) (pins:List (Addr×Obj)) (σ:List (Option V)) (H:Hp) (s:Shared):Prop where
 ok:X.Ok
 os:s.os=X.s₀.os
 bare:AllBare s.gens
 base:Un X.fs X.ex X.H₀ H X.s₀.heap s.heap
 loc:∃ m,s.heap.Ns X.env.locals m/\∀ (i:Nat) (x:Str) (v:V),X.N[i]?=some x->σ[i]?=some (some v)->Vis X.env.scope x->∃ u,RelV v u/\Look X.env s.heap m x u
 cell:∀ x c,X.env.cells.lookup x=some c->∃ v,s.heap.IsCell c v
 free:H X.env.locals=none
 freeC:∀ x c,X.env.cells.lookup x=some c->H c=none
 pin:∀ p∈X.pn++pins,s.heap.get? p.1=some p.2/\H p.1=none/\p.1≠X.env.locals/\p.1 ∉ X.fs/\∀ v,p.2.data≠.cell v
 hok:HOk X.prog X.w H s.heap
 len:σ.length=X.N.length
section
variable {X:Cx}{pins:List (Addr×Obj)}{σ:List (Option V)}{H H':Hp}{s:Shared}{h':Heap}
theorem Cx.Ok.nofr (ok:X.Ok) {b:Addr}{o:Obj}(e:X.base.get? b=some o):b ∉ X.fs:=fun hb=>by
 have:=(ok.funs.mem hb).1
 rw[e] at this;cases this
theorem Inv.bs (I:Inv X pins σ H s):∀ b o,X.base.get? b=some o->s.heap.get? b=some o/\H b=none:=fun b o e=>
 ⟨I.base.keep b o (I.ok.bs b o e).1 (I.ok.bs b o e).2 (I.ok.nofr e) (I.ok.noex b o e),I.base.free b o (I.ok.bs b o e).1 (I.ok.bs b o e).2 (I.ok.noex b o e)⟩
theorem Inv.bk (I:Inv X pins σ H s):∀ b o,X.base.get? b=some o->s.heap.get? b=some o:=fun b o e=>(I.bs b o e).1
theorem Inv.mod (I:Inv X pins σ H s):Mod X.K X.mg X.base:=I.ok.mod
theorem Inv.kIn (I:Inv X pins σ H s):X.K.In s.heap:=I.ok.mod.kin.keeps I.bk
theorem Inv.lt (I:Inv X pins σ H s):X.env.locals<s.heap.objs.size:=let ⟨_,hn,_⟩:=I.loc;hn.lt
theorem Inv.sz (I:Inv X pins σ H s):X.s₀.heap.objs.size<=s.heap.objs.size:=zcv1 I.ok.above (Nat.le_of_lt I.lt)
theorem Inv.nofs (I:Inv X pins σ H s) {a:Addr}(h:s.heap.objs.size<=a):a ∉ X.fs:=fun hb=>by
 obtain⟨_,o,ho,_⟩:=I.ok.funs.mem hb
 exact absurd (zcs7 (zcs0 ho) (zcv1 I.sz h)) (zcx2 _)
theorem Inv.cne (I:Inv X pins σ H s):∀ x c,X.env.cells.lookup x=some c->c≠X.env.locals:=fun x c e z=>by
 obtain⟨v,o,ho,hd⟩:=I.cell x c e
 obtain⟨m,⟨o',es,ep,ho',hd',_⟩,_⟩:=I.loc
 rw[z,ho'] at ho;cases ho;rw[hd'] at hd;cases hd
theorem Inv.funs (I:Inv X pins σ H s):s.heap.FunFrames X.base X.outer:=by
 have all:∀ (l:List Env),(∀ b∈frs l,b∈X.fs)->X.s₀.heap.FunFrames X.base l->s.heap.FunFrames X.base l:=by
  intro l
  induction l with
  | nil=>intro _ _;trivial
  | cons env r ih=>
   intro hs hl
   obtain⟨hk,⟨L,o,hf,hn,ho,hd⟩,hr⟩:=hl
   have hL:L∈X.fs:=hs L (by unfold frs;rw[List.filterMap_cons,hf];exact zcv7)
   obtain⟨sl,e⟩:=I.base.slot L o ho (I.ok.frf L hL) hL fun z=>I.ok.exfs L z hL
   exact⟨hk,⟨L,_,hf,hn,e,hd⟩,ih (fun b hb=>hs b (by unfold frs;rw[List.filterMap_cons,hf];exact zcu7 _ hb)) hr⟩
 exact all X.outer (fun _ hb=>hb) I.ok.funs
theorem Inv.stack (I:Inv X pins σ H s):s.heap.FunFrames X.base X.stack:=by
 rcases I.ok.stk with e|⟨e,hf⟩
 ·rw[e];exact I.funs
 ·rw[e]
  obtain⟨m,hn,_⟩:=I.loc
  refine .cons (by rw[I.ok.kind];decide) hf hn ?_ I.funs
  exact Heap.get?_none_of_le (zcv1 I.ok.bsz I.ok.above)
theorem Inv.stkSub (I:Inv X pins σ H s):∀ b∈frs X.stack,b∈X.env.locals :: X.fs:=fun b hb=>by
 rcases I.ok.stk with e|⟨e,hf⟩
 ·rw[e] at hb;exact zcu7 _ hb
 ·rw[e] at hb
  unfold frs at hb
  rw[List.filterMap_cons,hf] at hb
  exact hb
theorem Inv.stkFree (I:Inv X pins σ H s):∀ b∈frs X.stack,H b=none:=fun b hb=>by
 rcases zcs2.mp (I.stkSub b hb) with e|hb
 ·rw[e];exact I.free
 ·obtain⟨_,o,ho,_⟩:=I.ok.funs.mem hb
  exact I.base.free b o ho (I.ok.frf b hb) fun z=>I.ok.exfs b z hb
theorem Inv.step {g':Array GenState}{t':Nat}{d':Drawn}{ch:List Addr}(I:Inv X pins σ H s)
  (hch:∀ b∈ch,(b∈X.ex∨X.s₀.heap.objs.size<=b)/\b≠X.env.locals/\(∀ x c,X.env.cells.lookup x=some c->c≠b)/\∀ p∈X.pn++pins,p.1≠b)
  (keep:∀ b o,b≠X.env.locals->b ∉ X.fs->b ∉ ch->s.heap.get? b=some o->H b=none->h'.get? b=some o)
  (slot:∀ b o,b≠X.env.locals->b∈X.fs->b ∉ ch->s.heap.get? b=some o->H b=none->∃ sl,h'.get? b=some { o with slots:=sl }) (free:∀ b o,b ∉ ch->s.heap.get? b=some o->H b=none->H' b=none)
  (there:∀ b o,b ∉ ch->s.heap.get? b=some o->∃ o',h'.get? b=some o')
  (tups:∀ b xs,H b=some (.tup xs)->H' b=some (.tup xs)) (frzs:∀ b o u,H b=some (.frz o u)->H' b=some (.frz o u)) (tbls:∀ b ps,H b=some (.tbl ps)->∃ more,H' b=some (.tbl (ps++more)))
  (ns:∀ m,s.heap.Ns X.env.locals m->h'.Ns X.env.locals m) (hok:HOk X.prog X.w H' h') (hg:AllBare g') :
  Inv X pins σ H' { s with heap:=h',gens:=g',drawn:=d',toks:=t' }:=by
 have neL:∀ b o,X.s₀.heap.get? b=some o->b≠X.env.locals:=fun b o e=>zct6 (zcs7 (zcs0 e) I.ok.above)
 have neC:∀ b o,X.s₀.heap.get? b=some o->b ∉ X.ex->b ∉ ch:=fun b o e hx hb=>by
  rcases (hch b hb).1 with z|z
  ·exact hx z
  ·exact absurd (zcs7 (zcs0 e) z) (zcx2 _)
 have cellK:∀ x c,X.env.cells.lookup x=some c->∀ v,s.heap.IsCell c v->h'.IsCell c v:=fun x c e v ⟨o,ho,hd⟩=>by
  have nch:c ∉ ch:=fun z=>(hch c z).2.2.1 x c e rfl
  by_cases hc:c∈X.fs
  ·obtain⟨sl,q⟩:=slot c o (I.cne x c e) hc nch ho (I.freeC x c e)
   exact⟨_,q,hd⟩
  ·exact⟨o,keep c o (I.cne x c e) hc nch ho (I.freeC x c e),hd⟩
 refine⟨I.ok,I.os,hg,⟨fun b o e n hb hx=>?_,fun b o e n hb hx=>?_,fun b o e n hx=>?_,fun b o e hx=>?_,fun b xs e=>tups b xs (I.base.tups b xs e),fun b o xs e=>frzs b o xs (I.base.frzs b o xs e),fun b ps e=>?_⟩,?_,fun x c e=>?_,?_,fun x c e=>?_,fun p hp=>?_,hok,I.len⟩
 ·exact keep b o (neL b o e) hb (neC b o e hx) (I.base.keep b o e n hb hx) (I.base.free b o e n hx)
 ·obtain⟨sl,e1⟩:=I.base.slot b o e n hb hx
  obtain⟨sl',e2⟩:=slot b _ (neL b o e) hb (neC b o e hx) e1 (I.base.free b o e n hx)
  exact⟨sl',e2⟩
 ·obtain⟨o',e1⟩:=I.base.there b o e hx
  exact free b o' (neC b o e hx) e1 (I.base.free b o e n hx)
 ·obtain⟨o',e1⟩:=I.base.there b o e hx
  exact there b o' (neC b o e hx) e1
 ·obtain⟨m1,e1⟩:=I.base.tbls b ps e
  obtain⟨m2,e2⟩:=tbls b _ e1
  exact⟨m1++m2,by rw[e2,Array.append_assoc]⟩
 ·obtain⟨m,hn,hl⟩:=I.loc
  refine⟨m,ns m hn,fun i x v e1 e2 e3=>?_⟩
  obtain⟨u,r,l⟩:=hl i x v e1 e2 e3
  refine⟨u,r,?_⟩
  rcases l with l|⟨k,c,e,z⟩
  ·exact .inl l
  ·exact .inr ⟨k,c,e,cellK x c e _ z⟩
 ·obtain⟨v,z⟩:=I.cell x c e
  exact⟨v,cellK x c e v z⟩
 ·obtain⟨m,⟨o,_,_,ho,_⟩,_⟩:=I.loc
  exact free _ o (fun z=>(hch _ z).2.1 rfl) ho I.free
 ·obtain⟨v,o,ho,hd⟩:=I.cell x c e
  exact free c o (fun z=>(hch c z).2.2.1 x c e rfl) ho (I.freeC x c e)
 ·obtain⟨e,n,ne,nf,d⟩:=I.pin p hp
  have nch:p.1 ∉ ch:=fun z=>(hch p.1 z).2.2.2 p hp rfl
  exact⟨keep p.1 p.2 ne nf nch e n,free p.1 p.2 nch e n,ne,nf,d⟩
theorem Inv.un {t':Nat}(I:Inv X pins σ H s) (u:Un X.fs [] H H' s.heap h') (hok:HOk X.prog X.w H' h'):Inv X pins σ H' { s with heap:=h',toks:=t' }:=by
 obtain⟨m,⟨o,es,ep,ho,r⟩,_⟩:=id I.loc
 obtain⟨sl,hL⟩:=u.any ho I.free (by simp)
 exact I.step (g':=s.gens) (d':=s.drawn) (ch:=[]) (fun _ z=>nomatch z) (fun b o _ hb _ e n=>u.keep b o e n hb (by simp)) (fun b o _ hb _ e n=>u.slot b o e n hb (by simp)) (fun b o _ e n=>u.free b o e n (by simp)) (fun b o _ e=>u.there b o e (by simp)) u.tups u.frzs u.tbls (fun m' hm=>by
  obtain⟨o',es',ep',ho',r'⟩:=hm
  rw[ho] at ho';cases ho'
  exact⟨_,es',ep',hL,r'⟩) hok I.bare
theorem Inv.call {g':Array GenState}{t':Nat}{d':Drawn}{ch:List Addr}(I:Inv X pins σ H s) (u:Un (frs X.stack) ch H H' s.heap h') (hok:HOk X.prog X.w H' h') (hg:AllBare g')
  (hch:∀ b∈ch,(b∈X.ex∨X.s₀.heap.objs.size<=b)/\b≠X.env.locals/\(∀ x c,X.env.cells.lookup x=some c->c≠b)/\∀ p∈X.pn++pins,p.1≠b) :
  Inv X pins σ H' { s with heap:=h',gens:=g',drawn:=d',toks:=t' }:=by
 obtain⟨m,⟨o,es,ep,ho,r⟩,_⟩:=id I.loc
 obtain⟨sl,hL⟩:=u.any ho I.free fun z=>(hch _ z).2.1 rfl
 exact I.step (ch:=ch) hch (fun b o hL hb hc e n=>u.keep b o e n (fun z=>(zcs2.mp (I.stkSub b z)).elim hL hb) hc) (fun b o _ _ hc e n=>u.any e n hc) (fun b o hc e n=>u.free b o e n hc) (fun b o hc e=>u.there b o e hc) u.tups u.frzs u.tbls (fun m' hm=>by
  obtain⟨o',es',ep',ho',r'⟩:=hm
  rw[ho] at ho';cases ho'
  exact⟨_,es',ep',hL,r'⟩) hok hg
theorem Inv.turned {t':Nat}{it:Addr}(I:Inv X pins σ H s) (k:∀ b o,b≠it->s.heap.get? b=some o->h'.get? b=some o) (hn:H it=none) (hL:it≠X.env.locals)
  (h1:it∈X.ex∨X.s₀.heap.objs.size<=it) (h2:∀ x c,X.env.cells.lookup x=some c->c≠it) (h3:∀ p∈X.pn++pins,p.1≠it):Inv X pins σ H { s with heap:=h',toks:=t' }:=by
 have nit:∀ b u,H b=some u->b≠it:=fun b u e z=>by rw[z,hn] at e;cases e
 refine I.step (g':=s.gens) (d':=s.drawn) (ch:=[it]) (fun b hb=>?_) (fun b o _ _ hc e _=>k b o (fun z=>hc (by simp[z])) e) (fun b o _ _ hc e _=>⟨o.slots,k b o (fun z=>hc (by simp[z])) e⟩) (fun _ _ _ _ n=>n)
  (fun b o hc e=>⟨o,k b o (fun z=>hc (by simp[z])) e⟩) (fun _ _ e=>e) (fun _ _ _ e=>e) (fun b ps e=>⟨#[],by rw[e];simp⟩) (fun m hm=>?_) (fun b u e=>?_) I.bare
 ·have e:b=it:=by simpa using hb
  subst e
  exact⟨h1,hL,h2,h3⟩
 ·obtain⟨o,es,ep,ho,r⟩:=hm
  exact⟨o,es,ep,k _ o (Ne.symm hL) ho,r⟩
 ·refine (I.hok b u e).stay (fun c v hc q=>k c v ?_ q) (fun _ q=>q) fun _ _ q=>q
  rcases hc with z|z
  ·rw[z];exact nit b u e
  ·exact nit c _ z
theorem Inv.tok (I:Inv X pins σ H s) (t:Nat):Inv X pins σ H { s with toks:=t }:=I.un (h':=s.heap) (t':=t) Un.refl I.hok
theorem Inv.kept {t':Nat}(I:Inv X pins σ H s) (k:∀ b u,s.heap.get? b=some u->h'.get? b=some u):Inv X pins σ H { s with heap:=h',toks:=t' }:=I.un (Un.kept k) (I.hok.kept k)
theorem Inv.laid {a:Addr}{o:HO}{t':Nat}(I:Inv X pins σ H s) (k:∀ b u,s.heap.get? b=some u->h'.get? b=some u) (hp:s.heap.objs.size<=a) (new:zi2 X.prog X.w (upd H a o) h' a o) :
  Inv X pins σ (upd H a o) { s with heap:=h',toks:=t' }:=I.un (Un.laid k hp (I.hok.fresh hp)) (I.hok.laid k hp new)
theorem Inv.write {x e:Addr}{o:HO}{t':Nat}(I:Inv X pins σ H s) (mu:Mut (H x)) (he:e=x∨H e=some (.own x)) (k:∀ b u,b≠e->s.heap.get? b=some u->h'.get? b=some u) (heo:∃ u,h'.get? e=some u)
  (new:zi2 X.prog X.w (upd H x o) h' x o):Inv X pins σ (upd H x o) { s with heap:=h',toks:=t' }:=I.un (Un.write mu he k heo) (I.hok.write mu he k heo new)
theorem Inv.pins_of {pins':List (Addr×Obj)}(I:Inv X pins σ H s) (h:∀ p∈pins',s.heap.get? p.1=some p.2/\H p.1=none/\p.1≠X.env.locals/\p.1 ∉ X.fs/\∀ v,p.2.data≠.cell v):Inv X pins' σ H s:=
 ⟨I.ok,I.os,I.bare,I.base,I.loc,I.cell,I.free,I.freeC,fun p hp=>(zcu8.mp hp).elim (fun z=>I.pin p (List.mem_append_left _ z)) (h p),I.hok,I.len⟩
theorem zbd6 {N:List Str}(hN:N.Nodup) {i j:Nat}{x:Str}(a:N[i]?=some x) (b:N[j]?=some x):i=j:=by
 obtain⟨h1,e1⟩:=zcq6.mp a
 obtain⟨h2,e2⟩:=zcq6.mp b
 exact (List.getElem_inj hN).mp (e1.trans e2.symm)
theorem zat9 {M:Model}{A:Around}{E:Value->Shared->Prop}{i:Nat}{x:Str}{v:V}{u:Value}{Q:Unit->Shared->Prop}(I:Inv X pins σ H s) (hN:X.N.Nodup) (hi:X.N[i]?=some x) (hx:Loc X.env.scope x) (r:RelV v u)
  (h:∀ s',Inv X pins (σ.set i (some v)) H s'->(∃ a,Heap.SameBut a s.heap s'.heap/\(a=X.env.locals∨X.env.cells.lookup x=some a))->Q () s') (hf:X.fn x=true∨X.env.scope.names.lookup x=some .local:=by first|exact .inl rfl|exact .inr rfl|assumption):wpAny M A (storeName X.env x u) Q E s:=by
 obtain⟨m,hn,hl⟩:=id I.loc
 have hcls:(X.env.scope.kind==.class || (X.env.scope.kind==.module&&X.env.locals != X.env.globals))=false:=by rw[I.ok.kind];rfl
 have hiσ:i<σ.length:=by rw[I.len];exact (zcq6.mp hi).1
 have cne:=I.cne
 have tracked:∀ {a:Addr}{h':Heap},(∃ o,s.heap.get? a=some o/\H a=none)->Heap.SameBut a s.heap h'->HOk X.prog X.w H h':=fun {a h'} ha hs b ob e=>by
  obtain⟨_,_,hfree⟩:=ha
  refine (I.hok b ob e).stay (fun c w' hc q=>(hs.2 c ?_).trans q) (fun _ q=>q) fun _ _ q=>q
  rintro rfl
  rcases hc with rfl|hc
  ·rw[hfree] at e;cases e
  ·rw[hfree] at hc;cases hc
 rcases hx with hk|hk
 ·refine wpAny_storeName_local hk hn (fun h' hn' hs=>?_) hcls
  obtain⟨oL,_,_,hoL,_⟩:=id hn
  refine h _ ⟨I.ok,I.os,I.bare,⟨fun b o e n hb hx=>?_,fun b o e n hb hx=>?_,I.base.free,fun b o e hx=>?_,I.base.tups,I.base.frzs,I.base.tbls⟩,⟨_,hn',fun j y v' e1 e2 e3=>?_⟩,fun y c e=>?_,I.free,I.freeC,fun p hp=>?_,tracked ⟨oL,hoL,I.free⟩ hs,by simpa using I.len⟩ ⟨_,hs,.inl rfl⟩
  ·exact (hs.2 b (zct6 (zcs7 (zcs0 e) I.ok.above))).trans (I.base.keep b o e n hb hx)
  ·obtain⟨sl,e1⟩:=I.base.slot b o e n hb hx
   exact⟨sl,(hs.2 b (zct6 (zcs7 (zcs0 e) I.ok.above))).trans e1⟩
  ·obtain⟨o',e1⟩:=I.base.there b o e hx
   exact⟨o',(hs.2 b (zct6 (zcs7 (zcs0 e) I.ok.above))).trans e1⟩
  ·by_cases hj:j=i
   ·subst hj
    rw[hi] at e1;cases e1
    rw[List.getElem?_set_self hiσ] at e2
    cases e2
    exact⟨u,r,.inl ⟨hk,by simp⟩⟩
   ·rw[List.getElem?_set_ne (Ne.symm hj)] at e2
    obtain⟨u',r',q⟩:=hl j y v' e1 e2 e3
    refine⟨u',r',?_⟩
    rcases q with ⟨k,e⟩|⟨k,c,e,z⟩
    ·refine .inl ⟨k,?_⟩
     have:y≠x:=fun e=>hj (zbd6 hN e1 (e▸hi))
     simp[this,e]
    ·exact .inr ⟨k,c,e,z.sameBut hs (cne y c e)⟩
  ·obtain⟨w',z⟩:=I.cell y c e
   exact⟨w',z.sameBut hs (cne y c e)⟩
  ·obtain⟨e,n,ne,nf,d⟩:=I.pin p hp
   exact⟨(hs.2 p.1 ne).trans e,n,ne,nf,d⟩
 ·have hfn:X.fn x=true:=by
   rcases hf with z|z
   ·exact z
   ·rw[z] at hk;cases hk
  obtain⟨c,hc⟩:=I.ok.has x (.inl hk)
  obtain⟨w',z⟩:=I.cell x c hc
  refine wpAny_storeName_cell I.ok.kind hk hc z (fun h' hc' hs=>?_)
  obtain⟨oc,hoc,hocd⟩:=id z
  refine h { s with heap:=h' } ⟨I.ok,I.os,I.bare,⟨fun b o e n hb hx=>?_,fun b o e n hb hx=>?_,I.base.free,fun b o e hx=>?_,I.base.tups,I.base.frzs,I.base.tbls⟩,⟨m,hn.sameBut hs (Ne.symm (cne x c hc)),fun j y v' e1 e2 e3=>?_⟩,fun y c' e=>?_,I.free,I.freeC,fun p hp=>?_,tracked ⟨oc,hoc,I.freeC x c hc⟩ hs,by simpa using I.len⟩ ⟨c,hs,.inr hc⟩
  ·exact (hs.2 b (zct6 (zcs7 (zcs0 e) (I.ok.cab x c hfn hc)))).trans (I.base.keep b o e n hb hx)
  ·obtain⟨sl,e1⟩:=I.base.slot b o e n hb hx
   exact⟨sl,(hs.2 b (zct6 (zcs7 (zcs0 e) (I.ok.cab x c hfn hc)))).trans e1⟩
  ·obtain⟨o',e1⟩:=I.base.there b o e hx
   exact⟨o',(hs.2 b (zct6 (zcs7 (zcs0 e) (I.ok.cab x c hfn hc)))).trans e1⟩
  ·by_cases hj:j=i
   ·subst hj
    rw[hi] at e1;cases e1
    rw[List.getElem?_set_self hiσ] at e2
    cases e2
    exact⟨u,r,.inr ⟨.inl hk,c,hc,hc'⟩⟩
   ·rw[List.getElem?_set_ne (Ne.symm hj)] at e2
    obtain⟨u',r',q⟩:=hl j y v' e1 e2 e3
    refine⟨u',r',?_⟩
    rcases q with q|⟨k,c',e,z'⟩
    ·exact .inl q
    ·refine .inr ⟨k,c',e,z'.sameBut hs ?_⟩
     rintro rfl
     exact hj (zbd6 hN e1 (I.ok.inj _ _ _ e hc▸hi))
  ·by_cases hcc:c'=c
   ·subst hcc;exact⟨_,hc'⟩
   ·obtain⟨w2,z2⟩:=I.cell y c' e
    exact⟨w2,z2.sameBut hs hcc⟩
  ·obtain⟨e,n,ne,nf,d⟩:=I.pin p hp
   refine⟨(hs.2 p.1 ?_).trans e,n,ne,nf,d⟩
   intro q
   rw[q,hoc] at e
   have q':oc=p.2:=Option.some.inj e
   exact d w' (by rw[← q'];exact hocd)
theorem zac9 {M:Model}{A:Around}{E:Value->Shared->Prop}{i:Nat}{x:Str}{v:V}{u:Value}{Q:Unit->Shared->Prop}(I:Inv X pins σ H s) (hN:X.N.Nodup) (hi:X.N[i]?=some x) (hx:Loc X.env.scope x) (r:RelV v u)
  (h:∀ s',Inv X pins (σ.set i (some v)) H s'->Q () s') (hf:X.fn x=true∨X.env.scope.names.lookup x=some .local:=by first|exact .inl rfl|exact .inr rfl|assumption):wpAny M A (storeName X.env x u) Q E s:=
 zat9 I hN hi hx r (fun s' I' _=>h s' I') hf
end
abbrev XK:=Value->Option Addr->Hp->Prop
abbrev St:=List (Option V)
abbrev VK:=V->Hp->Prop
abbrev TE:=St->Hp->VK->Prop
abbrev TT:=St->Hp->(Bool->Hp->Prop)->Prop
abbrev TA:=St->Hp->(List V->Hp->Prop)->Prop
structure Ends where
 nx:St->Hp->Prop
 rt:VK
 bk:St->Hp->Prop:=fun _ _=>False
 ct:St->Hp->Prop:=fun _ _=>False
abbrev TS:=Ends->St->Hp->Prop
def EP (X:Cx) (pins:List (Addr×Obj)) (σ:St) (Q:VK) (u:Value) (s':Shared):Prop:=∃ v H',Inv X pins σ H' s'/\RelV v u/\Q v H'
def TP (X:Cx) (pins:List (Addr×Obj)) (σ:St) (Q:Bool->Hp->Prop) (b:Bool) (s':Shared):Prop:=∃ H',Inv X pins σ H' s'/\Q b H'
def AP (X:Cx) (pins:List (Addr×Obj)) (σ:St) (Q:List V->Hp->Prop) (us:List Value) (s':Shared):Prop:=∃ vs H',Inv X pins σ H' s'/\Vals vs us/\Q vs H'
def SP (X:Cx) (pins:List (Addr×Obj)) (D:Ends) (f:Flow) (s':Shared):Prop:=
 match f with
 | .next=>∃ σ' H',Inv X pins σ' H' s'/\D.nx σ' H'
 | .brk=>∃ σ' H',Inv X pins σ' H' s'/\D.bk σ' H'
 | .cont=>∃ σ' H',Inv X pins σ' H' s'/\D.ct σ' H'
 | .ret u=>∃ v σ' H',Inv X pins σ' H' s'/\RelV v u/\D.rt v H'
def PE (X:Cx) (e:Expr) (t:TE):Prop:=
 ∀ (pins:List (Addr×Obj)) (s:Shared) (σ:St) (H:Hp) (Q:VK),Inv X pins σ H s->t σ H Q->wpAny (model X.prog X.w) X.A (eval e X.env) (EP X pins σ Q) X.xe s
def PT (X:Cx) (e:Expr) (t:TT):Prop:=
 ∀ (pins:List (Addr×Obj)) (s:Shared) (σ:St) (H:Hp) (Q:Bool->Hp->Prop),Inv X pins σ H s->t σ H Q->wpAny (model X.prog X.w) X.A (isTrue e X.env (eval e X.env)) (TP X pins σ Q) X.xe s
def PW (X:Cx) (e:Expr) (t:TT):Prop:=
 ∀ (whole:Sem Value) (pins:List (Addr×Obj)) (s:Shared) (σ:St) (H:Hp) (Q:Bool->Hp->Prop),Inv X pins σ H s->t σ H Q->wpAny (model X.prog X.w) X.A (isTrue e X.env whole) (TP X pins σ Q) X.xe s
theorem PW.pt {X:Cx}{e:Expr}{t:TT}(h:PW X e t):PT X e t:=h _
def PA (X:Cx) (es:List Expr) (t:TA):Prop:=
 ∀ (pos:Pos) (pins:List (Addr×Obj)) (s:Shared) (σ:St) (H:Hp) (Q:List V->Hp->Prop),Inv X pins σ H s->t σ H Q->wpAny (model X.prog X.w) X.A (spliced (backTo pos (starEach es X.env))) (AP X pins σ Q) X.xe s
def PS (X:Cx) (st:Stmt) (t:TS):Prop:=
 ∀ (pins:List (Addr×Obj)) (s:Shared) (σ:St) (H:Hp) (D:Ends),Inv X pins σ H s->t D σ H->wpAny (model X.prog X.w) X.A (exec st X.env) (SP X pins D) X.xe s
def PSs (X:Cx) (st:List Stmt) (t:TS):Prop:=
 ∀ (pins:List (Addr×Obj)) (s:Shared) (σ:St) (H:Hp) (D:Ends),Inv X pins σ H s->t D σ H->wpAny (model X.prog X.w) X.A (execs st X.env) (SP X pins D) X.xe s
theorem thn {α:Type}{t:Sem α}{Q Q':α->Shared->Prop}{M:Model}{A:Around}{E:Value->Shared->Prop}{s:Shared}(h:wpAny M A t Q E s) (hQ:∀ a s,Q a s->Q' a s):wpAny M A t Q' E s:=wpAny_mono h hQ fun _ _ x=>x
end L2
namespace L2
open PySem PySem.Spec PyProof.Rows
section
variable {X:Cx}
theorem bin {a b:Expr}{ta tb:TE}(ha:PE X a ta) (hb:PE X b tb) {pins:List (Addr×Obj)}{s:Shared}{σ:St}{H:Hp}{R:V->V->Hp->Prop}(I:Inv X pins σ H s) (h:ta σ H fun x H1=>tb σ H1 fun y H2=>R x y H2)
  {α:Type}{Q:α->Shared->Prop}{f:Value->Value->Sem α}
  (hf:∀ v u s2 x y H2,Inv X pins σ H2 s2->RelV x v->RelV y u->R x y H2->wpAny (model X.prog X.w) X.A (f v u) Q X.xe s2) :
  wpAny (model X.prog X.w) X.A (eval a X.env) (fun v s₁=>wpAny (model X.prog X.w) X.A (eval b X.env) (fun u s₂=>wpAny (model X.prog X.w) X.A (f v u) Q X.xe s₂) X.xe s₁) X.xe s:=by
 refine thn (ha pins s σ H _ I h) fun v s1 ⟨x,H1,I1,r1,q1⟩=>?_
 refine thn (hb pins s1 σ H1 _ I1 q1) fun u s2 ⟨y,H2,I2,r2,q2⟩=>?_
 exact hf v u s2 x y H2 I2 r1 r2 q2
def tVar (i:Nat):TE:=fun σ H Q=>∃ v,σ[i]?=some (some v)/\Q v H
def tC (v:V):TE:=fun _ H Q=>Q v H
theorem pe_var {i:Nat}{x:Str}{pos:Pos}(hN:X.N[i]?=some x) (hv:Vis X.env.scope x) (hd:(x==("__debug__":Str))=false:=by decide) (hcd:(x==("__classdict__":Str))=false:=by decide):PE X (.Name x pos) (tVar i):=by
 intro pins s σ H Q I h
 obtain⟨v,e,h⟩:=h
 obtain⟨m,hn,hl⟩:=I.loc
 obtain⟨u,r,l⟩:=hl i x v hN e hv
 have fin:EP X pins σ Q u s:=⟨v,H,I,r,h⟩
 rcases l with ⟨hk,hm⟩|⟨hk,c,hc,hcell⟩
 ·exact wpAny_Name (wpAny_loadName_local I.ok.kind hk hn hm fin) hd
 ·rcases hk with hk|hk
  ·exact wpAny_Name (wpAny_loadName_cell I.ok.kind hk hc hcell fin) hd
  ·exact wpAny_Name (wpAny_loadName_free I.ok.kind hk hc hcell fin hcd) hd
theorem za2 {i j pos}:PE X (.Constant (.int i) j pos) (tC (.int i)):=fun _ _ _ H _ I h=>wpAny_Constant_int ⟨.int i,H,I.tok _,⟨_,rfl⟩,h⟩
theorem zan1 {b j pos}:PE X (.Constant (.bool b) j pos) (tC (.bl b)):=fun _ _ _ H _ I h=>Constant_bool ⟨.bl b,H,I,rfl,h⟩
theorem zy3 {j pos}:PE X (.Constant .none j pos) (tC .non):=fun _ _ _ H _ I h=>Constant_none ⟨.non,H,I,rfl,h⟩
theorem zh6 {x j pos}:PE X (.Constant (.str x) j pos) (tC (.str x)):=fun _ _ _ H _ I h=>Calls.Constant_str ⟨.str x,H,I.tok _,⟨_,rfl⟩,h⟩
def Gl (X:Cx) (x:Str):Prop:=X.env.kindOf x=some .globalImplicit
theorem zap3 {E:Value->Shared->Prop}{pins:List (Addr×Obj)}{s:Shared}{σ:St}{H:Hp}{x:Str}{u:Value}{pos:Pos}{Q:Value->Shared->Prop}(I:Inv X pins σ H s) (hg:Gl X x) (hm:X.mg x=some u) (h:Q u s)
  (hd:(x==("__debug__":Str))=false:=by decide):wpAny (model X.prog X.w) X.A (eval (.Name x pos) X.env) Q E s:=
 Calls.Name_function_global I.ok.kind hg (Calls.loadGlobal_global (by rw[I.ok.glob];exact I.mod.glob.keeps I.bk) hm h) hd
theorem zy6 {E:Value->Shared->Prop}{pins:List (Addr×Obj)}{s:Shared}{σ:St}{H:Hp}{x:Str}{u:Value}{pos:Pos}{Q:Value->Shared->Prop}(I:Inv X pins σ H s) (hg:Gl X x) (hm:X.mg x=none) (hv:bootBuiltins x=some u) (h:Q u s)
  (hn:x≠"__name__":=by decide) (hd:(x==("__debug__":Str))=false:=by decide):wpAny (model X.prog X.w) X.A (eval (.Name x pos) X.env) Q E s:=by
 obtain⟨mb,h1,h2⟩:=I.mod.blt
 exact Calls.Name_function_global I.ok.kind hg (Calls.loadGlobal_builtin (by rw[I.ok.glob];exact I.mod.glob.keeps I.bk) hm (by rw[I.ok.blt];exact h1.keeps I.bk) ((h2 x hn).trans hv) h) hd
theorem zba5 {x:Str}{v:V}{u:Value}{pos:Pos}(hg:Gl X x) (hm:X.mg x=some u) (r:RelV v u) (hd:(x==("__debug__":Str))=false:=by decide):PE X (.Name x pos) (tC v):=
 fun _ _ _ H _ I h=>zap3 I hg hm ⟨v,H,I,r,h⟩ hd
theorem zcd2 {x:Str}{v:V}{u:Value}{pos:Pos}(hg:Gl X x) (hm:X.mg x=none) (hv:bootBuiltins x=some u) (r:RelV v u) (hn:x≠"__name__":=by decide) (hd:(x==("__debug__":Str))=false:=by decide):PE X (.Name x pos) (tC v):=
 fun _ _ _ H _ I h=>zy6 I hg hm hv ⟨v,H,I,r,h⟩ hn hd
variable {a b:Expr}{ta tb:TE}{pos:Pos}
variable {tA tB':TT}{rest:List Expr}
def tAnd (t u:TT):TT:=fun σ H Q=>t σ H fun c H1=>if c=true then u σ H1 Q else Q false H1
def tOr (t u:TT):TT:=fun σ H Q=>t σ H fun c H1=>if c=true then Q true H1 else u σ H1 Q
def tNot (t:TT):TT:=fun σ H Q=>t σ H fun c H1=>Q (!c) H1
theorem zao1 (ha:PT X a tA):PW X (.BoolOp .And [a] pos) tA:=by
 intro wh pins s σ H Q I h
 refine isTrue_and (thn (ha pins s σ H Q I h) fun c s1 e=>?_)
 cases c with
 | true=>exact isTrue_and_nil e
 | false=>exact e
theorem zaj8 (ha:PT X a tA):PW X (.BoolOp .Or [a] pos) tA:=by
 intro wh pins s σ H Q I h
 refine isTrue_or (thn (ha pins s σ H Q I h) fun c s1 e=>?_)
 cases c with
 | false=>exact isTrue_or_nil e
 | true=>exact e
theorem pw_and (ha:PT X a tA) (hb:PW X (.BoolOp .And (b :: rest) pos) tB'):PW X (.BoolOp .And (a :: b :: rest) pos) (tAnd tA tB'):=by
 intro wh pins s σ H Q I h
 refine isTrue_and (thn (ha pins s σ H _ I h) fun c s1 ⟨H1,I1,q1⟩=>?_)
 cases c with
 | true=>exact hb wh pins s1 σ H1 Q I1 q1
 | false=>exact⟨H1,I1,q1⟩
theorem pw_or (ha:PT X a tA) (hb:PW X (.BoolOp .Or (b :: rest) pos) tB'):PW X (.BoolOp .Or (a :: b :: rest) pos) (tOr tA tB'):=by
 intro wh pins s σ H Q I h
 refine isTrue_or (thn (ha pins s σ H _ I h) fun c s1 ⟨H1,I1,q1⟩=>?_)
 cases c with
 | true=>exact⟨H1,I1,q1⟩
 | false=>exact hb wh pins s1 σ H1 Q I1 q1
theorem zr1 (ha:PT X a tA):PT X (.UnaryOp .Not a pos) (tNot tA):=by
 intro pins s σ H Q I h
 exact isTrue_not (ha pins s σ H (fun c H1=>Q (!c) H1) I h)
theorem zt1 {op} {t:TE}(h:PE X a t):PE X (.BoolOp op [a] pos) t:=fun pins s σ H Q I hw=>BoolOp_one (h pins s σ H Q I hw)
def tIf (t:TT) (ta tb:TE):TE:=fun σ H Q=>t σ H fun c H1=>if c=true then ta σ H1 Q else tb σ H1 Q
theorem zbv0 {c:Expr}(hc:PT X c tA) (ha:PE X a ta) (hb:PE X b tb):PE X (.IfExp c a b pos) (tIf tA ta tb):=by
 intro pins s σ H Q I h
 refine wpAny_IfExp (thn (hc pins s σ H _ I h) fun d s1 ⟨H1,I1,q1⟩=>?_)
 cases d with
 | true=>exact ha pins s1 σ H1 Q I1 q1
 | false=>exact hb pins s1 σ H1 Q I1 q1
end
end L2
namespace L2
open PySem PySem.Spec PyProof.Rows
def SqL (K:zcq5) (H:Hp) (a:Addr) (xs:List V):Prop:=
 Rd H a (.lst xs) ∨
  ∃ (o:Obj) (its:Array Value) (n:Nat),K.lookup a=some o/\o.cls=.type "list"/\o.dict=none/\o.data=.seq its n/\its.size<=sizeLine/\Vals xs its.toList
def SqT (K:zcq5) (H:Hp) (a:Addr) (xs:List V):Prop:=
 Rd H a (.tup xs) ∨
  ∃ (o:Obj) (its:Array Value) (n:Nat),K.lookup a=some o/\o.cls=.type "tuple"/\o.data=.seq its n/\its.size<=sizeLine/\Vals xs its.toList
def absV:Value->Option V
 | .none=>some .non
 | .bool b=>some (.bl b)
 | .int i _=>some (.int i)
 | .str x _=>some (.str x)
 | .bytes b _=>some (.byt b)
 | .float b _=>some (.flt b)
 | .ref a=>some (.ref a)
 | .type n=>some (.ty n)
 | _=>none
theorem RelV.abs {x:V}{u:Value}(r:RelV x u):absV u=some x:=by
 cases x with
 | non=>cases r;rfl
 | bl _=>cases r;rfl
 | int _=>obtain⟨t,rfl⟩:=r;rfl
 | str _=>obtain⟨t,rfl⟩:=r;rfl
 | byt _=>obtain⟨t,rfl⟩:=r;rfl
 | flt _=>obtain⟨t,rfl⟩:=r;rfl
 | ref _=>cases r;rfl
 | ty _=>cases r;rfl
theorem RelV.inj {x y:V}{u:Value}(r:RelV x u) (q:RelV y u):x=y:=Option.some.inj (r.abs.symm.trans q.abs)
theorem Vals.inj:∀ {xs ys:List V}{us:List Value},Vals xs us->Vals ys us->xs=ys
 | _,_,_,.nil,.nil=>rfl
 | _,_,_,.cons r t,.cons r' t'=>by rw[r.inj r',Vals.inj t t']
section
variable {X:Cx}{pins:List (Addr×Obj)}{σ:St}{H:Hp}{s:Shared}{a:Addr}{xs ys:List V}
theorem SqL.of {K:zcq5}(h:H a=some (.lst xs)):SqL K H a xs:=.inl (.inl h)
theorem SqT.of {K:zcq5}(h:H a=some (.tup xs)):SqT K H a xs:=.inl (.inl h)
theorem Inv.list (I:Inv X pins σ H s) (h:SqL X.K H a xs):∃ its:List Value,Vals xs its/\PlainL s.heap a its.toArray/\xs.length<=sizeLine:=by
 rcases h with h|⟨o,its,n,hk,hc,hd,hs,hz,r⟩
 ·obtain⟨z,its,n,r,e⟩:=h.ok I.hok
  exact⟨its,r,⟨_,n,e,rfl,rfl,rfl⟩,z⟩
 ·refine⟨its.toList,r,⟨o,n,I.kIn a o hk,hc,hd,by simpa using hs⟩,?_⟩
  have e:=r.length
  simp only[Array.length_toList] at e
  omega
theorem Inv.tuple (I:Inv X pins σ H s) (h:SqT X.K H a xs):∃ its:List Value,Vals xs its/\IsTup s.heap a its.toArray/\xs.length<=sizeLine:=by
 rcases h with h|⟨o,its,n,hk,hc,hs,hz,r⟩
 ·obtain⟨z,its,r,p⟩:=h.ok I.hok
  exact⟨its,r,p,z⟩
 ·refine⟨its.toList,r,⟨o,I.kIn a o hk,hc,n,by simpa using hs⟩,?_⟩
  have e:=r.length
  simp only[Array.length_toList] at e
  omega
theorem Inv.list_inj (I:Inv X pins σ H s) (h:SqL X.K H a xs) (h':SqL X.K H a ys):xs=ys:=by
 obtain⟨its,r,⟨o,n,e,_,_,d⟩,_⟩:=I.list h
 obtain⟨its',r',⟨o',n',e',_,_,d'⟩,_⟩:=I.list h'
 rw[e] at e';cases e'
 rw[d] at d'
 injection d' with d1 _
 have:its=its':=by simpa using congrArg Array.toList d1
 subst this
 exact r.inj r'
theorem Inv.tuple_inj (I:Inv X pins σ H s) (h:SqT X.K H a xs) (h':SqT X.K H a ys):xs=ys:=by
 obtain⟨its,r,⟨o,e,_,n,d⟩,_⟩:=I.tuple h
 obtain⟨its',r',⟨o',e',_,n',d'⟩,_⟩:=I.tuple h'
 rw[e] at e';cases e'
 rw[d] at d'
 injection d' with d1 _
 have:its=its':=by simpa using congrArg Array.toList d1
 subst this
 exact r.inj r'
end
abbrev Cx.wish (X:Cx) (E:Value->Shared->Prop):Cx:={ X with xe:=E }
abbrev Cx.nox (X:Cx):Cx:=X.wish fun _ _=>False
theorem Cx.Ok.wish {X:Cx}(ok:X.Ok) (E:Value->Shared->Prop):(X.wish E).Ok:=
 ⟨ok.mod,ok.kind,ok.glob,ok.blt,ok.above,ok.inj,ok.has,ok.cab,ok.hd,ok.frames,ok.stk,ok.exf,ok.bs,ok.bsz,ok.noex,ok.exfs,ok.funs,ok.frf⟩
theorem Cx.Ok.unwish {X:Cx}{E:Value->Shared->Prop}(ok:(X.wish E).Ok):X.Ok:=
 ⟨ok.mod,ok.kind,ok.glob,ok.blt,ok.above,ok.inj,ok.has,ok.cab,ok.hd,ok.frames,ok.stk,ok.exf,ok.bs,ok.bsz,ok.noex,ok.exfs,ok.funs,ok.frf⟩
section
variable {X:Cx}{pins:List (Addr×Obj)}{σ:St}{H:Hp}{s:Shared}{E:Value->Shared->Prop}
theorem Inv.wish (I:Inv X pins σ H s) (E:Value->Shared->Prop):Inv (X.wish E) pins σ H s:=⟨I.ok.wish E,I.os,I.bare,I.base,I.loc,I.cell,I.free,I.freeC,I.pin,I.hok,I.len⟩
theorem Inv.unwish (I:Inv (X.wish E) pins σ H s):Inv X pins σ H s:=⟨I.ok.unwish,I.os,I.bare,I.base,I.loc,I.cell,I.free,I.freeC,I.pin,I.hok,I.len⟩
theorem SP.unwish {D:Ends}{f:Flow}{s':Shared}(h:SP (X.wish E) pins D f s'):SP X pins D f s':=by
 cases f with
 | next=>obtain⟨σ',H',I,q⟩:=h;exact⟨σ',H',I.unwish,q⟩
 | brk=>obtain⟨σ',H',I,q⟩:=h;exact⟨σ',H',I.unwish,q⟩
 | cont=>obtain⟨σ',H',I,q⟩:=h;exact⟨σ',H',I.unwish,q⟩
 | ret u=>obtain⟨v,σ',H',I,r,q⟩:=h;exact⟨v,σ',H',I.unwish,r,q⟩
theorem PSs.nox {st:List Stmt}{t:TS}(h:PSs X.nox st t):PSs X st t:=fun pins s σ H D I hw=>
 wpAny_mono (h pins s σ H D (I.wish _) hw) (fun _ _ q=>q.unwish) fun _ _ z=>False.elim z
end
section
variable {X:Cx}{st:Stmt}{rest:List Stmt}{t u:TS}{e:Expr}{te:TE}{pos:Pos}
def tNext:TS:=fun D σ H=>D.nx σ H
def tSeq (t u:TS):TS:=fun D σ H=>t { D with nx:=u D } σ H
theorem zc1:PSs X [] tNext:=fun _ _ σ H _ I h=>wpAny_execs_nil ⟨σ,H,I,h⟩
theorem za4 (h1:PS X st t) (h2:PSs X rest u):PSs X (st :: rest) (tSeq t u):=by
 intro pins s σ H D I h
 refine wpAny_execs_cons (thn (h1 pins s σ H { D with nx:=u D } I h) fun f s1 q=>?_)
 cases f with
 | next=>
  obtain⟨σ',H',I',q⟩:=q
  exact h2 pins s1 σ' H' D I' q
 | ret v=>exact q
 | brk=>exact q
 | cont=>exact q
theorem za6 (h1:PS X st t):PSs X [st] t:=by
 intro pins s σ H D I h
 refine wpAny_execs_cons (thn (h1 pins s σ H D I h) fun f s1 q=>?_)
 cases f with
 | next=>exact wpAny_execs_nil q
 | ret v=>exact q
 | brk=>exact q
 | cont=>exact q
theorem Inv.quiet {pins:List (Addr×Obj)}{σ:St}{H:Hp}{s:Shared}(I:Inv X pins σ H s):interactive X.env=false:=by simp[interactive,I.ok.kind]
def tDrop (te:TE):TS:=fun D σ H=>te σ H fun _ H1=>D.nx σ H1
theorem zs6 (he:PE X e te) (hs:swapsWith e none pos.line X.env=pure false:=by rfl):PS X (.Expr e pos) (tDrop te):=by
 intro pins s σ H D I h
 exact wpAny_Expr_any (thn (he pins s σ H _ I h) fun v s1 ⟨x,H1,I1,r1,q1⟩=>⟨σ,H1,I1,q1⟩) I.quiet hs
def tRet (te:TE):TS:=fun D σ H=>te σ H D.rt
theorem zb0 (he:PE X e te):PS X (.Return (some e) pos) (tRet te):=by
 intro pins s σ H D I h
 exact wpAny_Return_some (thn (he pins s σ H _ I h) fun v s1 ⟨x,H1,I1,r1,q1⟩=>⟨x,σ,H1,I1,r1,q1⟩)
def tIfS (c:TT) (t u:TS):TS:=fun D σ H=>c σ H fun b H1=>if b=true then t D σ H1 else u D σ H1
theorem ps_if {c:Expr}{a b:List Stmt}{tc:TT}(hc:PT X c tc) (ha:PSs X a t) (hb:PSs X b u):PS X (.If c a b pos) (tIfS tc t u):=by
 intro pins s σ H D I h
 refine wpAny_If (thn (hc pins s σ H _ I h) fun d s1 ⟨H1,I1,q1⟩=>?_)
 cases d with
 | true=>exact ha pins s1 σ H1 D I1 q1
 | false=>exact hb pins s1 σ H1 D I1 q1
def tNever:TS:=fun _ _ _=>False
theorem zbu4:PS X st tNever:=fun _ _ _ _ _ _ h=>h.elim
end
abbrev TG:=V->St->Hp->(St->Hp->Prop)->Prop
abbrev TGs:=List V->St->Hp->(St->Hp->Prop)->Prop
def PG (X:Cx) (target:Expr) (t:TG):Prop:=
 ∀ (pins:List (Addr×Obj)) (s:Shared) (σ:St) (H:Hp) (v:V) (u:Value) (Q:St->Hp->Prop),Inv X pins σ H s->RelV v u->t v σ H Q ->
  wpAny (model X.prog X.w) X.A (assign target X.env u) (fun _ s'=>∃ σ' H',Inv X pins σ' H' s'/\Q σ' H') X.xe s
def PGs (X:Cx) (ts:List Expr) (t:TGs):Prop:=
 ∀ (pins:List (Addr×Obj)) (s:Shared) (σ:St) (H:Hp) (vs:List V) (us:List Value) (Q:St->Hp->Prop),Inv X pins σ H s->Vals vs us->t vs σ H Q ->
  wpAny (model X.prog X.w) X.A (assignInOrder ((assignEach ts X.env).map (·.2)) us) (fun _ s'=>∃ σ' H',Inv X pins σ' H' s'/\Q σ' H') X.xe s
abbrev TSet:=V->V->V->Hp->(Hp->Prop)->Prop
def PSet (X:Cx) (t:TSet):Prop:=
 ∀ (pins:List (Addr×Obj)) (s:Shared) (σ:St) (H:Hp) (o i v:V) (ov iv u:Value) (Q:Hp->Prop),Inv X pins σ H s->RelV o ov->RelV i iv->RelV v u->t o i v H Q ->
  wpAny (model X.prog X.w) X.A (setItem ov iv u) (fun _ s'=>∃ H',Inv X pins σ H' s'/\Q H') X.xe s
abbrev TIp:=V->V->Hp->VK->Prop
def PIp (X:Cx) (op:Operator) (t:TIp):Prop:=
 ∀ (pins:List (Addr×Obj)) (s:Shared) (σ:St) (H:Hp) (x y:V) (v u:Value) (Q:VK),Inv X pins σ H s->RelV x v->RelV y u->t x y H Q ->
  wpAny (model X.prog X.w) X.A (inplaceOp op v u) (EP X pins σ Q) X.xe s
section
variable {X:Cx}{pos:Pos}
def gName (i:Nat):TG:=fun v σ H Q=>Q (σ.set i (some v)) H
theorem za7 {i:Nat}{x:Str}(hN:X.N.Nodup) (hi:X.N[i]?=some x) (hx:Loc X.env.scope x) (hf:X.fn x=true∨X.env.scope.names.lookup x=some .local:=by first|exact .inl rfl|exact .inr rfl|assumption):PG X (.Name x pos) (gName i):=by
 intro pins s σ H v u Q I r h
 exact wpAny_assign_Name (zac9 I hN hi hx r (fun s' I'=>⟨_,H,I',h⟩) hf)
def gNil:TGs:=fun vs σ H Q=>vs=[]/\Q σ H
def gCons (t:TG) (u:TGs):TGs:=fun vs σ H Q=>∃ v r,vs=v :: r/\t v σ H fun σ' H'=>u r σ' H' Q
theorem zci9:PGs X [] gNil:=by
 intro pins s σ H vs us Q I r h
 obtain⟨e,h⟩:=h
 subst e
 cases r
 exact assignInOrder_nil ⟨σ,H,I,h⟩
theorem zbv4 {e:Expr}{es:List Expr}{t:TG}{u:TGs}(h1:PG X e t) (h2:PGs X es u)
  (hs:(assignEach (e :: es) X.env).map (·.2)=assign e X.env :: (assignEach es X.env).map (·.2):=by rfl):PGs X (e :: es) (gCons t u):=by
 intro pins s σ H vs us Q I r h
 obtain⟨v,vr,e1,h⟩:=h
 subst e1
 cases r with
 | cons r rr=>
  rw[hs]
  refine assignInOrder_cons (thn (h1 pins s σ H _ _ _ I r h) fun _ s1 ⟨σ1,H1,I1,q1⟩=>?_)
  exact h2 pins s1 σ1 H1 _ _ Q I1 rr q1
def gTup (K:zcq5) (n:Nat) (t:TGs):TG:=fun v σ H Q=>∃ a xs,v=.ref a/\SqT K H a xs/\xs.length=n/\t xs σ H Q
theorem pg_tup {es:List Expr}{k:Nat}{t:TGs}{n:Nat}(hc:X.calm=true) (h:PGs X es t)
  (hn:(assignEach es X.env).length=n:=by rfl) (hst:(assignEach es X.env).findIdx? (·.1)=none:=by rfl):PG X (.Tuple es k pos) (gTup X.K n t):=by
 intro pins s σ H v u Q I r hw
 obtain⟨a,xs,e1,hq,hl,hw⟩:=hw
 subst e1
 cases r
 obtain⟨its,rv,ht,hz⟩:=I.tuple hq
 refine assign_Tuple_tuple (I.ok.hd hc) ht (by simp[hn,← hl,rv.length]) hst fun h' hx=>?_
 have I1:Inv X pins σ H { s with heap:=h' }:=I.kept (t':=s.toks) fun b o e=>hx b o (zct6 (zcs0 e)) e
 exact h pins _ σ H xs _ Q I1 (by simpa using rv) hw
def gSub (to ti:TE) (t:TSet):TG:=fun v σ H Q=>to σ H fun o H1=>ti σ H1 fun i H2=>t o i v H2 fun H3=>Q σ H3
theorem zbm7 {o i:Expr}{to ti:TE}{t:TSet}(ho:PE X o to) (hi:PE X i ti) (hs:PSet X t)
  (ha:∀ v,assign (.Subscript o i pos) X.env v=(do
   let ov ← holding [v] (eval o X.env)
   let iv ← holding [v,ov] (eval i X.env)
   standAt pos
   holding [v,ov,iv] (setItem ov iv v)
   release [v,ov,iv] []):=by intro _;rfl):PG X (.Subscript o i pos) (gSub to ti t):=by
 intro pins s σ H v u Q I r h
 rw[ha]
 refine wpAny_bind (wpAny_holding (thn (ho pins s σ H _ I h) fun ov s1 ⟨x,H1,I1,r1,q1⟩=>?_))
 refine wpAny_bind (wpAny_holding (thn (hi pins s1 σ H1 _ I1 q1) fun iv s2 ⟨y,H2,I2,r2,q2⟩=>?_))
 refine wpAny_bind (wpAny_standAt (wpAny_bind (wpAny_holding (thn (hs pins s2 σ H2 x y v ov iv u _ I2 r1 r2 r q2) fun _ s3 ⟨H3,I3,q3⟩=>?_))))
 exact wpAny_release ⟨σ,H3,I3,q3⟩
def tAsg (te:TE) (g:TG):TS:=fun D σ H=>te σ H fun x H1=>g x σ H1 D.nx
theorem zav0 {tg e:Expr}{te:TE}{g:TG}(he:PE X e te) (hg:PG X tg g) (hs:swapsWithSole [tg] e pos.line X.env=pure false:=by rfl) (hw:swappedStores [tg] e X.env=pure none:=by rfl)
  (h1:(assignEach [tg] X.env).map (·.2)=[assign tg X.env]:=by rfl):PS X (.Assign [tg] e pos) (tAsg te g):=by
 intro pins s σ H D I h
 refine wpAny_Assign_stores (thn (he pins s σ H _ I h) fun v s1 ⟨x,H1,I1,r1,q1⟩=>?_) hs hw
 rw[h1]
 exact thn (hg pins s1 σ H1 x v _ I1 r1 q1) fun _ s2 q=>q
theorem ps_set {i:Nat}{x:Str}{e:Expr}{te:TE}{pos':Pos}(hN:X.N.Nodup) (hi:X.N[i]?=some x) (hx:Loc X.env.scope x) (he:PE X e te) (hs:swapsWith e (some (.Name x pos')) pos.line X.env=pure false:=by rfl) (hf:X.fn x=true∨X.env.scope.names.lookup x=some .local:=by first|exact .inl rfl|exact .inr rfl|assumption) :
  PS X (.Assign [.Name x pos'] e pos) (tAsg te (gName i)):=by
 intro pins s σ H D I h
 refine wpAny_Assign_Name (thn (he pins s σ H _ I h) fun v s1 ⟨y,H1,I1,r1,q1⟩=>?_) hs
 exact zac9 I1 hN hi hx r1 (fun s2 I2=>⟨_,H1,I2,q1⟩) hf
def tAugS (to ti te:TE) (tget:V->V->Hp->VK->Prop) (tip:TIp) (tset:TSet):TS:=fun D σ H=>to σ H fun o H1=>ti σ H1 fun i H2=>tget o i H2 fun x H3=>te σ H3 fun y H4=>tip x y H4 fun z H5=>tset o i z H5 fun H6=>D.nx σ H6
def PGet (X:Cx) (t:V->V->Hp->VK->Prop):Prop:=
 ∀ (pins:List (Addr×Obj)) (s:Shared) (σ:St) (H:Hp) (o i:V) (ov iv:Value) (Q:VK),Inv X pins σ H s->RelV o ov->RelV i iv->t o i H Q ->
  wpAny (model X.prog X.w) X.A (getItem ov iv) (EP X pins σ Q) X.xe s
theorem zcg3 {o i e:Expr}{to ti te:TE}{tget:V->V->Hp->VK->Prop}{tip:TIp}{tset:TSet}{op:Operator}{tpos:Pos}(ho:PE X o to) (hi:PE X i ti) (hg:PGet X tget) (he:PE X e te) (hp:PIp X op tip) (hs:PSet X tset)
  (ha:∀ ov iv new,augStore i ov iv new=(do holding [new,ov,iv] (setItem ov iv new);release [new,ov,iv] [];pure .next):=by intros;rfl):PS X (.AugAssign (.Subscript o i tpos) op e pos) (tAugS to ti te tget tip tset):=by
 intro pins s σ H D I h
 refine wpAny_AugAssign_SubscriptAny (thn (ho pins s σ H _ I h) fun ov s1 ⟨x1,H1,I1,r1,q1⟩=>?_) ha
 refine thn (hi pins s1 σ H1 _ I1 q1) fun iv s2 ⟨x2,H2,I2,r2,q2⟩=>?_
 refine thn (hg pins s2 σ H2 x1 x2 ov iv _ I2 r1 r2 q2) fun old s3 ⟨x3,H3,I3,r3,q3⟩=>?_
 refine thn (he pins s3 σ H3 _ I3 q3) fun v s4 ⟨x4,H4,I4,r4,q4⟩=>?_
 refine thn (hp pins s4 σ H4 x3 x4 old v _ I4 r3 r4 q4) fun new s5 ⟨x5,H5,I5,r5,q5⟩=>?_
 exact thn (hs pins s5 σ H5 x1 x2 x5 ov iv new _ I5 r1 r2 r5 q5) fun _ s6 ⟨H6,I6,q6⟩=>⟨σ,H6,I6,q6⟩
def ipI (f:Int->Int->Int):TIp:=fun x y H Q=>∃ i j,x=.int i/\y=.int j/\Q (.int (f i j)) H
theorem ip_add:PIp X .Add (ipI fun i j=>i+j):=by
 intro pins s σ H x y v u Q I r1 r2 h
 obtain⟨i,j,e1,e2,q⟩:=h
 subst e1;subst e2
 obtain⟨t,rfl⟩:=r1
 obtain⟨t',rfl⟩:=r2
 exact iadd_int ⟨.int _,H,I.tok _,⟨_,rfl⟩,q⟩
end
section
variable {X:Cx}{pos:Pos}
def tWhile (c:TT) (tb:TS):TS:=fun D σ H=>∃ W:Nat->St->Hp->Prop,(∃ m,W m σ H)/\∀ m σ H,W m σ H ->
 c σ H fun b H1=>if b=true then ∃ N:St->Hp->Prop,(∀ σ' H',N σ' H'->∃ m',m'<m/\W m' σ' H')/\tb { D with nx:=N,ct:=N,bk:=D.nx } σ H1 else D.nx σ H1
theorem zbu2 {c:Expr}{body:List Stmt}{tc:TT}{tb:TS}(hp:PassesOwn (model X.prog X.w) X.A X.env X.xe) (hc:PT X c tc) (hb:PSs X body tb):PS X (.While c body [] pos) (tWhile tc tb):=by
 intro pins s σ H D I h
 obtain⟨W,⟨m0,w0⟩,turn⟩:=h
 refine wpAny_While (codeAny_whileLoop (fun n s'=>∃ σ' H',Inv X pins σ' H' s'/\W n σ' H') ?_ m0 ⟨σ,H,I,w0⟩)
 rintro n s1 ⟨σ1,H1,I1,w1⟩
 refine wpAny_passesOwn hp (thn (hc pins s1 σ1 H1 _ I1 (turn n σ1 H1 w1)) fun b s2 ⟨H2,I2,q2⟩=>?_)
 cases b with
 | true=>
  obtain⟨N,hN,q2⟩:=q2
  rw[if_pos rfl]
  refine wpAny_passesOwn hp (thn (hb pins s2 σ1 H2 _ I2 q2) fun f s3 q3=>?_)
  cases f with
  | next=>
   obtain⟨σ3,H3,I3,n3⟩:=q3
   obtain⟨m',hm,w3⟩:=hN σ3 H3 n3
   exact⟨m',hm,σ3,H3,I3,w3⟩
  | cont=>
   obtain⟨σ3,H3,I3,n3⟩:=q3
   obtain⟨m',hm,w3⟩:=hN σ3 H3 n3
   exact⟨m',hm,σ3,H3,I3,w3⟩
  | brk=>exact q3
  | ret v=>exact q3
 | false=>
  rw[if_neg zcr2]
  exact wpAny_execs_nil ⟨σ1,H2,I2,q2⟩
end
structure It where
 go:Nat->Hp->Prop
 yld:Nat->Hp->V->Hp->Prop
 stop:Nat->Hp->Prop
def FpOk (X:Cx) (pins:List (Addr×Obj)) (H:Hp) (b:Addr):Prop:=
 H b=none/\b≠X.env.locals/\b ∉ X.fs/\(b∈X.ex∨X.s₀.heap.objs.size<=b)/\(∀ x c,X.env.cells.lookup x=some c->c≠b)/\∀ p∈X.pn++pins,p.1≠b
theorem Inv.fpOk {X:Cx}{pins:List (Addr×Obj)}{σ:St}{H H':Hp}{s:Shared}{b:Addr}(I:Inv X pins σ H s) (hb:s.heap.objs.size<=b) (hn:H' b=none):FpOk X pins H' b:=by
 refine⟨hn,zcw6 (zcs7 I.lt hb),I.nofs hb,.inr (zcv1 I.sz hb),fun x c e z=>?_,fun p hp z=>?_⟩
 ·obtain⟨v,q⟩:=I.cell x c e
  exact absurd (zcs7 q.lt (by rw[z];exact hb)) (zcx2 _)
 ·exact absurd (zcs7 (zcs0 (I.pin p hp).1) (by rw[z];exact hb)) (zcx2 _)
structure Turn (P:Program) (w:World) (K:zcq5) (tg:Expr) (J:It) (fp:List Addr) (it:Addr) (tn:Nat->Heap->Prop):Prop where
 mem:it∈fp
 obj:∀ i h,tn i h->∀ b∈fp,∃ o,h.get? b=some o/\∀ v,o.data≠.cell v
 keep:∀ i h h',tn i h->(∀ b∈fp,∀ o,h.get? b=some o->h'.get? b=some o)->tn i h'
 item:∀ (X:Cx),X.prog=P->X.w=w->X.K=K->X.calm=true->∀ (i:Nat) (pins:List (Addr×Obj)) (s:Shared) (σ:St) (H:Hp) (E:Value->Shared->Prop),Inv X pins σ H s->(∀ b∈fp,FpOk X pins H b)->tn i s.heap->J.go i H ->
  wpAny (model P w) X.A (pyNext (.ref it)) (fun r s1=>∃ u,r=some u /\
   wpAny (model P w) X.A (letOwnedTupleGo tg (.ref it) u) (fun _ s2=>∃ x H',Inv X pins σ H' s2/\RelV x u/\J.yld i H x H'/\tn (i+1) s2.heap/\∀ b∈fp,H' b=none) E s1) E s
 done:∀ (X:Cx),X.prog=P->X.w=w->X.K=K->X.calm=true->∀ (i:Nat) (pins:List (Addr×Obj)) (s:Shared) (σ:St) (H:Hp) (E:Value->Shared->Prop),Inv X pins σ H s->(∀ b∈fp,FpOk X pins H b)->tn i s.heap->J.stop i H ->
  wpAny (model P w) X.A (pyNext (.ref it)) (fun r s1=>r=none/\Inv X pins σ H s1) E s
 self:∀ (A:Around) (i:Nat) (s:Shared) (Q:Value->Shared->Prop) (E:Value->Shared->Prop),tn i s.heap->Q (.ref it) s->wpAny (model P w) A (pyIter (.ref it)) Q E s
abbrev TI:=St->Hp->(It->Hp->Prop)->Prop
def PIE (X:Cx) (pins:List (Addr×Obj)) (σ:St) (tg:Expr) (R:It->Hp->Prop) (itv:Value) (s2:Shared):Prop:=
 ∃ (it:Addr) (fp:List Addr) (tn:Nat->Heap->Prop) (J:It) (H':Hp),itv=.ref it/\Inv X pins σ H' s2/\Turn X.prog X.w X.K tg J fp it tn/\tn 0 s2.heap/\(∀ b∈fp,FpOk X pins H' b)/\R J H'
def PI (X:Cx) (tg iter:Expr) (wi:TI):Prop:=
 ∀ (pins:List (Addr×Obj)) (s:Shared) (σ:St) (H:Hp) (R:It->Hp->Prop),Inv X pins σ H s->wi σ H R ->
  wpAny (model X.prog X.w) X.A (eval iter X.env) (fun v s1=>wpAny (model X.prog X.w) X.A (pyIter v) (PIE X pins σ tg R) X.xe s1) X.xe s
theorem go_of {M:Model}{A:Around}{E:Value->Shared->Prop}{s:Shared}{tg:Expr}{it:Addr}{u:Value}{o:Obj}{n:String}{vs:Array Value}{Q:Unit->Shared->Prop}(ho:s.heap.get? it=some o) (hc:o.cls=.type n) (hd:o.data=.fields vs)
  (hn:["enumerate","zip","dict_itemiterator","dict_reverseitemiterator","odict_iterator","itertools.zip_longest","itertools.pairwise"].contains n=false) (hQ:Q () s):wpAny M A (letOwnedTupleGo tg (.ref it) u) Q E s:=by
 unfold letOwnedTupleGo
 cases tg<;>first
  | exact wpAny_pure hQ
  | (cases u<;>first
    | exact wpAny_pure hQ
    | (refine wpAny_bind (wpAny_load ho ?_);rw[hc,hd];show wpAny M A (if (["enumerate","zip","dict_itemiterator","dict_reverseitemiterator","odict_iterator","itertools.zip_longest","itertools.pairwise"].contains n&&vs[0]?==some (rawInt _))=true then _ else _) Q E s;rw[if_neg (by intro h;rw[hn,Bool.false_and] at h;cases h)];exact wpAny_pure hQ))
def Itl (K:zcq5) (a:Addr):It:=
 ⟨fun i H=>∃ xs x,SqL K H a xs/\xs[i]?=some x,fun i H x H'=>H'=H/\∀ xs,SqL K H a xs->xs[i]?=some x,fun i H=>∃ xs,SqL K H a xs/\xs.length<=i⟩
def Itt (K:zcq5) (a:Addr):It:=
 ⟨fun i H=>∃ xs x,SqT K H a xs/\xs[i]?=some x,fun i H x H'=>H'=H/\∀ xs,SqT K H a xs->xs[i]?=some x,fun i H=>∃ xs,SqT K H a xs/\xs.length<=i⟩
def Itr (lo:Int) (n:Nat):It:=⟨fun i _=>i<n,fun i H x H'=>H'=H/\x=.int (lo+i),fun i _=>n<=i⟩
theorem zbl8 {P:Program}{w:World}{K:zcq5}{tg:Expr}(a it:Addr):Turn P w K tg (Itl K a) [it] it (fun i h=>h.IsListIter it a i) where
 mem:=by simp
 obj:=fun i h st b hb=>by
  have e:b=it:=by simpa using hb
  subst e
  obtain⟨o,e,c,d⟩:=st
  exact⟨o,e,fun v z=>by rw[d] at z;cases z⟩
 keep:=fun i h h' st k=>st.at fun o e=>k it (by simp) o e
 item:=by
  intro X hP hw hK hc i pins s σ H E I hf st hg
  subst hP hw hK
  obtain⟨xs,x,hq,hx⟩:=hg
  obtain⟨its,rv,p,hz⟩:=I.list hq
  obtain⟨u,hu,ru⟩:=rv.get hx
  obtain⟨f0,f1,f2,f3,f4,f5⟩:=hf it (by simp)
  refine wpAny_pyNext_list_item st p.isList (x:=u) (by simpa using hu) fun h' st' sb=>?_
  have I1:Inv X pins σ H { s with heap:=h' }:=I.turned (t':=s.toks) (fun b o hb e=>(sb.2 b hb).trans e) f0 f1 f3 f4 f5
  obtain⟨o,e,c,d⟩:=id st'
  exact⟨u,rfl,go_of (s:={ s with heap:=h' }) e c d (by decide) ⟨x,H,I1,ru,⟨rfl,fun ys hy=>by rw[I.list_inj hy hq];exact hx⟩,st',fun b hb=>(hf b hb).1⟩⟩
 done:=by
  intro X hP hw hK hc i pins s σ H E I hf st hg
  subst hP hw hK
  obtain⟨xs,hq,hx⟩:=hg
  obtain⟨its,rv,p,hz⟩:=I.list hq
  obtain⟨f0,f1,f2,f3,f4,f5⟩:=hf it (by simp)
  have hl:=rv.length
  exact wpAny_pyNext_list_end (I.ok.hd hc) st p.isList (by simp;omega) fun h' eb=>⟨rfl,I.turned (t':=s.toks) (fun b o hb e=>eb b o hb e) f0 f1 f3 f4 f5⟩
 self:=fun _ _ _ _ _ st h=>wpAny_pyIter_listiter st h
theorem zbg3 {P:Program}{w:World}{K:zcq5}{tg:Expr}(a it:Addr):Turn P w K tg (Itt K a) [it] it (fun i h=>h.IsTupleIter it a i) where
 mem:=by simp
 obj:=fun i h st b hb=>by
  have e:b=it:=by simpa using hb
  subst e
  obtain⟨o,e,c,d⟩:=st
  exact⟨o,e,fun v z=>by rw[d] at z;cases z⟩
 keep:=fun i h h' st k=>st.at fun o e=>k it (by simp) o e
 item:=by
  intro X hP hw hK hc i pins s σ H E I hf st hg
  subst hP hw hK
  obtain⟨xs,x,hq,hx⟩:=hg
  obtain⟨its,rv,p,hz⟩:=I.tuple hq
  obtain⟨u,hu,ru⟩:=rv.get hx
  obtain⟨f0,f1,f2,f3,f4,f5⟩:=hf it (by simp)
  refine wpAny_pyNext_tuple_item st (show s.heap.IsTuple a its.toArray from p) (x:=u) (by simpa using hu) fun h' st' sb=>?_
  have I1:Inv X pins σ H { s with heap:=h' }:=I.turned (t':=s.toks) (fun b o hb e=>(sb.2 b hb).trans e) f0 f1 f3 f4 f5
  obtain⟨o,e,c,d⟩:=id st'
  exact⟨u,rfl,go_of (s:={ s with heap:=h' }) e c d (by decide) ⟨x,H,I1,ru,⟨rfl,fun ys hy=>by rw[I.tuple_inj hy hq];exact hx⟩,st',fun b hb=>(hf b hb).1⟩⟩
 done:=by
  intro X hP hw hK hc i pins s σ H E I hf st hg
  subst hP hw hK
  obtain⟨xs,hq,hx⟩:=hg
  obtain⟨its,rv,p,hz⟩:=I.tuple hq
  obtain⟨f0,f1,f2,f3,f4,f5⟩:=hf it (by simp)
  have hl:=rv.length
  exact wpAny_pyNext_tuple_end (I.ok.hd hc) st (show s.heap.IsTuple a its.toArray from p) (by simp;omega) fun h' eb=>⟨rfl,I.turned (t':=s.toks) (fun b o hb e=>eb b o hb e) f0 f1 f3 f4 f5⟩
 self:=fun _ _ _ _ _ st h=>wpAny_pyIter_tupleiter st h
theorem zbg5 {P:Program}{w:World}{K:zcq5}{tg:Expr}(it:Addr) (lo:Int) (n:Nat):Turn P w K tg (Itr lo n) [it] it (fun i h=>IsRangeIter h it (lo+(i:Nat)*1) ((n:Int) - (i:Nat)) 1) where
 mem:=by simp
 obj:=fun i h st b hb=>by
  have e:b=it:=by simpa using hb
  subst e
  exact⟨_,st,fun v z=>by
   have z':Data.fields _=Data.cell v:=z
   cases z'⟩
 keep:=fun i h h' st k=>k it (by simp) _ st
 item:=by
  intro X hP hw hK hc i pins s σ H E I hf st hg
  subst hP hw hK
  obtain⟨f0,f1,f2,f3,f4,f5⟩:=hf it (by simp)
  have W:=Walks.range (prog:=X.prog) (w:=X.w) (I.ok.hd hc) it lo 1 n
  refine W.item i s _ _ hg st fun v h' tk hv st' kk=>?_
  obtain⟨t,rfl⟩:=hv
  have I1:Inv X pins σ H { s with heap:=h',toks:=tk }:=I.turned (fun b o hb e=>kk b o (by simpa using hb) e) f0 f1 f3 f4 f5
  refine⟨_,rfl,go_of (s:={ s with heap:=h',toks:=tk }) (n:="range_iterator") st' rfl rfl (by decide) ⟨.int (lo+i),H,I1,⟨t,?_⟩,⟨rfl,rfl⟩,st',fun b hb=>(hf b hb).1⟩⟩
  rw[Int.mul_one]
 done:=by
  intro X hP hw hK hc i pins s σ H E I hf st hg
  subst hP hw hK
  obtain⟨f0,f1,f2,f3,f4,f5⟩:=hf it (by simp)
  exact wpAny_pyNext_range_end (I.ok.hd hc) st (by have:n<=i:=hg;omega) fun h' eb=>⟨rfl,I.turned (t':=s.toks) (fun b o hb e=>eb b o hb e) f0 f1 f3 f4 f5⟩
 self:=fun _ _ _ _ _ st h=>wpAny_pyIter_rangeiter st h
end L2
namespace L2
open PySem PySem.Spec PyProof.Rows
section
variable {X:Cx}{tg:Expr}
theorem zbd2 {pins:List (Addr×Obj)}{σ:St}{H:Hp}{s:Shared}{R:It->Hp->Prop}{E:Value->Shared->Prop}{lo hi:Int}{t u v:Tok}{tk:Nat}(I:Inv X pins σ H s) (h1:-(2 ^ 62)<=lo) (h2:lo<2 ^ 62) (h3:-(2 ^ 62)<=hi) (h4:hi<2 ^ 62)
  (q:R (Itr lo (hi - lo).toNat) H):wpAny (model X.prog X.w) X.A (pyIter (.ref s.heap.objs.size)) (PIE X pins σ tg R) E { s with heap:=s.heap.push { cls:=.type "range",data:=.fields #[.int lo t,.int hi u,.int 1 v] },toks:=tk }:=by
 refine wpAny_pyIter_range (IsRange.new ..) (small_one h1 h2 h3 h4) ?_
 have I1:Inv X pins σ H { s with heap:=s.heap.push { cls:=.type "range",data:=.fields #[.int lo t,.int hi u,.int 1 v] },toks:=tk }:=I.kept fun b o e=>zcq9 _ e
 refine⟨(s.heap.push { cls:=.type "range",data:=.fields #[.int lo t,.int hi u,.int 1 v] }).objs.size,[(s.heap.push { cls:=.type "range",data:=.fields #[.int lo t,.int hi u,.int 1 v] }).objs.size],_,_,H,rfl,
  I1.kept (t':=tk) fun b o e=>zcq9 _ e,zbg5 _ lo (hi - lo).toNat,?_,fun b hb=>?_,q⟩
 ·have e1:lo+((0:Nat):Int)*1=lo:=by simp
  have e2:(((hi - lo).toNat:Nat):Int) - ((0:Nat):Int)=Builtin.Range.rangeSize lo hi 1:=by rw[rangeSize_one];split<;>omega
  show IsRangeIter _ _ (lo+((0:Nat):Int)*1) ((((hi - lo).toNat:Nat):Int) - ((0:Nat):Int)) 1
  rw[e1,e2]
  exact zcs4 _ rfl
 ·have e:b=(s.heap.push { cls:=.type "range",data:=.fields #[.int lo t,.int hi u,.int 1 v] }).objs.size:=by simpa using hb
  subst e
  exact I1.fpOk (zcr9 _) (I1.hok.fresh (zcr9 _))
def tFor (wi:TI) (g:TG) (tb:TS):TS:=fun D σ H=>wi σ H fun J H1=>∃ W:Nat->Nat->St->Hp->Prop,(∃ m,W 0 m σ H1)/\∀ i m σ H,W i m σ H ->
 (J.stop i H/\D.nx σ H)∨(J.go i H/\∃ N:St->Hp->Prop,(∀ σ' H',N σ' H'->∃ m',m'<m/\W (i+1) m' σ' H')/\∀ x H',J.yld i H x H'->g x σ H' fun σ2 H2=>tb { D with nx:=N,ct:=N,bk:=D.nx } σ2 H2)
def zal6 (fp:List Addr) (h:Heap):List (Addr×Obj):=fp.filterMap fun b=>(h.get? b).map fun o=>(b,o)
theorem zq2 {fp:List Addr}{h:Heap}{b:Addr}{o:Obj}(hb:b∈fp) (e:h.get? b=some o):(b,o)∈zal6 fp h:=List.mem_filterMap.mpr ⟨b,hb,by rw[e];rfl⟩
theorem zbj4 {fp:List Addr}{h:Heap}{p:Addr×Obj}(hp:p∈zal6 fp h):p.1∈fp/\h.get? p.1=some p.2:=by
 obtain⟨b,hb,e⟩:=List.mem_filterMap.mp hp
 cases q:h.get? b with
 | none=>rw[q] at e;cases e
 | some o=>
  rw[q] at e
  have e':(b,o)=p:=Option.some.inj e
  subst e'
  exact⟨hb,q⟩
theorem Inv.pinned {pins:List (Addr×Obj)}{σ:St}{H:Hp}{s:Shared}{fp:List Addr}(I:Inv X pins σ H s) (hf:∀ b∈fp,FpOk X pins H b) (ho:∀ b∈fp,∃ o,s.heap.get? b=some o/\∀ v,o.data≠.cell v):Inv X (pins++zal6 fp s.heap) σ H s:=
 I.pins_of fun p hp=>(zcu8.mp hp).elim (fun z=>I.pin p (zct8 _ z)) fun z=>by
  obtain⟨hb,e⟩:=zbj4 z
  obtain⟨f0,f1,f2,_⟩:=hf p.1 hb
  obtain⟨o,e',d⟩:=ho p.1 hb
  rw[e] at e';cases e'
  exact⟨e,f0,f1,f2,d⟩
theorem Inv.unpinned {pins pl:List (Addr×Obj)}{σ:St}{H:Hp}{s:Shared}(I:Inv X (pins++pl) σ H s):Inv X pins σ H s:=I.pins_of fun p hp=>I.pin p (zct8 _ (List.mem_append_left _ hp))
theorem ps_for {iter:Expr}{body:List Stmt}{wi:TI}{g:TG}{tb:TS}{pos:Pos}(hp:PassesOwn (model X.prog X.w) X.A X.env X.xe) (hc:X.calm=true) (hi:PI X tg iter wi) (hg:PG X tg g) (hb:PSs X body tb)
  (hs:∀ x,foldedSetIterable iter X.env x=pure x:=by intro _;rfl):PS X (.For tg iter body [] pos) (tFor wi g tb):=by
 intro pins s σ H D I h
 refine wpAny_For (thn (hi pins s σ H _ I h) fun v s1 h1=>thn h1 fun itv s2 h2=>?_) hs
 obtain⟨it,fp,tn,J,H2,e,I2,T,st2,f2,W,⟨m0,w0⟩,turn⟩:=h2
 subst e
 have stat:∀ {H':Hp},(∀ b∈fp,H' b=none)->∀ b∈fp,FpOk X pins H' b:=fun hn b hb=>⟨hn b hb,(f2 b hb).2⟩
 refine codeAny_forLoop_any (fun n s'=>∃ i σ' H',Inv X pins σ' H' s'/\tn i s'.heap/\(∀ b∈fp,H' b=none)/\W i n σ' H') ?_ m0 ⟨0,σ,H2,I2,st2,fun b hb=>(f2 b hb).1,w0⟩
 rintro n s3 ⟨i,σ3,H3,I3,st3,fr3,w3⟩
 rcases turn i n σ3 H3 w3 with ⟨stop,qn⟩|⟨go,N,hN,step⟩
 ·refine wpAny_passesOwn hp (thn (T.done X rfl rfl rfl hc i pins s3 σ3 H3 X.xe I3 (stat fr3) st3 stop) fun r s4 ⟨hr,I4⟩=>?_)
  subst hr
  exact wpAny_execs_nil ⟨σ3,H3,I4,qn⟩
 ·refine wpAny_passesOwn hp (thn (T.item X rfl rfl rfl hc i pins s3 σ3 H3 X.xe I3 (stat fr3) st3 go) fun r s4 ⟨u,hr,h4⟩=>?_)
  subst hr
  refine wpAny_passesOwn hp (thn h4 fun _ s5 ⟨x,H5,I5,r5,y5,st5,fr5⟩=>?_)
  have I5':=I5.pinned (stat fr5) (T.obj _ _ st5)
  refine wpAny_passesOwn hp (thn (hg _ s5 σ3 H5 x u _ I5' r5 (step x H5 y5)) fun _ s6 ⟨σ6,H6,I6,q6⟩=>?_)
  refine wpAny_passesOwn hp (thn (hb _ s6 σ6 H6 _ I6 q6) fun f s7 q7=>?_)
  have again:∀ {σ7:St}{H7:Hp},Inv X (pins++zal6 fp s5.heap) σ7 H7 s7->N σ7 H7->∃ m,m<n/\∃ i σ' H',Inv X pins σ' H' s7/\tn i s7.heap/\(∀ b∈fp,H' b=none)/\W i m σ' H':=fun {σ7 H7} I7 n7=>by
   obtain⟨m',hm,w7⟩:=hN σ7 H7 n7
   refine⟨m',hm,i+1,σ7,H7,I7.unpinned,T.keep _ _ _ st5 fun b hb o e=>(I7.pin (b,o) (zct8 _ (zct8 _ (zq2 hb e)))).1,fun b hb=>?_,w7⟩
   obtain⟨o,e,d⟩:=T.obj _ _ st5 b hb
   exact (I7.pin (b,o) (zct8 _ (zct8 _ (zq2 hb e)))).2.1
  cases f with
  | next=>obtain⟨σ7,H7,I7,n7⟩:=q7;exact again I7 n7
  | cont=>obtain⟨σ7,H7,I7,n7⟩:=q7;exact again I7 n7
  | brk=>obtain⟨σ7,H7,I7,q7⟩:=q7;exact⟨σ7,H7,I7.unpinned,q7⟩
  | ret v=>obtain⟨x7,σ7,H7,I7,r7,q7⟩:=q7;exact⟨x7,σ7,H7,I7.unpinned,r7,q7⟩
end
theorem zbt6 {K:zcq5}{a:Addr}{xs:List V}{g:TG}{tb:TS}{D:Ends}{σ:St}{H:Hp}(Pv:Nat->St->Hp->Prop) (h0:Pv 0 σ H) (hl:∀ i σ H,i<=xs.length->Pv i σ H->SqL K H a xs)
  (hs:∀ i x σ H,xs[i]?=some x->Pv i σ H->g x σ H fun σ2 H2=>tb { D with nx:=Pv (i+1),ct:=Pv (i+1),bk:=D.nx } σ2 H2) (hd:∀ σ H,Pv xs.length σ H->D.nx σ H) :
  ∃ W:Nat->Nat->St->Hp->Prop,(∃ m,W 0 m σ H)/\∀ i m σ H,W i m σ H ->
   ((Itl K a).stop i H/\D.nx σ H)∨((Itl K a).go i H/\∃ N:St->Hp->Prop,(∀ σ' H',N σ' H'->∃ m',m'<m/\W (i+1) m' σ' H')/\∀ x H',(Itl K a).yld i H x H'->g x σ H' fun σ2 H2=>tb { D with nx:=N,ct:=N,bk:=D.nx } σ2 H2):=by
 refine⟨fun i m σ H=>m=xs.length - i/\i<=xs.length/\Pv i σ H,⟨xs.length,by simp,zcu4 _,h0⟩,?_⟩
 rintro i m σ H ⟨rfl,hi,p⟩
 have q:=hl i σ H hi p
 by_cases hlt:i<xs.length
 ·refine .inr ⟨⟨xs,xs[i],q,by simp[hlt]⟩,Pv (i+1),fun σ' H' p'=>⟨xs.length - (i+1),by omega,rfl,hlt,p'⟩,fun x H' y=>?_⟩
  obtain⟨e,y⟩:=y
  subst e
  exact hs i x σ _ (y xs q) p
 ·have e:i=xs.length:=by omega
  subst e
  exact .inl ⟨⟨xs,q,zcr9 _⟩,hd σ H p⟩
theorem zbr8 {lo:Int}{n:Nat}{g:TG}{tb:TS}{D:Ends}{σ:St}{H:Hp}(Pv:Nat->St->Hp->Prop) (h0:Pv 0 σ H)
  (hs:∀ i σ H,i<n->Pv i σ H->g (.int (lo+i)) σ H fun σ2 H2=>tb { D with nx:=Pv (i+1),ct:=Pv (i+1),bk:=D.nx } σ2 H2) (hd:∀ σ H,Pv n σ H->D.nx σ H) :
  ∃ W:Nat->Nat->St->Hp->Prop,(∃ m,W 0 m σ H)/\∀ i m σ H,W i m σ H ->
   ((Itr lo n).stop i H/\D.nx σ H)∨((Itr lo n).go i H/\∃ N:St->Hp->Prop,(∀ σ' H',N σ' H'->∃ m',m'<m/\W (i+1) m' σ' H')/\∀ x H',(Itr lo n).yld i H x H'->g x σ H' fun σ2 H2=>tb { D with nx:=N,ct:=N,bk:=D.nx } σ2 H2):=by
 refine⟨fun i m σ H=>m=n - i/\i<=n/\Pv i σ H,⟨n,by simp,zcu4 _,h0⟩,?_⟩
 rintro i m σ H ⟨rfl,hi,p⟩
 by_cases hlt:i<n
 ·refine .inr ⟨hlt,Pv (i+1),fun σ' H' p'=>⟨n - (i+1),by omega,rfl,hlt,p'⟩,fun x H' y=>?_⟩
  obtain⟨e,y⟩:=y
  subst e y
  exact hs i σ _ hlt p
 ·have e:i=n:=by omega
  subst e
  exact .inl ⟨zcr9 _,hd σ H p⟩
end L2
namespace L2
open PySem PySem.Spec PyProof.Rows
abbrev R2:=V->V->Hp->VK->Prop
def OpR (X:Cx) (f:Value->Value->Sem Value) (r:R2):Prop:=
 ∀ (pins:List (Addr×Obj)) (s:Shared) (σ:St) (H:Hp) (x y:V) (v u:Value) (Q:VK),Inv X pins σ H s->RelV x v->RelV y u->r x y H Q ->
  wpAny (model X.prog X.w) X.A (f v u) (EP X pins σ Q) X.xe s
def UnR (X:Cx) (f:Value->Sem Value) (r:V->Hp->VK->Prop):Prop:=
 ∀ (pins:List (Addr×Obj)) (s:Shared) (σ:St) (H:Hp) (x:V) (v:Value) (Q:VK),Inv X pins σ H s->RelV x v->r x H Q ->
  wpAny (model X.prog X.w) X.A (f v) (EP X pins σ Q) X.xe s
def zp7 (X:Cx) (f:Value) (r:List V->Hp->VK->Prop):Prop:=
 ∀ (pins:List (Addr×Obj)) (s:Shared) (σ:St) (H:Hp) (xs:List V) (us:List Value) (Q:VK),Inv X pins σ H s->Vals xs us->r xs H Q ->
  wpAny (model X.prog X.w) X.A (call f us) (EP X pins σ Q) X.xe s
def TruR (X:Cx) (r:V->Hp->(Bool->Hp->Prop)->Prop):Prop:=
 ∀ (pins:List (Addr×Obj)) (s:Shared) (σ:St) (H:Hp) (x:V) (v:Value) (Q:Bool->Hp->Prop),Inv X pins σ H s->RelV x v->r x H Q ->
  wpAny (model X.prog X.w) X.A (truthy v) (TP X pins σ Q) X.xe s
def tOp (r:R2) (ta tb:TE):TE:=fun σ H Q=>ta σ H fun x H1=>tb σ H1 fun y H2=>r x y H2 Q
def tUn (r:V->Hp->VK->Prop) (ta:TE):TE:=fun σ H Q=>ta σ H fun x H1=>r x H1 Q
def rI (C:Int->Int->Prop) (g:Int->Int->V):R2:=fun x y H Q=>∃ i j,x=.int i/\y=.int j/\C i j/\Q (g i j) H
def rI0 (g:Int->Int->V):R2:=fun x y H Q=>∃ i j,x=.int i/\y=.int j/\Q (g i j) H
def rU (g:Int->V):V->Hp->VK->Prop:=fun x H Q=>∃ i,x=.int i/\Q (g i) H
section
variable {X:Cx}{a b c:Expr}{ta tb tc:TE}{pos:Pos}
theorem binT (ha:PE X a ta) (hb:PE X b tb) {pins:List (Addr×Obj)}{s:Shared}{σ:St}{H:Hp}{R:V->V->Hp->Prop}(I:Inv X pins σ H s)
  (h:ta σ H fun x H1=>tb σ H1 fun y H2=>R x y H2) {Q:Value->Shared->Prop}{f:Value->Value->Sem Value}
  (hf:∀ v u s2 x y H2,Inv X pins σ H2 s2->RelV x v->RelV y u->R x y H2->wpAny (model X.prog X.w) X.A (f v u) Q X.xe s2) :
  wpAny (model X.prog X.w) X.A (eval a X.env) (fun v s₁=>wpAny (model X.prog X.w) X.A (eval b X.env) (fun u s₂=>wpAny (model X.prog X.w) X.A (f v u) Q X.xe s₂) X.xe s₁) X.xe s:=by
 refine thn (ha pins s σ H _ I h) fun v s1 ⟨x,H1,I1,r1,q1⟩=>?_
 refine thn (hb pins s1 σ H1 _ I1 q1) fun u s2 ⟨y,H2,I2,r2,q2⟩=>?_
 exact hf v u s2 x y H2 I2 r1 r2 q2
theorem zb5 {op:Operator}{r:R2}(ho:OpR X (binaryOp op) r) (ha:PE X a ta) (hb:PE X b tb):PE X (.BinOp a op b pos) (tOp r ta tb):=by
 intro pins s σ H Q I h
 exact wpAny_BinOp (binT ha hb I h fun v u s2 x y H2 I2 rx ry q=>ho pins s2 σ H2 x y v u Q I2 rx ry q)
theorem zai3 {op:UnaryOp}{r:V->Hp->VK->Prop}(ho:UnR X (unaryOp op) r) (ha:PE X a ta):PE X (.UnaryOp op a pos) (tUn r ta):=by
 intro pins s σ H Q I h
 exact UnaryOp_ (thn (ha pins s σ H _ I h) fun v s1 ⟨x,H1,I1,r1,q1⟩=>ho pins s1 σ H1 x v Q I1 r1 q1)
theorem opI {f:Value->Value->Sem Value}{C:Int->Int->Prop}{g:Int->Int->Int}
  (rule:∀ (i j:Int) (t u:Tok) (s:Shared) (Q:Value->Shared->Prop) (E:Value->Shared->Prop),C i j->Q (.int (g i j) s.toks) { s with toks:=s.toks+1 }->wpAny (model X.prog X.w) X.A (f (.int i t) (.int j u)) Q E s) :
  OpR X f (rI C fun i j=>.int (g i j)):=by
 intro pins s σ H x y v u Q I rx ry h
 obtain⟨i,j,rfl,rfl,hc,q⟩:=h
 obtain⟨t,rfl⟩:=rx
 obtain⟨t',rfl⟩:=ry
 exact rule i j t t' s _ _ hc ⟨.int (g i j),H,I.tok _,⟨_,rfl⟩,q⟩
theorem opI0 {f:Value->Value->Sem Value}{g:Int->Int->Int}
  (rule:∀ (i j:Int) (t u:Tok) (s:Shared) (Q:Value->Shared->Prop) (E:Value->Shared->Prop),Q (.int (g i j) s.toks) { s with toks:=s.toks+1 }->wpAny (model X.prog X.w) X.A (f (.int i t) (.int j u)) Q E s) :
  OpR X f (rI0 fun i j=>.int (g i j)):=by
 intro pins s σ H x y v u Q I rx ry h
 obtain⟨i,j,rfl,rfl,q⟩:=h
 obtain⟨t,rfl⟩:=rx
 obtain⟨t',rfl⟩:=ry
 exact rule i j t t' s _ _ ⟨.int (g i j),H,I.tok _,⟨_,rfl⟩,q⟩
theorem opB0 {f:Value->Value->Sem Value}{g:Int->Int->Bool}
  (rule:∀ (i j:Int) (t u:Tok) (s:Shared) (Q:Value->Shared->Prop) (E:Value->Shared->Prop),Q (.bool (g i j)) s->wpAny (model X.prog X.w) X.A (f (.int i t) (.int j u)) Q E s) :
  OpR X f (rI0 fun i j=>.bl (g i j)):=by
 intro pins s σ H x y v u Q I rx ry h
 obtain⟨i,j,rfl,rfl,q⟩:=h
 obtain⟨t,rfl⟩:=rx
 obtain⟨t',rfl⟩:=ry
 exact rule i j t t' s _ _ ⟨.bl (g i j),H,I,rfl,q⟩
def CPow (i j:Int):Prop:=0<=j/\j<=1000000/\i.natAbs<2 ^ 64
def CMul (i j:Int):Prop:=(-(2 ^ 64)<i/\i<2 ^ 64)∨(-(2 ^ 64)<j/\j<2 ^ 64)
theorem CMul.ok {i j:Int}(h:CMul i j):IntMulOk i j:=by
 rcases h with ⟨h1,h2⟩|⟨h1,h2⟩
 ·exact .of_left (intBits_le_64 h1 h2)
 ·exact .of_right (intBits_le_64 h1 h2)
theorem op_add:OpR X (binaryOp .Add) (rI0 fun i j=>.int (i+j)):=opI0 fun _ _ _ _ _ _ _ q=>add_int q
theorem op_sub:OpR X (binaryOp .Sub) (rI0 fun i j=>.int (i - j)):=opI0 fun _ _ _ _ _ _ _ q=>sub_int q
theorem zcf7:OpR X (binaryOp .Mod) (rI (fun _ j=>j≠0) fun i j=>.int (i.fmod j)):=opI fun _ _ _ _ _ _ _ hc q=>mod_int' hc q
theorem op_pow:OpR X (binaryOp .Pow) (rI CPow fun i j=>.int (i ^ j.toNat)):=opI fun _ _ _ _ _ _ _ hc q=>pow_int_small hc.1 hc.2.1 hc.2.2 q
theorem unI {f:Value->Sem Value}{g:Int->Int}
  (rule:∀ (i:Int) (t:Tok) (s:Shared) (Q:Value->Shared->Prop) (E:Value->Shared->Prop),Q (.int (g i) s.toks) { s with toks:=s.toks+1 }->wpAny (model X.prog X.w) X.A (f (.int i t)) Q E s) :
  UnR X f (rU fun i=>.int (g i)):=by
 intro pins s σ H x v Q I rx h
 obtain⟨i,rfl,q⟩:=h
 obtain⟨t,rfl⟩:=rx
 exact rule i t s _ _ ⟨.int (g i),H,I.tok _,⟨_,rfl⟩,q⟩
theorem un_neg:UnR X (unaryOp .USub) (rU fun i=>.int (-i)):=unI fun _ _ _ _ _ q=>neg_int q
end
def scal:V->V->Bool
 | .non,.non=>true | .non,.int _=>true | .int _,.non=>true | .non,.bl _=>true | .bl _,.non=>true | .non,.str _=>true | .str _,.non=>true
 | .int _,.int _=>true | .bl _,.bl _=>true | .str _,.str _=>true | .byt _,.byt _=>true
 | .int _,.str _=>true | .str _,.int _=>true | .bl _,.str _=>true | .str _,.bl _=>true
 | _,_=>false
def rEq:R2:=fun x y H Q=>scal x y=true/\Q (.bl (decide (x=y))) H
def rNe:R2:=fun x y H Q=>scal x y=true/\Q (.bl (!decide (x=y))) H
theorem zbq6 {i j:Int}:decide (V.int i=V.int j)=(i==j):=by
 rw[Bool.eq_iff_iff]
 simp
theorem zcb4 {i j:Bool}:decide (V.bl i=V.bl j)=(i==j):=by
 rw[Bool.eq_iff_iff]
 simp
theorem zbs7 {i j:Str}:decide (V.str i=V.str j)=(i==j):=by
 rw[Bool.eq_iff_iff]
 simp
theorem zbq8 {i j:Array UInt8}:decide (V.byt i=V.byt j)=(i.toList==j.toList):=by
 rw[Bool.eq_iff_iff]
 cases i
 cases j
 simp
section
variable {X:Cx}{a b c:Expr}{ta tb tc:TE}{pos:Pos}
theorem ze2 {pins:List (Addr×Obj)}{σ:St}{H:Hp}{s:Shared}{Q:VK}{k k':Bool}(I:Inv X pins σ H s) (q:Q (.bl k) H) (e:k=k'):EP X pins σ Q (.bool k') s:=by
 subst e
 exact⟨.bl k,H,I,rfl,q⟩
theorem zbb0:OpR X (compareOp .Eq) rEq:=by
 intro pins s σ H x y v u Q I rx ry h
 obtain⟨hs,q⟩:=h
 cases x with
 | non=>
  cases rx
  cases y with
  | non=>cases ry;exact PySem.EqNone.eq_none_none (ze2 I q (by simp))
  | bl j=>cases ry;exact PySem.EqNone.eq_none_bool (ze2 I q (by simp))
  | int j=>obtain⟨t',rfl⟩:=ry;exact PySem.EqNone.eq_none_int (ze2 I q (by simp))
  | str j=>obtain⟨t',rfl⟩:=ry;exact PySem.EqNone.eq_none_str (ze2 I q (by simp))
  | _=>exact absurd (show false=true from hs) zcr2
 | bl i=>
  cases rx
  cases y with
  | non=>cases ry;exact PySem.EqNone.eq_bool_none (ze2 I q (by simp))
  | bl j=>cases ry;exact eq_bool (ze2 I q zcb4)
  | str j=>obtain⟨t',rfl⟩:=ry;exact PySem.EqMixed.eq_bool_str (ze2 I q (by simp))
  | _=>exact absurd (show false=true from hs) zcr2
 | int i=>
  obtain⟨t,rfl⟩:=rx
  cases y with
  | non=>cases ry;exact PySem.EqNone.eq_int_none (ze2 I q (by simp))
  | int j=>obtain⟨t',rfl⟩:=ry;exact eq_int (ze2 I q zbq6)
  | str j=>obtain⟨t',rfl⟩:=ry;exact PySem.EqMixed.eq_int_str (ze2 I q (by simp))
  | _=>exact absurd (show false=true from hs) zcr2
 | str i=>
  obtain⟨t,rfl⟩:=rx
  cases y with
  | non=>cases ry;exact PySem.EqNone.eq_str_none (ze2 I q (by simp))
  | bl j=>cases ry;exact PySem.EqMixed.eq_str_bool (ze2 I q (by simp))
  | int j=>obtain⟨t',rfl⟩:=ry;exact PySem.EqMixed.eq_str_int (ze2 I q (by simp))
  | str j=>obtain⟨t',rfl⟩:=ry;exact eq_str (ze2 I q zbs7)
  | _=>exact absurd (show false=true from hs) zcr2
 | byt i=>
  obtain⟨t,rfl⟩:=rx
  cases y with
  | byt j=>obtain⟨t',rfl⟩:=ry;exact PySem.W.eq_bytes (ze2 I q zbq8)
  | _=>exact absurd (show false=true from hs) zcr2
 | _=>cases y<;>exact absurd (show false=true from hs) zcr2
theorem zay9:OpR X (compareOp .NotEq) rNe:=by
 intro pins s σ H x y v u Q I rx ry h
 obtain⟨hs,q⟩:=h
 cases x with
 | non=>
  cases rx
  cases y with
  | non=>cases ry;exact PySem.EqNone.ne_none_none (ze2 I q (by simp))
  | bl j=>cases ry;exact PySem.EqNone.ne_none_bool (ze2 I q (by simp))
  | int j=>obtain⟨t',rfl⟩:=ry;exact PySem.EqNone.ne_none_int (ze2 I q (by simp))
  | str j=>obtain⟨t',rfl⟩:=ry;exact PySem.EqNone.ne_none_str (ze2 I q (by simp))
  | _=>exact absurd (show false=true from hs) zcr2
 | bl i=>
  cases rx
  cases y with
  | non=>cases ry;exact PySem.EqNone.ne_bool_none (ze2 I q (by simp))
  | bl j=>cases ry;exact ne_bool (ze2 I q (congrArg not zcb4))
  | str j=>obtain⟨t',rfl⟩:=ry;exact PySem.EqMixed.ne_bool_str (ze2 I q (by simp))
  | _=>exact absurd (show false=true from hs) zcr2
 | int i=>
  obtain⟨t,rfl⟩:=rx
  cases y with
  | non=>cases ry;exact PySem.EqNone.ne_int_none (ze2 I q (by simp))
  | int j=>obtain⟨t',rfl⟩:=ry;exact ne_int (ze2 I q (congrArg not zbq6))
  | str j=>obtain⟨t',rfl⟩:=ry;exact PySem.EqMixed.ne_int_str (ze2 I q (by simp))
  | _=>exact absurd (show false=true from hs) zcr2
 | str i=>
  obtain⟨t,rfl⟩:=rx
  cases y with
  | non=>cases ry;exact PySem.EqNone.ne_str_none (ze2 I q (by simp))
  | bl j=>cases ry;exact PySem.EqMixed.ne_str_bool (ze2 I q (by simp))
  | int j=>obtain⟨t',rfl⟩:=ry;exact PySem.EqMixed.ne_str_int (ze2 I q (by simp))
  | str j=>obtain⟨t',rfl⟩:=ry;exact ne_str (ze2 I q (congrArg not zbs7))
  | _=>exact absurd (show false=true from hs) zcr2
 | byt i=>
  obtain⟨t,rfl⟩:=rx
  cases y with
  | byt j=>obtain⟨t',rfl⟩:=ry;exact PySem.W.ne_bytes (ze2 I q (congrArg not zbq8))
  | _=>exact absurd (show false=true from hs) zcr2
 | _=>cases y<;>exact absurd (show false=true from hs) zcr2
theorem op_lt:OpR X (compareOp .Lt) (rI0 fun i j=>.bl (decide (i<j))):=opB0 fun _ _ _ _ _ _ _ q=>lt_int q
theorem op_le:OpR X (compareOp .LtE) (rI0 fun i j=>.bl (decide (i<=j))):=opB0 fun _ _ _ _ _ _ _ q=>le_int q
theorem op_gt:OpR X (compareOp .Gt) (rI0 fun i j=>.bl (decide (j<i))):=opB0 fun _ _ _ _ _ _ _ q=>gt_int q
theorem op_ge:OpR X (compareOp .GtE) (rI0 fun i j=>.bl (decide (j<=i))):=opB0 fun _ _ _ _ _ _ _ q=>ge_int q
theorem op_isN:OpR X (compareOp .Is) (fun x y H Q=>y=.non/\Q (.bl (decide (x=.non))) H):=by
 intro pins s σ H x y v u Q I rx ry h
 obtain⟨rfl,q⟩:=h
 cases ry
 refine is_none_gen (ze2 I q ?_)
 cases x<;>first
  | (cases rx;rfl)
  | (obtain⟨t,rfl⟩:=rx;rfl)
theorem zcj8:OpR X (compareOp .IsNot) (fun x y H Q=>y=.non/\Q (.bl (!decide (x=.non))) H):=by
 intro pins s σ H x y v u Q I rx ry h
 obtain⟨rfl,q⟩:=h
 cases ry
 refine isnot_none_gen (ze2 I q ?_)
 cases x<;>first
  | (cases rx;rfl)
  | (obtain⟨t,rfl⟩:=rx;rfl)
theorem zca1 (b:Expr) {op:CmpOp}(h:op≠.In:=by decide) (h2:op≠.NotIn:=by decide):behindInMarks op b=false:=by
 have e1:(op==CmpOp.In)=false:=by cases op<;>first|rfl|exact absurd rfl h
 have e2:(op==CmpOp.NotIn)=false:=by cases op<;>first|rfl|exact absurd rfl h2
 cases b<;>simp[behindInMarks,e1,e2]
theorem zcd7 {op:CmpOp}{r:R2}(ho:OpR X (compareOp op) r) (ha:PE X a ta) (hb:PE X b tb) (hm:behindInMarks op b=false):PE X (.Compare a [op] [b] pos) (tOp r ta tb):=by
 intro pins s σ H Q I h
 exact wpAny_Compare1 (binT ha hb I h fun v u s2 x y H2 I2 rx ry q=>ho pins s2 σ H2 x y v u Q I2 rx ry q) hm
def TruV (K:zcq5) (x:V) (H:Hp) (k:Bool):Prop:=
 match x with
 | .non=>k=false
 | .bl b=>k=b
 | .int i=>k=(i != 0)
 | .str y=>y.length<=sizeLine/\k=((y.length:Int) != 0)
 | .byt y=>y.size<=sizeLine/\k=((y.size:Int) != 0)
 | .ref p=>(∃ xs,SqL K H p xs/\k=!xs.isEmpty)∨(∃ xs,SqT K H p xs/\k=!xs.isEmpty)∨∃ kvs,H p=some (.dK kvs)/\k=!kvs.isEmpty
 | _=>False
theorem zbi2 {κ:Type}{kvs:List (κ×V)}{vs:List (κ×Value)}(r:KV kvs vs):(!vs.isEmpty)=!kvs.isEmpty:=by
 cases r<;>rfl
theorem zak2 {xs:List V}{its:List Value}(r:Vals xs its):(!its.toArray.isEmpty)=!xs.isEmpty:=by
 cases r<;>simp
theorem zab1:(sizeLine:Nat)<2 ^ 63:=by rw[sizeLine_eq];decide
theorem zbn0:TruR X (fun x H Q=>∃ k,TruV X.K x H k/\Q k H):=by
 intro pins s σ H x v Q I rx h
 obtain⟨k,e,q⟩:=h
 have hl:=zab1
 have hs:sizeLine=16777216:=sizeLine_eq
 cases x with
 | non=>
  cases rx
  have e':k=false:=e
  subst e'
  exact truthy_none ⟨H,I,q⟩
 | bl b=>
  cases rx
  have e':k=b:=e
  subst e'
  exact wpAny_truthy_bool ⟨H,I,q⟩
 | int i=>
  obtain⟨t,rfl⟩:=rx
  have e':k=(i != 0):=e
  subst e'
  exact PySem.P.truthy_int ⟨H,I,q⟩
 | str y=>
  obtain⟨t,rfl⟩:=rx
  obtain⟨hy,e'⟩:y.length<=sizeLine/\k=((y.length:Int) != 0):=e
  subst e'
  exact PySem.P.truthy_str (by omega) ⟨H,I.tok _,q⟩
 | byt y=>
  obtain⟨t,rfl⟩:=rx
  obtain⟨hy,e'⟩:y.size<=sizeLine/\k=((y.size:Int) != 0):=e
  subst e'
  exact PySem.W.truthy_bytes (by omega) ⟨H,I.tok _,q⟩
 | ref p=>
  cases rx
  have e':(∃ xs,SqL X.K H p xs/\k=!xs.isEmpty)∨(∃ xs,SqT X.K H p xs/\k=!xs.isEmpty)∨∃ kvs,H p=some (.dK kvs)/\k=!kvs.isEmpty:=e
  rcases e' with ⟨xs,hx,e'⟩|⟨xs,hx,e'⟩|⟨kvs,hx,e'⟩
  ·subst e'
   obtain⟨its,r,pl,hz⟩:=I.list hx
   have hlen:=r.length
   exact wpAny_truthy_list pl.isList (by simp only[zcr3];omega) ⟨H,I.tok _,by rw[zak2 r];exact q⟩
  ·subst e'
   obtain⟨its,r,pl,hz⟩:=I.tuple hx
   have hlen:=r.length
   exact truthy_tuple pl (by simp only[zcr3];omega) ⟨H,I.tok _,by rw[zak2 r];exact q⟩
  ·subst e'
   obtain⟨hz,hS,vs,r,m⟩:kvs.length<=sizeLine/\(p==sysModules)=false/\∃ vs,KV kvs vs/\s.heap.DictOf (zk7 X.prog X.w) p vs:=I.hok p _ hx
   have hlen:kvs.length=vs.length:=Paired.length r
   exact wpAny_truthy_dict hS m (by omega) ⟨H,I.tok _,by rw[zbi2 r];exact q⟩
 | _=>exact (show False from e).elim
theorem zbh0:OpR X (binaryOp .Add) (fun x y H Q=>∃ i j,x=.str i/\y=.str j/\i.length+j.length<=sizeLine/\Q (.str (i++j)) H):=by
 intro pins s σ H x y v u Q I rx ry h
 obtain⟨i,j,rfl,rfl,hz,q⟩:=h
 obtain⟨t,rfl⟩:=rx
 obtain⟨t',rfl⟩:=ry
 exact add_str (fun t' tk=>⟨.str (i++j),H,I.tok _,⟨_,rfl⟩,q⟩) hz
theorem zac3 {x:V}{us:List Value}(r:Vals [x] us):∃ u,us=[u]/\RelV x u:=by
 cases r with
 | cons r1 r2=>cases r2;exact⟨_,rfl,r1⟩
theorem zbo1 {x y:V}{us:List Value}(r:Vals [x,y] us):∃ u w',us=[u,w']/\RelV x u/\RelV y w':=by
 cases r with
 | cons r1 r2=>
  cases r2 with
  | cons r3 r4=>cases r4;exact⟨_,_,rfl,r1,r3⟩
theorem zbj7 (hc:X.calm=true):zp7 X (.builtin "max") (fun xs H Q=>∃ i j,xs=[.int i,.int j]/\Q (.int (if j>i then j else i)) H):=by
 intro pins s σ H xs us Q I r h
 obtain⟨i,j,rfl,q⟩:=h
 obtain⟨u,w',rfl,⟨t,rfl⟩,⟨t',rfl⟩⟩:=zbo1 r
 refine max_two_ints (I.ok.hd hc) fun h' tk k=>⟨_,H,I.kept k,?_,q⟩
 by_cases hj:j>i
 ·rw[if_pos hj,if_pos hj];exact⟨_,rfl⟩
 ·rw[if_neg hj,if_neg hj];exact⟨_,rfl⟩
theorem zbj9 (hc:X.calm=true):zp7 X (.builtin "min") (fun xs H Q=>∃ i j,xs=[.int i,.int j]/\Q (.int (if j<i then j else i)) H):=by
 intro pins s σ H xs us Q I r h
 obtain⟨i,j,rfl,q⟩:=h
 obtain⟨u,w',rfl,⟨t,rfl⟩,⟨t',rfl⟩⟩:=zbo1 r
 refine min_two_ints (I.ok.hd hc) fun h' tk k=>⟨_,H,I.kept k,?_,q⟩
 by_cases hj:j<i
 ·rw[if_pos hj,if_pos hj];exact⟨_,rfl⟩
 ·rw[if_neg hj,if_neg hj];exact⟨_,rfl⟩
theorem zar4:zp7 X (.type "int") (fun xs H Q=>(∃ i,xs=[.int i]/\Q (.int i) H)∨∃ k,xs=[.bl k]/\Q (.int (if k then 1 else 0)) H):=by
 intro pins s σ H xs us Q I r h
 rcases h with ⟨i,rfl,q⟩|⟨k,rfl,q⟩
 ·obtain⟨u,rfl,t,rfl⟩:=zac3 r
  exact call_int_int ⟨.int i,H,I,⟨_,rfl⟩,q⟩
 ·obtain⟨u,rfl,r1⟩:=zac3 r
  cases r1
  exact call_int_bool ⟨.int (if k then 1 else 0),H,I.tok _,⟨_,rfl⟩,q⟩
end
end L2
namespace L2
open PySem PySem.Spec PyProof.Rows
structure ObjM (h:Heap) (x dx C:Addr) (mA:Str->Option Value):Prop where
 obj:h.get? x=some (PySem.W.instObj C dx)
 ns:h.Ns1 dx mA
 ne:dx≠x
theorem zbo9 {h:Heap}{dx:Addr}{mA:Str->Option Value}(n:h.Ns1 dx mA):∃ od,h.get? dx=some od/\∀ name,PySem.W.lookIn name od=some (mA name):=by
 obtain⟨o,es,ep,ho,hd,hk,_,hm⟩:=n
 refine⟨o,ho,fun name=>?_⟩
 have e:=hm name
 unfold nsFind findBy at e
 rw[← Array.find?_toList] at e
 unfold PySem.W.lookIn
 rw[hd]
 dsimp only
 split
 ·rename_i y q
  rw[q] at e
  exact congrArg some e
 ·rename_i q
  rw[q] at e
  have a:es.toList.any (·.refKey)=false:=by
   rw[List.any_eq_false]
   intro y hy
   obtain⟨z,t,hkey⟩:=hk y (Array.mem_toList_iff.mp hy)
   simp[DictEntry.refKey,hkey]
  have a':¬ es.toList.any (·.refKey)=true:=by rw[a];exact zcr2
  rw[if_neg a']
  exact congrArg some e
theorem ObjM.look {h:Heap}{x dx C:Addr}{mA:Str->Option Value}(I:ObjM h x dx C mA):∃ od,PySem.W.InstAt h x (PySem.W.instObj C dx) C (some od)/\∀ name,PySem.W.lookIn name od=some (mA name):=
 let ⟨od,ho,hl⟩:=zbo9 I.ns
 ⟨od,⟨I.obj,rfl,rfl,ho⟩,hl⟩
section
variable {prog:Program}{w:World}{A:Around}{E:Value->Shared->Prop}{s:Shared}{K:zcq5}{x dx C f:Addr}{mA:Str->Option Value}{name:Str}{v:Value}
end
theorem RelO.some_of {v:V}{o:Option Value}(r:RelO (some v) o):∃ u,o=some u/\RelV v u:=by
 cases o with
 | none=>exact (show False from r).elim
 | some u=>exact⟨u,rfl,r⟩
section
variable {P:Program}{w:World}{H H':Hp}{h h':Heap}{a C dx:Addr}{fs fs':List (Str×V)}
theorem zcj5 (hok:HOk P w H h) (e:H a=some (.ins C dx fs)):∃ mA,ObjM h a dx C mA/\(∀ f,RelO (fs.lookup f) (mA f))/\PySem.Within mA (fs.map (·.1))/\fs.length<=1000/\H dx=some (.own a):=by
 obtain⟨d,z,ne,ob,mA,n,r,q⟩:=(show zi2 P w H h a (.ins C dx fs) from hok a _ e)
 exact⟨mA,⟨ob,n,ne⟩,r,q,z,d⟩
end
structure Cls (K:zcq5) (C:Addr):Prop where
 pg:PySem.W.plainGet K C Str.empty=true
 hd:PySem.W.hasDictIn K C=true
 po:PySem.W.plainOver K C=true
 sa:zcu5 K (.ref C) "__setattr__"=some (some (.builtin "object.__setattr__"))
theorem Cls.get {K:zcq5}{C:Addr}(c:Cls K C) (f:Str):PySem.W.plainGet K C f=true:=c.pg
section
variable {X:Cx}{pins:List (Addr×Obj)}{σ:St}{H:Hp}{s:Shared}{a C dx:Addr}{fs:List (Str×V)}{f:Str}{v:V}{A:Around}{E:Value->Shared->Prop}
end
section
variable {X:Cx}{o e value:Expr}{f:Str}{pos pos' tpos:Pos}{ta tv:TE}
end
section
variable {X:Cx}{pins:List (Addr×Obj)}{σ:St}{H:Hp}{s:Shared}{A:Around}{E:Value->Shared->Prop}{Q:Value->Shared->Prop}{c:Value}{b:Bool}
inductive TyOf (K:zcq5) (H:Hp):V->Value->Prop where
 | non:TyOf K H .non (.type "NoneType")
 | bl (x:Bool):TyOf K H (.bl x) (.type "bool")
 | int (i:Int):TyOf K H (.int i) (.type "int")
 | str (x:Str):TyOf K H (.str x) (.type "str")
 | flt (x:UInt64):TyOf K H (.flt x) (.type "float")
 | lst {a:Addr}{xs:List V}(e:H a=some (.lst xs)):TyOf K H (.ref a) (.type "list")
 | frz {a:Addr}{o:Obj}{xs:List V}(e:H a=some (.frz o (.lst xs))):TyOf K H (.ref a) (.type "list")
 | tup {a:Addr}{xs:List V}(e:H a=some (.tup xs)):TyOf K H (.ref a) (.type "tuple")
 | dK {a:Addr}{kvs:List (Key×V)}(e:H a=some (.dK kvs)):TyOf K H (.ref a) (.type "dict")
 | dT {a:Addr}{kvs:List (List Key×V)}(e:H a=some (.dT kvs)):TyOf K H (.ref a) (.type "dict")
 | ins {a C dx:Addr}{fs:List (Str×V)}(e:H a=some (.ins C dx fs)) (cl:Cls K C) (ha:zcu5 K (.ref C) "__class__"=some (some (.builtin "object.__class__")))
   (hn:PySem.W.specialIn K (.builtin "object.__class__") "__get__"=some (some (.builtin "getset_descriptor.__get__"))) (htk:PySem.W.takesIn K (.builtin "object.__class__")=some true)
   (hm:PySem.W.mroIn K C (.type "object")=some true):TyOf K H (.ref a) (.ref C)
theorem zbj5 {x:V}{u t:Value}(I:Inv X pins σ H s) (rx:RelV x u) (ty:TyOf X.K H x t) (e:zcu1 X.K t c=some b) (h:∀ tk,Q (.bool b) { s with toks:=tk }) :
  wpAny (model X.prog X.w) A (call (.builtin "isinstance") [u,c]) Q E s:=by
 cases ty with
 | non=>cases (show u=Value.none from rx);exact zcv9 PySem.W.kitx_none I.kIn True.intro e (fun z=>nomatch z) h
 | bl y=>cases (show u=Value.bool y from rx);exact zcv9 PySem.W.kitx_bool I.kIn True.intro e (fun z=>nomatch z) h
 | int i=>obtain⟨t,q⟩:=(show ∃ t,u=Value.int i t from rx);cases q;exact zcv9 PySem.W.kitx_int I.kIn True.intro e (fun z=>nomatch z) h
 | str y=>obtain⟨t,q⟩:=(show ∃ t,u=Value.str y t from rx);cases q;exact zcv9 PySem.W.kitx_str I.kIn True.intro e (fun z=>nomatch z) h
 | flt y=>obtain⟨t,q⟩:=(show ∃ t,u=Value.float y t from rx);cases q;exact zcv9 PySem.W.kitx_float I.kIn True.intro e (fun z=>nomatch z) h
 | @lst a xs ea=>
  cases (show u=Value.ref a from rx)
  obtain⟨_,_,n,_,h1⟩:=(show zi2 X.prog X.w H s.heap a (.lst xs) from I.hok a _ ea)
  exact zcv9 PySem.W.kitx_list I.kIn ⟨_,h1,rfl⟩ e (fun z=>nomatch z) h
 | @frz a ob xs ea=>
  cases (show u=Value.ref a from rx)
  obtain⟨_,_,_,n,_,h1⟩:=(show zi2 X.prog X.w H s.heap a (.frz ob (.lst xs)) from I.hok a _ ea)
  exact zcv9 PySem.W.kitx_list I.kIn ⟨_,h1,rfl⟩ e (fun z=>nomatch z) h
 | @tup a xs ea=>
  cases (show u=Value.ref a from rx)
  obtain⟨_,_,_,p⟩:=(show zi2 X.prog X.w H s.heap a (.tup xs) from I.hok a _ ea)
  obtain⟨o,h1,h2,_⟩:=p
  exact zcv9 PySem.W.kitx_tuple I.kIn ⟨o,h1,h2⟩ e (fun z=>nomatch z) h
 | @dK a kvs ea=>
  cases (show u=Value.ref a from rx)
  obtain⟨_,_,vs,_,p⟩:=(show zi2 X.prog X.w H s.heap a (.dK kvs) from I.hok a _ ea)
  obtain⟨o,es,ep,h1,h2,_⟩:=p
  exact zcv9 PySem.W.kitx_dict I.kIn ⟨o,h1,h2.1⟩ e (fun z=>nomatch z) h
 | @dT a kvs ea=>
  cases (show u=Value.ref a from rx)
  obtain⟨_,_,xs,_,o,es,ep,h1,h2,_⟩:=(show zi2 X.prog X.w H s.heap a (.dT kvs) from I.hok a _ ea)
  exact zcv9 PySem.W.kitx_dict I.kIn ⟨o,h1,h2.1⟩ e (fun z=>nomatch z) h
 | @ins a C dx fs ea cl ha hn htk hm=>
  cases (show u=Value.ref a from rx)
  obtain⟨mA,O,_⟩:=zcj5 I.hok ea
  obtain⟨od,J,_⟩:=O.look
  exact zcv9 (PySem.W.kitx_own (cl.get _) cl.hd ha hn htk hm) I.kIn J e (fun z=>nomatch z) h
end
end L2
namespace L2
open PySem PySem.Spec PyProof.Rows
structure Room (k:Nat) (A:Around):Prop where
 hd:A.handled=none
 dp:A.depth+3*k+5<recursionLimit
 un:A.units+16*k+200<cLine
 gd:A.guards=some []
theorem Room.mono {j k:Nat}{A:Around}(r:Room k A) (h:j<=k):Room j A:=⟨r.hd,by have:=r.dp;omega,by have:=r.un;omega,r.gd⟩
theorem Room.deeper {k:Nat}{A:Around}(r:Room (k+1) A) (env:Env):Room k (A.deeper env):=
 ⟨r.hd,by have:=r.dp;show A.depth+1+3*k+5<_;omega,by have:=r.un;show A.units+3+16*k+200<_;omega,r.gd⟩
theorem zbh5 {A:Around}{C:Addr}{us:List Value}{kw:List (Str×Value)}:(A.under (.builtin "type.__call__" ⟨.ref C :: us,kw⟩)).depth=A.depth+1:=by
 first|rfl|simp[Around.under,Code.weight,Code.isCreation,Code.isGuard,Code.isCaller,Code.frames,Code.isFrame,guardIds]
theorem zbg6 {A:Around}{C:Addr}{us:List Value}{kw:List (Str×Value)}:(A.under (.builtin "type.__call__" ⟨.ref C :: us,kw⟩)).units=A.units+1:=by
 first|rfl|simp[Around.under,Code.cUnits,Code.frames,Code.isFrame]
theorem zaz8 {A:Around}{C:Addr}{us:List Value}{kw:List (Str×Value)}:(A.under (.builtin "type.__call__" ⟨.ref C :: us,kw⟩)).guards=A.guards:=by
 first|rfl|(cases A;simp[Around.under,pushGuards,Code.guards,Code.isGuard,guardIds])
theorem Room.make {k:Nat}{A:Around}(r:Room (k+1) A) (C:Addr) (us:List Value) (kw:List (Str×Value)):Room k (A.under (.builtin "type.__call__" ⟨.ref C :: us,kw⟩)):=
 ⟨r.hd,by have:=r.dp;rw[zbh5];omega,by have:=r.un;rw[zbg6];omega,zaz8.trans r.gd⟩
theorem Room.depth {k:Nat}{A:Around}(r:Room k A):A.depth<recursionLimit:=by have:=r.dp;omega
theorem Room.units {k:Nat}{A:Around}(r:Room k A):A.units+64<cLine:=by have:=r.un;omega
def tNil:TA:=fun _ H Q=>Q [] H
def tCons (ta:TE) (tr:TA):TA:=fun σ H Q=>ta σ H fun x H1=>tr σ H1 fun xs H2=>Q (x :: xs) H2
section
variable {X:Cx}{e:Expr}{es:List Expr}{te:TE}{t:TA}{pos:Pos}
theorem za1:PA X [] tNil:=fun _ _ _ _ H Q I h=>Calls.spliced_nil ⟨[],H,I,.nil,h⟩
theorem za0 (ha:PE X e te) (hr:PA X es t) (hs:starEach (e :: es) X.env=(false,eval e X.env) :: starEach es X.env:=by rfl):PA X (e :: es) (tCons te t):=by
 intro pos pins s σ H Q I h
 rw[hs]
 show wpAny _ _ (spliced ((false,eval e X.env) :: backTo pos (starEach es X.env))) _ _ s
 refine Calls.spliced_cons (thn (ha pins s σ H _ I h) fun u s1 ⟨x,H1,I1,r1,q1⟩=>?_)
 exact thn (hr pos pins s1 σ H1 _ I1 q1) fun us s2 ⟨xs,H2,I2,r2,q2⟩=>⟨x :: xs,H2,I2,.cons r1 r2,q2⟩
end
abbrev Sp:=List V->Hp->VK->XK->Prop
abbrev CXT:=List Env->Hp->Shared->XK->Value->Shared->Prop
structure Env0 (P:Program) (w:World) (K:zcq5) (mg:Str->Option Value) (base:Heap) (A:Around) (outer:List Env) (s:Shared) (H:Hp):Prop where
 frames:A.frames=some outer
 mod:Mod K mg base
 bs:∀ b o,base.get? b=some o->s.heap.get? b=some o/\H b=none
 bsz:base.objs.size<=s.heap.objs.size
 funs:s.heap.FunFrames base outer
 frf:∀ b∈frs outer,H b=none
 hok:HOk P w H s.heap
 bare:AllBare s.gens
def CE (outer:List Env) (P:Program) (w:World) (H:Hp) (s:Shared) (Q:VK) (u:Value) (s':Shared):Prop:=
 ∃ v H',s'.os=s.os/\AllBare s'.gens/\Un (frs outer) [] H H' s.heap s'.heap/\HOk P w H' s'.heap/\RelV v u/\Q v H'
def CR (CX:CXT) (outer:List Env) (P:Program) (w:World) (H:Hp) (s:Shared) (Q:VK) (E:XK) (r:Result) (s':Shared):Prop:=
 match r with
 | .ok (.ret u)=>CE outer P w H s Q u s'
 | .ok _=>False
 | .error e=>CX outer H s E e s'
structure FnOk (P:Program) (w:World) (K:zcq5) (mg:Str->Option Value) (base:Heap) (CX:CXT) (k:Nat) (f:Addr) (fd:FuncData) (ps:List Str) (sp:Sp):Prop where
 len:∀ vs H Q E,sp vs H Q E->vs.length=ps.length
 run:∀ (A:Around) (outer:List Env) (s:Shared) (H:Hp) (args:Args) (us:List Value) (vs:List V) (Q:VK) (E:XK),Room k A->Env0 P w K mg base A outer s H->BindsTo s fd args (ps.zip us)->Vals vs us->sp vs H Q E ->
  codeAny (model P w) A (.call (.ref f) args) (CR CX outer P w H s Q E) s
theorem Env0.make {P:Program}{w:World}{K:zcq5}{mg:Str->Option Value}{base:Heap}{A:Around}{outer:List Env}{s:Shared}{H:Hp}(e:Env0 P w K mg base A outer s H) (C:Addr) (us:List Value) (kw:List (Str×Value)) :
  Env0 P w K mg base (A.under (.builtin "type.__call__" ⟨.ref C :: us,kw⟩)) outer s H:=⟨by first|exact e.frames|(simpa [Around.under,Code.envs,Code.isFrame,pushEnvs] using e.frames),e.mod,e.bs,e.bsz,e.funs,e.frf,e.hok,e.bare⟩
section
variable {X:Cx}{pins:List (Addr×Obj)}{σ:St}{H:Hp}{s s':Shared}
theorem Inv.env0 (I:Inv X pins σ H s):Env0 X.prog X.w X.K X.mg X.base X.A X.stack s H:=
 ⟨I.ok.frames,I.ok.mod,I.bs,zcv1 I.ok.bsz I.sz,I.stack,I.stkFree,I.hok,I.bare⟩
theorem Inv.after {Q:VK}{u:Value}(I:Inv X pins σ H s) (h:CE X.stack X.prog X.w H s Q u s'):EP X pins σ Q u s':=by
 obtain⟨v,H',os,bare,un,hok,r,q⟩:=h
 obtain⟨hh,g,d,t,os'⟩:=s'
 obtain rfl:os'=s.os:=os
 exact⟨v,H',I.call (h':=hh) (g':=g) (d':=d) (t':=t) (ch:=[]) un hok bare (fun b z=>absurd z (by simp)),r,q⟩
end
def tCall (sp:Sp) (dvs:List V) (E:XK) (t:TA):TE:=fun σ H Q=>t σ H fun vs H1=>sp (vs++dvs) H1 Q E
def zai2 (K:zcq5) (fd:FuncData) (ps:List Str) (ds:List Value):Prop:=
 ∀ (s:Shared) (us:List Value),K.In s.heap->(us++ds).length=ps.length->BindsTo s fd ⟨us,[]⟩ (ps.zip (us++ds))
theorem zai2.all {K:zcq5}{fd:FuncData}{ps:List Str}(h:∀ us:List Value,us.length=ps.length->bindArgs fd ⟨us,[]⟩=pure (ps.zip us)):zai2 K fd ps []:=fun s us _ hl=>by
 rw[List.append_nil] at hl ⊢
 exact .of_eq (h us hl)
def zaw2 (CX:CXT) (X:Cx) (E:XK):Prop:=∀ (pins:List (Addr×Obj)) (σ:St) (H:Hp) (s:Shared) (e:Value) (s':Shared),Inv X pins σ H s->CX X.stack H s E e s'->X.xe e s'
section
variable {X:Cx}{CX:CXT}{k:Nat}{f C:Addr}{fd:FuncData}{ps:List Str}{sp:Sp}{dvs:List V}{ds:List Value}{E:XK}{x m:Str}{p pos apos:Pos}{e o:Expr}{es:List Expr}{ta:TE}{t:TA}
theorem run_fn {pins:List (Addr×Obj)}{σ:St}{H:Hp}{s:Shared}{Q:VK}{us:List Value}{vs:List V}(F:FnOk X.prog X.w X.K X.mg X.base CX k f fd ps sp) (hr:Room k X.A) (hb:zai2 X.K fd ps ds) (hd:Vals dvs ds) (hx:zaw2 CX X E)
  (I:Inv X pins σ H s) (r:Vals vs us) (h:sp (vs++dvs) H Q E):wpAny (model X.prog X.w) X.A (call (.ref f) us) (EP X pins σ Q) X.xe s:=by
 have r2:Vals (vs++dvs) (us++ds):=r.append hd
 have hl:(us++ds).length=ps.length:=by rw[← r2.length];exact F.len _ _ _ _ h
 refine wpAny_call (codeAny_mono (F.run X.A X.stack s H ⟨us,[]⟩ (us++ds) (vs++dvs) Q E hr I.env0 (hb s us I.kIn hl) r2 h) fun r s' hq=>?_)
 cases r with
 | error e=>exact hx pins σ H s e s' I hq
 | ok fl=>
  cases fl with
  | ret u=>exact I.after hq
  | next=>exact False.elim hq
  | brk=>exact False.elim hq
  | cont=>exact False.elim hq
theorem zcg7 (F:FnOk X.prog X.w X.K X.mg X.base CX k f fd ps sp) (hr:Room k X.A) (hg:Gl X x) (hm:X.mg x=some (.ref f)) (hk:zcr5 X.K (.ref f)=true) (hb:zai2 X.K fd ps ds) (hd:Vals dvs ds) (hx:zaw2 CX X E)
  (ha:PA X (e :: es) t) (hdb:(x==("__debug__":Str))=false:=by decide) (he:starEach (e :: es) X.env=(false,eval e X.env) :: starEach es X.env:=by rfl) (hpl:(backTo pos (starEach es X.env)).any (·.1)=false:=by rfl) :
  PE X (.Call (.Name x p) (e :: es) [] pos) (tCall sp dvs E t):=by
 intro pins s σ H Q I h
 refine wpAny_Call_Name_kw (zap3 I hg hm ?_ hdb)
 refine PySem.W.callWith_K (h₀:=X.base) I.ok.mod.kin hk (thn (ha pos pins s σ H _ I h) fun us s1 ⟨vs,H1,I1,r,q⟩=>⟨I1.kIn,?_⟩) he hpl
 exact run_fn F hr hb hd hx I1 r q
end
section
variable {X:Cx}{CX:CXT}{k:Nat}{f C:Addr}{fd:FuncData}{ps ks:List Str}{sp:Sp}{E:XK}{x m:Str}{p pos apos kpos:Pos}{e o:Expr}{es:List Expr}{kws:List Keyword}{te ta:TE}{t tk:TA}{nm:Option Str}
variable {g:List Value->List Value->List Value}{gV:List V->List V->List V}
end
structure zb3 (N P:List Str) (sc:Scope):Prop where
 kind:sc.kind=.function
 co:sc.isCoroutine=false
 gen:sc.isGenerator=false
 nd:N.Nodup
 pre:N.take P.length=P
 par:∀ x∈P,sc.names.lookup x=some .local∨sc.names.lookup x=some .cell
 nofree:∀ y∈sc.names,y.2≠.free
theorem zas4 {kindOf:Str->Option NameKind}{x:Str}:∀ {binds:List (Str×Value)}{m:Str->Option Value},(∀ v,(x,v) ∉ binds)->bindL kindOf binds m x=m x
 | [],_,_=>rfl
 | (n,v) :: r,m,h=>by
  unfold bindL
  rw[zas4 fun w hw=>h w (zcu7 _ hw)]
  split
  ·have:x≠n:=by rintro rfl;exact h v zcv7
   simp[this]
  ·rfl
theorem zat3 {kindOf:Str->Option NameKind}{x:Str}:∀ {binds:List (Str×Value)}{m:Str->Option Value},(∀ v,(x,v) ∉ binds)->bindC kindOf binds m x=m x
 | [],_,_=>rfl
 | (n,v) :: r,m,h=>by
  unfold bindC
  rw[zat3 fun w hw=>h w (zcu7 _ hw)]
  split
  ·rfl
  ·have:x≠n:=by rintro rfl;exact h v zcv7
   simp[this]
theorem zav5 {kindOf:Str->Option NameKind}{x:Str}{v:Value}:∀ {P:List Str}{vs:List Value}{i:Nat}{m:Str->Option Value},P.Nodup->P[i]?=some x->vs[i]?=some v->kindOf x=some .local ->
  bindL kindOf (P.zip vs) m x=some v
 | [],_,_,_,_,h,_,_=>by simp at h
 | _ :: _,[],_,_,_,_,h,_=>by simp at h
 | p :: P,w :: vs,0,m,nd,h1,h2,hk=>by
  simp at h1 h2;subst h1;subst h2
  show bindL kindOf ((p,w) :: P.zip vs) m p=_
  unfold bindL
  rw[zas4 fun v hv=>(zcy3.mp nd).1 (List.of_mem_zip hv).1,if_pos hk]
  simp
 | p :: P,w :: vs,i+1,m,nd,h1,h2,hk=>by
  show bindL kindOf ((p,w) :: P.zip vs) m x=_
  unfold bindL
  exact zav5 (i:=i) (zcy3.mp nd).2 (by simpa using h1) (by simpa using h2) hk
theorem zat0 {kindOf:Str->Option NameKind}{x:Str}{v:Value}:∀ {P:List Str}{vs:List Value}{i:Nat}{m:Str->Option Value},P.Nodup->P[i]?=some x->vs[i]?=some v->kindOf x≠some .local ->
  bindC kindOf (P.zip vs) m x=some v
 | [],_,_,_,_,h,_,_=>by simp at h
 | _ :: _,[],_,_,_,_,h,_=>by simp at h
 | p :: P,w :: vs,0,m,nd,h1,h2,hk=>by
  simp at h1 h2;subst h1;subst h2
  show bindC kindOf ((p,w) :: P.zip vs) m p=_
  unfold bindC
  rw[zat3 fun v hv=>(zcy3.mp nd).1 (List.of_mem_zip hv).1,if_neg hk]
  simp
 | p :: P,w :: vs,i+1,m,nd,h1,h2,hk=>by
  show bindC kindOf ((p,w) :: P.zip vs) m x=_
  unfold bindC
  exact zat0 (i:=i) (zcy3.mp nd).2 (by simpa using h1) (by simpa using h2) hk
def zan3 (N:List Str) (vs:List V):St:=vs.map some++List.replicate (N.length - vs.length) none
def cxOf (CX:CXT) (P:Program) (w:World) (K:zcq5) (mg:Str->Option Value) (base:Heap) (N:List Str) (qual:Str) (scope:Scope) (f:Addr) (cd:Value) (A:Around) (outer:List Env) (s:Shared) (H:Hp) (E:XK):Cx where
 prog:=P
 w:=w
 K:=K
 mg:=mg
 base:=base
 A:=A.deeper (envOfC qual scope s.heap.objs.size f cd)
 N:=N
 s₀:=s
 H₀:=H
 env:=envOfC qual scope s.heap.objs.size f cd
 outer:=outer
 stack:=envOfC qual scope s.heap.objs.size f cd :: outer
 ex:=[]
 calm:=true
 fn:=fun _=>true
 pn:=[]
 xe:=fun e s'=>wpAny (model P w) (A.deeper (envOfC qual scope s.heap.objs.size f cd)) (leaving (envOfC qual scope s.heap.objs.size f cd) e) (fun _ s''=>CX outer H s E e s'') (fun e' s''=>CX outer H s E e' s'') s'
theorem zbe6 {sc:Scope}{n:Nat}{x:Str}(h:sc.names.lookup x=some .cell):∃ c,(cellsFrom n sc.names []).lookup x=some c:=by
 have q:=PySem.W.cellsFrom_some sc.names n [] (.inl h)
 exact Option.isSome_iff_exists.mp q
theorem zbp9 {CX:CXT}{P:Program}{w:World}{K:zcq5}{mg:Str->Option Value}{base:Heap}{N ps:List Str}{qual:Str}{scope:Scope}{f:Addr}{cd:Value}{A:Around}{outer:List Env}{s s1:Shared}{H:Hp}{E:XK}{us:List Value}{vs:List V}
  (S:zb3 N ps scope) (hd:A.handled=none) (e0:Env0 P w K mg base A outer s H) (hl:vs.length=ps.length) (r:Vals vs us)
  (x:InCallC s s.heap.objs.size (bindL (envOfC qual scope s.heap.objs.size f cd).kindOf (ps.zip us) fun _=>none) (cellsFrom (s.heap.objs.size+1) scope.names []) (bindC (envOfC qual scope s.heap.objs.size f cd).kindOf (ps.zip us) fun _=>none) s1) :
  Inv (cxOf CX P w K mg base N qual scope f cd A outer s H E) [] (zan3 N vs) H s1:=by
 have hpl:ps.length<=N.length:=by have:=congrArg List.length S.pre;rw[zcw0] at this;omega
 obtain⟨h1,tk,rfl,hk⟩:=x.done
 have noA:∀ b:Addr,b ∉ (cxOf CX P w K mg base N qual scope f cd A outer s H E).ex:=fun b z=>absurd (show b∈([]:List Addr) from z) (by simp)
 refine⟨⟨e0.mod,S.kind,rfl,rfl,zcr9 _,fun y z c h1 h2=>?_,fun y hy=>?_,fun y c _ h=>?_,fun _=>hd,Around.frames_deeper e0.frames,.inr ⟨rfl,rfl⟩,fun b z=>absurd z (noA b),e0.bs,e0.bsz,fun b _ _=>noA b,fun b z=>absurd z (noA b),e0.funs,e0.frf⟩,
  rfl,e0.bare,Un.kept hk,⟨_,x.toInCall.ns,fun i y v h1 h2 h3=>?_⟩,fun y c h=>⟨_,x.cell y c h⟩,e0.hok.fresh (zcr9 _),fun y c h=>?_,fun p hp=>absurd (show p∈([]:List (Addr×Obj)) from hp) (by simp),e0.hok.kept hk,?_⟩
 ·exact name_of_addr x.apart (PySem.mem_of_lookup h1) (PySem.mem_of_lookup h2)
 ·have hy:scope.names.lookup y=some .cell∨scope.names.lookup y=some .free:=hy
  rcases hy with hy|hy
  ·exact zbe6 hy
  ·exact absurd rfl (S.nofree _ (PySem.mem_of_lookup hy))
 ·exact Nat.le_of_lt (x.above y c (PySem.mem_of_lookup h))
 ·have hi:i<vs.length:=by
   unfold zan3 at h2
   by_cases hi:i<vs.length
   ·exact hi
   ·rw[zcu2 (by simpa using hi)] at h2
    rw[List.getElem?_replicate] at h2
    split at h2<;>cases h2
  have ha:vs[i]?=some v:=by
   unfold zan3 at h2
   rw[zct1 (by simpa using hi),zcq8] at h2
   cases e:vs[i]? with
   | none=>rw[e] at h2;cases h2
   | some a=>rw[e] at h2;cases h2;rfl
  obtain⟨u,hu,rv⟩:=r.get ha
  have hp:ps[i]?=some y:=by
   rw[← S.pre,List.getElem?_take_of_lt (by omega)];exact h1
  have ndP:ps.Nodup:=by rw[← S.pre];exact S.nd.sublist (List.take_sublist _ _)
  refine⟨u,rv,?_⟩
  rcases S.par y (zcr0 hp) with k|k
  ·exact .inl ⟨k,zav5 ndP hp hu k⟩
  ·obtain⟨c,e⟩:=zbe6 (n:=s.heap.objs.size+1) k
   refine .inr ⟨.inl k,c,e,?_⟩
   have q:=x.cell y c e
   rw[zat0 ndP hp hu (by show scope.names.lookup y≠_;rw[k];decide)] at q
   exact q
 ·exact e0.hok.fresh (Nat.le_of_lt (x.above y c (PySem.mem_of_lookup h)))
 ·unfold zan3
  show _=N.length
  rw[zcr6,zcq3,List.length_replicate]
  omega
theorem fn_of {CX:CXT}{P:Program}{w:World}{K:zcq5}{mg:Str->Option Value}{base:Heap}{k:Nat}{f:Addr}{name qual:Str}{params:Arguments}{body:List Stmt}{scope:Scope}{dV kV doc pm cdv ct oc:Value}{an od:Option Addr}
  {osl:Array (Option Value)}{N ps:List Str}{sp:Sp}(lk:K.lookup f=some ⟨oc,od,.func (zcs1 name qual params body scope dV kV doc pm an cdv ct),osl⟩) (hcd:zcr7 K cdv qual=true) (S:zb3 N ps scope)
  (len:∀ vs H Q E,sp vs H Q E->vs.length=ps.length)
  (hbody:∀ (A:Around) (outer:List Env) (s:Shared) (H:Hp) (vs:List V) (Q:VK) (E:XK),Room k (A.deeper (envOfC qual scope s.heap.objs.size f cdv))->sp vs H Q E ->
   ∃ t,PSs (cxOf CX P w K mg base N qual scope f cdv A outer s H E) body t/\t { nx:=fun _ H'=>Q .non H',rt:=Q } (zan3 N vs) H) :
  FnOk P w K mg base CX (k+1) f (zcs1 name qual params body scope dV kV doc pm an cdv ct) ps sp:=by
 refine⟨len,fun A outer s H args us vs Q E hr e0 hb r hsp=>?_⟩
 have hl:=len _ _ _ _ hsp
 have KX:K.In s.heap:=e0.mod.kin.keeps fun b o e=>(e0.bs b o e).1
 have lim:s.heap.NoLimit:=e0.mod.nolimit.keeps fun b o e=>(e0.bs b o e).1
 have hkind:∀ y∈ps.zip us,scope.names.lookup y.1=some .local∨(scope.names.lookup y.1=some .cell/\((cellsFrom (s.heap.objs.size+1) scope.names []).lookup y.1).isSome=true):=fun ⟨n,v⟩ hy=>by
  rcases S.par n (List.of_mem_zip hy).1 with q|q
  ·exact .inl q
  ·exact .inr ⟨q,PySem.W.cellsFrom_some _ _ _ (.inl q)⟩
 refine codeAny_call_function hr.depth (KX _ _ lk) rfl S.co S.gen rfl (PySem.W.codeRec_of KX hcd) (hb _ _ _ _ ?_)
 refine wpAny_newFunctionEnv_cells S.kind hkind fun env he s1 x=>?_
 subst he
 refine⟨lim.keeps x.toInCall.keep,codeAny_func ?_⟩
 obtain⟨t,ht,hq⟩:=hbody A outer s H vs Q E (hr.deeper _) hsp
 have I:Inv (cxOf CX P w K mg base N qual scope f cdv A outer s H E) [] (zan3 N vs) H s1:=zbp9 S hr.hd e0 hl r x
 refine wpAny_mono (ht [] s1 (zan3 N vs) H _ I hq) (fun fl s' hs=>?_) fun e s' hs=>hs
 have fin:∀ {σ':St}{H':Hp}{v:V}{u:Value},Inv (cxOf CX P w K mg base N qual scope f cdv A outer s H E) [] σ' H' s'->RelV v u->Q v H'->CE outer P w H s Q u s':=
  fun {σ' H' v u} J rv q=>⟨v,H',J.os,J.bare,J.base,J.hok,rv,q⟩
 cases fl with
 | ret u=>
  obtain⟨v,σ',H',J,rv,q⟩:=hs
  exact fin J rv q
 | next=>
  obtain⟨σ',H',J,q⟩:=hs
  exact fin (v:=V.non) (u:=Value.none) J rfl q
 | brk=>
  obtain⟨_,_,_,q⟩:=hs
  exact False.elim q
 | cont=>
  obtain⟨_,_,_,q⟩:=hs
  exact False.elim q
end L2
namespace L2
open PySem PySem.Spec PyProof.Rows
section
variable {X:Cx}{x:Str}{p pos:Pos}{e:Expr}{es:List Expr}{t:TA}{id T:String}{r:List V->Hp->VK->Prop}
def tCB (r:List V->Hp->VK->Prop) (t:TA):TE:=fun σ H Q=>t σ H fun vs H1=>r vs H1 Q
theorem zbu1 (hc:zp7 X (.builtin id) r) (hg:Gl X x) (hm:X.mg x=none) (hv:bootBuiltins x=some (.builtin id)) (ha:PA X (e :: es) t) (hn:x≠"__name__":=by decide) (hdb:(x==("__debug__":Str))=false:=by decide)
  (he:starEach (e :: es) X.env=(false,eval e X.env) :: starEach es X.env:=by rfl) (hpl:(backTo pos (starEach es X.env)).any (·.1)=false:=by rfl):PE X (.Call (.Name x p) (e :: es) [] pos) (tCB r t):=by
 intro pins s σ H Q I h
 refine wpAny_Call_Name_kw (zy6 I hg hm hv ?_ hn hdb)
 exact PyProof.Rows.callWith_builtin1 (thn (ha pos pins s σ H _ I h) fun us s1 ⟨vs,H1,I1,r1,q1⟩=>hc pins s1 σ H1 vs us Q I1 r1 q1) he hpl
theorem zbq0 (hc:zp7 X (.type T) r) (hg:Gl X x) (hm:X.mg x=none) (hv:bootBuiltins x=some (.type T)) (ha:PA X (e :: es) t) (hn:x≠"__name__":=by decide) (hdb:(x==("__debug__":Str))=false:=by decide)
  (he:starEach (e :: es) X.env=(false,eval e X.env) :: starEach es X.env:=by rfl) (hpl:(backTo pos (starEach es X.env)).any (·.1)=false:=by rfl):PE X (.Call (.Name x p) (e :: es) [] pos) (tCB r t):=by
 intro pins s σ H Q I h
 refine wpAny_Call_Name_kw (zy6 I hg hm hv ?_ hn hdb)
 exact PyProof.Rows.callWith_type1 (thn (ha pos pins s σ H _ I h) fun us s1 ⟨vs,H1,I1,r1,q1⟩=>hc pins s1 σ H1 vs us Q I1 r1 q1) he hpl
end
end L2
namespace HT
open PySem PyProof.Rows
section
open PySem.SeqAt
open PySem.AutoSeq1 (wpAny_loadPart')
open PySem.MeetsSeq PySem.MeetsSeq2 PySem.MeetsSeq3
end
section
variable {prog:Program}{w:World}{A:Around}{E:Value->Shared->Prop}{s:Shared}
def sIx (n d:Nat):Option Int->Nat
 | none=>d
 | some v=>if v<0 then (v+(n:Int)).toNat else min v.toNat n
theorem sIx_le (n d:Nat) (hd:d<=n) (o:Option Int):sIx n d o<=n:=by
 cases o with
 | none=>exact hd
 | some v=>
  show (if v<0 then (v+(n:Int)).toNat else min v.toNat n)<=n
  by_cases hv:v<0
  ·rw[if_pos hv];omega
  ·rw[if_neg hv];exact Nat.min_le_right _ _
theorem zbn6 (v:Int) (n d:Nat):(if v<0 then max (v+(n:Int)) 0 else min v (n:Int))=((sIx n d (some v):Nat):Int):=by
 show (if v<0 then max (v+(n:Int)) 0 else min v (n:Int))=(((if v<0 then (v+(n:Int)).toNat else min v.toNat n):Nat):Int)
 by_cases hv:v<0
 ·simp only[if_pos hv];omega
 ·simp only[if_neg hv];omega
theorem zbg0 (lo hi:Option Int) (n:Nat):Builtin.Slice.sliceAdjust lo hi 1 (n:Int)=(((sIx n 0 lo:Nat):Int),((sIx n n hi:Nat):Int)):=by
 have h1:¬ ((1:Int)<0):=by omega
 unfold Builtin.Slice.sliceAdjust
 simp only[h1,if_false]
 refine Prod.ext ?_ ?_
 ·cases lo with
  | none=>rfl
  | some v=>exact zbn6 v n 0
 ·cases hi with
  | none=>rfl
  | some v=>exact zbn6 v n n
theorem zbf6 (i j:Nat):Builtin.Slice.slicePlaces (i:Int) (j:Int) 1=j - i:=by
 unfold Builtin.Slice.slicePlaces
 have h1:(1:Int)>0:=by omega
 simp only[h1,if_true,Int.ediv_one]
 split<;>omega
theorem zal7 {v:Value}{o:Option Int}{Q:Option Int->Shared->Prop}(p:IsPart v o) (h:Q o s):wpAny (model prog w) A (Builtin.Slice.slicePartIndex v) Q E s:=by
 cases p with
 | none=>exact slicePart_none h
 | int i t=>exact slicePart_int h
theorem zac2 {sl:Addr}{vl vu:Value}{lo hi:Option Int}{n:Nat}{Q:Int×Int×Nat->Shared->Prop}(hs:s.heap.IsSliceOf sl vl vu .none) (pl:IsPart vl lo) (pu:IsPart vu hi)
  (h:Q (((sIx n 0 lo:Nat):Int),1,sIx n n hi - sIx n 0 lo) s):wpAny (model prog w) A (Builtin.Slice.sliceApplied (.ref sl) (pure (n:Int))) Q E s:=by
 obtain⟨os,hos,hcs,hds⟩:=id hs
 unfold Builtin.Slice.sliceApplied Builtin.Slice.sliceFields
 refine wpAny_bind (wpAny_bind (wpAny_field hos hds (x:=vl) rfl (wpAny_bind (wpAny_field hos hds (x:=vu) rfl (wpAny_bind (wpAny_field hos hds (x:=.none) rfl (wpAny_pure ?_)))))))
 refine wpAny_bind (slicePart_none ?_)
 show wpAny _ _ (if ((1:Int)==0)=true then _ else _) _ _ s
 rw[if_neg (by decide)]
 refine wpAny_bind (zal7 pl (wpAny_bind (zal7 pu (wpAny_bind (wpAny_pure ?_)))))
 show wpAny _ _ (match Builtin.Slice.sliceAdjust lo hi 1 (n:Int) with|(lo,hi)=>pure (lo,(1:Int),Builtin.Slice.slicePlaces lo hi 1)) _ _ s
 rw[zbg0 lo hi n]
 show wpAny _ _ (pure (((sIx n 0 lo:Nat):Int),(1:Int),Builtin.Slice.slicePlaces ((sIx n 0 lo:Nat):Int) ((sIx n n hi:Nat):Int) 1)) _ _ s
 rw[zbf6]
 exact wpAny_pure h
theorem zbv1 (xs:Array Value) (i k:Nat):((List.range k).filterMap fun (m:Nat)=>xs[((i:Int)+(m:Int)*1).toNat]?).toArray=((xs.toList.drop i).take k).toArray:=by
 have e:(fun (m:Nat)=>xs[((i:Int)+(m:Int)*1).toNat]?)=fun m=>xs[i+m]?:=by
  funext m
  have:((i:Int)+(m:Int)*1).toNat=i+m:=by omega
  rw[this]
 rw[e]
 have:=pick_run xs i k
 rw[List.filterMap_map] at this
 have e2:((fun x=>xs[x]?)∘fun x=>i+x)=fun m=>xs[i+m]?:=rfl
 rw[e2] at this
 rw[this]
theorem getItem_tuple_cut {t sl:Addr}{items:Array Value}{vl vu:Value}{lo hi:Option Int}{Q:Value->Shared->Prop}(ht:IsTup s.heap t items) (hs:s.heap.IsSliceOf sl vl vu .none) (pl:IsPart vl lo) (pu:IsPart vu hi)
  (hw:¬ (sIx items.size 0 lo=0/\sIx items.size items.size hi=items.size))
  (h:Q (.ref s.heap.objs.size) { s with heap:=s.heap.push { cls:=.type "tuple",data:=.seq ((items.toList.drop (sIx items.size 0 lo)).take (sIx items.size items.size hi - sIx items.size 0 lo)).toArray } })
  (hsz:items.size<=sizeLine):wpAny (model prog w) A (getItem (.ref t) (.ref sl)) Q E s:=by
 have htake:sizeOk (.seq ((items.toList.drop (sIx items.size 0 lo)).take (sIx items.size items.size hi - sIx items.size 0 lo)).toArray):=by
  show ((items.toList.drop (sIx items.size 0 lo)).take (sIx items.size items.size hi - sIx items.size 0 lo)).toArray.size<=sizeLine
  rw[zcr3,zcw0,zcw1,Array.length_toList]
  omega
 have hj:sIx items.size items.size hi<=items.size:=sIx_le _ _ (zcr9 _) hi
 obtain⟨os,hos,hcs,hds⟩:=id hs
 have hTs:s.TypeIs (.ref sl) "slice":=⟨os,hos,hcs⟩
 unfold getItem
 try with_reducible refine wpAny_holding ?_
 first|refine wpAny_bind (wpAny_pure ?_)|skip
 refine wpAny_bind (wpAny_sequenceKey ht.typeIs (by decide) ?_)
 refine wpAny_bind (wpAny_callSpecial?_slot (name:=Str.ofString "__getitem__") ht.typeIs PyProof.Rows.slot_tuple_getitem
  (wpAny_call_entry PyProof.Rows.slot_tuple_getitem ht.typeIs entry_tuple_getitem ?_ (args_tuple_getitem _ _)))
 show wpAny _ _ (Builtin.Tuple.tupleItemsOf (.ref t) >>= _) _ _ s
 refine wpAny_bind (tupleItemsOf_ ht ?_)
 refine wpAny_bind (wpAny_typeOf hTs ?_)
 rw[if_pos (by decide)]
 refine wpAny_bind (zac2 hs pl pu ?_)
 have hno:¬ ((((sIx items.size 0 lo:Nat):Int)==0&&(1:Int)==1&&(sIx items.size items.size hi - sIx items.size 0 lo)==items.size)=true):=by
  intro q
  rw[zcs9,zcs9] at q
  have q1:((sIx items.size 0 lo:Nat):Int)=0:=eq_of_beq q.1.1
  have q2:sIx items.size items.size hi - sIx items.size 0 lo=items.size:=eq_of_beq q.2
  exact hw ⟨by omega,by omega⟩
 show wpAny _ _ (if (((sIx items.size 0 lo:Nat):Int)==0&&(1:Int)==1&&(sIx items.size items.size hi - sIx items.size 0 lo)==items.size)=true then _ else _) _ _ s
 rw[if_neg hno,zbv1]
 first
  | exact wpAny_bind (m:=Builtin.Tuple.tupleExact _) (wpAny_newObj_type (wpAny_pure ⟨_,rfl,wpAny_pure h⟩) htake)
  | exact wpAny_bind (m:=Builtin.Tuple.tupleExact _) (wpAny_newObj_type (wpAny_bind (wpAny_pure (wpAny_pure ⟨_,rfl,wpAny_pure h⟩))) htake)
  | exact wpAny_bind (wpAny_bind (m:=Builtin.Tuple.tupleExact _) (wpAny_newObj_type (wpAny_pure (wpAny_pure ⟨_,rfl,wpAny_pure h⟩)) htake))
  | exact wpAny_bind (wpAny_bind (m:=Builtin.Tuple.tupleExact _) (wpAny_newObj_type (wpAny_pure ⟨_,rfl,wpAny_pure h⟩) htake))
end
end HT
namespace L2
open PySem PySem.Spec PyProof.Rows
abbrev TO:=St->Hp->(Option Int->Hp->Prop)->Prop
def PO (X:Cx) (e:Option Expr) (t:TO):Prop:=
 ∀ (pins:List (Addr×Obj)) (s:Shared) (σ:St) (H:Hp) (Q:Option Int->Hp->Prop),Inv X pins σ H s->t σ H Q ->
  wpAny (model X.prog X.w) X.A (evalPart e X.env) (fun u s'=>∃ o H',Inv X pins σ H' s'/\IsPart u o/\Q o H') X.xe s
def zcd0:TO:=fun _ H Q=>Q none H
theorem zaa5 {ns:List Int}:∀ {us:List Value},Vals (ns.map V.int) us->IntsAre us ns:=by
 induction ns with
 | nil=>intro us r;rw[List.map_nil] at r;cases r;exact .nil
 | cons n ns ih=>
  intro us r
  rw[zcs8] at r
  cases r with
  | cons r1 r2=>
   obtain⟨t,e⟩:=r1
   subst e
   exact .cons n t (ih r2)
section
variable {X:Cx}{e:Expr}{te:TE}{lo hi:Option Expr}{tl th:TO}{pos p2:Pos}
theorem zu9:PO X none zcd0:=by
 intro pins s σ H Q I h
 rw[evalPart_none]
 exact wpAny_pure ⟨none,H,I,.none,h⟩
def SlR (X:Cx) (r:V->Option Int->Option Int->Hp->VK->Prop):Prop:=
 ∀ (pins:List (Addr×Obj)) (s:Shared) (σ:St) (H:Hp) (x:V) (v vl vu:Value) (lo hi:Option Int) (sl:Addr) (Q:VK),Inv X pins σ H s->RelV x v->s.heap.IsSliceOf sl vl vu .none->IsPart vl lo->IsPart vu hi->r x lo hi H Q ->
  ∃ T id,typeLookup (.type T) "__getitem__"=pure (some (.builtin id))/\s.TypeIs v T/\wpAny (model X.prog X.w) X.A (getItem v (.ref sl)) (EP X pins σ Q) X.xe s
def tSl (r:V->Option Int->Option Int->Hp->VK->Prop) (te:TE) (tl th:TO):TE:=fun σ H Q=>te σ H fun x H1=>tl σ H1 fun l H2=>th σ H2 fun u H3=>r x l u H3 Q
theorem zr9 {r:V->Option Int->Option Int->Hp->VK->Prop}(hr:SlR X r) (he:PE X e te) (hl:PO X lo tl) (hu:PO X hi th):PE X (.Subscript e (.Slice lo hi none p2) pos) (tSl r te tl th):=by
 intro pins s σ H Q I h
 refine Subscript_ (thn (he pins s σ H _ I h) fun v s1 ⟨x,H1,I1,r1,q1⟩=>?_)
 refine wpAny_Slice (thn (hl pins s1 σ H1 _ I1 q1) fun vl s2 ⟨l,H2,I2,pl,q2⟩=>thn (hu pins s2 σ H2 _ I2 q2) fun vu s3 ⟨u,H3,I3,pu,q3⟩=>?_)
 rw[evalPart_none]
 refine wpAny_pure ?_
 have I4:Inv X pins σ H3 { s3 with heap:=s3.heap.push { cls:=.type "slice",data:=.fields #[vl,vu,.none] } }:=I3.kept (t':=s3.toks) fun b ob q=>zcq9 _ q
 obtain⟨T,id,hT,ht,hg⟩:=hr pins { s3 with heap:=s3.heap.push { cls:=.type "slice",data:=.fields #[vl,vu,.none] } } σ H3 x v vl vu l u s3.heap.objs.size Q I4 r1 (Heap.IsSliceOf.new ..) pl pu q3
 show wpAny (model X.prog X.w) X.A (subscriptTail e (.Slice lo hi none p2) v (.ref s3.heap.objs.size)) (EP X pins σ Q) X.xe { s3 with heap:=s3.heap.push { cls:=.type "slice",data:=.fields #[vl,vu,.none] } }
 exact tail_any (ops:=[.ref s3.heap.objs.size,v]) ht hT hg (by with_unfolding_all rfl)
def cutV (xs:List V) (lo hi:Option Int):List V:=(xs.drop (HT.sIx xs.length 0 lo)).take (HT.sIx xs.length xs.length hi - HT.sIx xs.length 0 lo)
theorem zae3 (xs:List V) (lo hi:Option Int):(cutV xs lo hi).length<=xs.length:=by
 unfold cutV
 rw[zcw0,zcw1]
 omega
def rSlT (K:zcq5):V->Option Int->Option Int->Hp->VK->Prop:=fun x lo hi H Q=>∃ a xs,x=.ref a/\SqT K H a xs /\
 ¬ (HT.sIx xs.length 0 lo=0/\HT.sIx xs.length xs.length hi=xs.length)/\∀ p,H p=none->Q (.ref p) (upd H p (.tup (cutV xs lo hi)))
theorem sl_tup:SlR X (rSlT X.K):=by
 intro pins s σ H x v vl vu lo hi sl Q I rx hs pl pu h
 obtain⟨a,xs,rfl,hx,hw,q⟩:=h
 cases rx
 obtain⟨its,r,ht,hz⟩:=I.tuple hx
 have hlen:its.toArray.size=xs.length:=by rw[zcr3];exact r.length.symm
 refine⟨"tuple",_,PyProof.Rows.slot_tuple_getitem.lookup,ht.typeIs,?_⟩
 refine HT.getItem_tuple_cut ht hs pl pu (by rw[hlen];exact hw) ?_ (by rw[hlen];exact hz)
 rw[hlen]
 refine⟨.ref s.heap.objs.size,_,I.laid (t':=s.toks) (o:=.tup (cutV xs lo hi)) (fun b ob q=>zcq9 _ q) (zcr9 _) ?_,rfl,q _ (I.hok.fresh (zcr9 _))⟩
 exact⟨zcv1 (zae3 xs lo hi) hz,_,(r.drop (HT.sIx xs.length 0 lo)).take (HT.sIx xs.length xs.length hi - HT.sIx xs.length 0 lo),IsTup.new _ _⟩
end
end L2
namespace L2
open PySem PySem.Spec PyProof.Rows
def ixN (n:Nat) (i:Int):Option Nat:=if 0<=i then (if i<n then some i.toNat else none) else if -(n:Int)<=i then some (i+n).toNat else none
def atI {α:Type}(xs:List α) (i:Int):Option α:=(ixN xs.length i).bind fun j=>xs[j]?
theorem zbl6 {n:Nat}{i:Int}{j:Nat}(h:ixN n i=some j):seqIndex? i n=some j/\j<n/\-(n:Int)<=i/\i<n:=by
 unfold ixN at h
 by_cases h0:0<=i
 ·rw[if_pos h0] at h
  by_cases h1:i<n
  ·rw[if_pos h1] at h
   have e:i.toNat=j:=Option.some.inj h
   exact⟨by rw[seqIndex_of h0 h1,e],by omega,by omega,h1⟩
  ·rw[if_neg h1] at h;cases h
 ·rw[if_neg h0] at h
  by_cases h1:-(n:Int)<=i
  ·rw[if_pos h1] at h
   have e:(i+n).toNat=j:=Option.some.inj h
   exact⟨by rw[seqIndex_neg (by omega) h1,e],by omega,h1,by omega⟩
  ·rw[if_neg h1] at h;cases h
theorem zao3 {α:Type}{xs:List α}{i:Int}{v:α}(h:atI xs i=some v):∃ j,seqIndex? i xs.length=some j/\xs[j]?=some v/\j<xs.length/\-(xs.length:Int)<=i/\i<xs.length:=by
 unfold atI at h
 cases e:ixN xs.length i with
 | none=>rw[e] at h;cases h
 | some j=>
  rw[e] at h
  obtain⟨h1,h2,h3,h4⟩:=zbl6 e
  exact⟨j,h1,h,h2,h3,h4⟩
theorem zc5 {α:Type}{xs:List α}{j:Nat}{v:α}(h:xs[j]?=some v):atI xs (j:Int)=some v:=by
 have hj:j<xs.length:=(zcq6.mp h).1
 have e:ixN xs.length (j:Int)=some j:=by
  unfold ixN
  rw[if_pos (by omega),if_pos (by omega)];simp
 unfold atI;rw[e];exact h
def zba8 (b:Expr):Prop:=∀ o i,subscripted b false o i=operate [o,i] (getItem o i)
def IxR (X:Cx) (r:R2):Prop:=
 ∀ (value slice:Expr) (pins:List (Addr×Obj)) (s:Shared) (σ:St) (H:Hp) (x y:V) (v u:Value) (Q:VK),Inv X pins σ H s->RelV x v->RelV y u->r x y H Q ->
  subscripted slice false v u=operate [v,u] (getItem v u)->wpAny (model X.prog X.w) X.A (subscriptTail value slice v u) (EP X pins σ Q) X.xe s
def MtR (X:Cx) (id:String) (r:V->List V->Hp->VK->Prop):Prop:=
 ∀ (pins:List (Addr×Obj)) (s:Shared) (σ:St) (H:Hp) (x:V) (xs:List V) (v:Value) (us:List Value) (Q:VK),Inv X pins σ H s->RelV x v->Vals xs us->r x xs H Q ->
  wpAny (model X.prog X.w) X.A (call (.builtin id) (v :: us)) (EP X pins σ Q) X.xe s
section
variable {X:Cx}{a b:Expr}{ta tb:TE}{pos:Pos}
theorem pe_ix {r:R2}(hr:IxR X r) (ha:PE X a ta) (hb:PE X b tb) (hs:zba8 b):PE X (.Subscript a b pos) (tOp r ta tb):=by
 intro pins s σ H Q I h
 exact Subscript_ (binT ha hb I h fun v u s2 x y H2 I2 rx ry q=>hr a b pins s2 σ H2 x y v u Q I2 rx ry q (hs _ _))
def rIxL (K:zcq5):R2:=fun x y H Q=>∃ p xs i v,x=.ref p/\y=.int i/\SqL K H p xs/\atI xs i=some v/\Q v H
def rIxT (K:zcq5):R2:=fun x y H Q=>∃ p xs i v,x=.ref p/\y=.int i/\SqT K H p xs/\atI xs i=some v/\Q v H
def rIxS:R2:=fun x y H Q=>∃ z i c,x=.str z/\y=.int i/\z.length<=sizeLine/\atI z.cps.toList i=some c/\Q (.str ⟨#[c]⟩) H
theorem zcd5:IxR X (rIxL X.K):=by
 intro value slice pins s σ H x y v u Q I rx ry h hs
 obtain⟨p,xs,i,z,rfl,rfl,hq,he,q⟩:=h
 cases rx
 obtain⟨t,rfl⟩:=ry
 obtain⟨its,r,pl,hz⟩:=I.list hq
 obtain⟨j,h1,h2,h3,h4,h5⟩:=zao3 he
 obtain⟨w,ew,rw'⟩:=r.get h2
 have hl:=r.length
 have hn:=zab1
 have fin:EP X pins σ Q w s:=⟨z,H,I,rw',q⟩
 by_cases h0:0<=i
 ·have hj:i.toNat=j:=by
   rw[seqIndex_of h0 h5] at h1
   exact Option.some.inj h1
  exact item_listR pl.isList h0 (by omega) (by rw[hj];simpa using ew) fin hs
 ·have hj:(i+(its.toArray.size:Int)).toNat=j:=by
   rw[seqIndex_neg (by omega) h4] at h1
   rw[zcr3,← hl]
   exact Option.some.inj h1
  exact subscriptTail_builtinR (x:=w) pl.isList.typeIs slot_list_getitem.lookup
   (wpAny_getItem_list_neg (Q:=fun r s'=>r=w/\EP X pins σ Q r s') pl.isList (by omega) (by rw[zcr3]<;>omega) (by omega) (by rw[hj];simpa using ew) ⟨rfl,fin⟩) hs
theorem ix_tup:IxR X (rIxT X.K):=by
 intro value slice pins s σ H x y v u Q I rx ry h hs
 obtain⟨p,xs,i,z,rfl,rfl,hq,he,q⟩:=h
 cases rx
 obtain⟨t,rfl⟩:=ry
 obtain⟨its,r,pl,hz⟩:=I.tuple hq
 obtain⟨j,h1,h2,h3,h4,h5⟩:=zao3 he
 obtain⟨w,ew,rw'⟩:=r.get h2
 have hl:=r.length
 have hn:=zab1
 have fin:EP X pins σ Q w s:=⟨z,H,I,rw',q⟩
 exact subscriptTail_builtinR (x:=w) pl.typeIs slot_tuple_getitem.lookup
  (getItem_tuple (j:=j) (Q:=fun r s'=>r=w/\EP X pins σ Q r s') pl (by omega) (by omega) (by rw[zcr3,← hl];exact h1) (by simpa using ew) ⟨rfl,fin⟩) hs
theorem ix_str:IxR X rIxS:=by
 intro value slice pins s σ H x y v u Q I rx ry h hs
 obtain⟨z,i,c,rfl,rfl,hz,he,q⟩:=h
 obtain⟨t,rfl⟩:=rx
 obtain⟨t',rfl⟩:=ry
 obtain⟨j,h1,h2,h3,h4,h5⟩:=zao3 he
 have hl:z.cps.toList.length=z.length:=by simp[Str.length]
 rw[hl] at h1 h4 h5
 have hn:=zab1
 exact tail_any (typeIs_str s z t) slot_str_getitem.lookup (getItem_str (c:=c) (by
  have e1:decide (i < -(2 ^ 63:Int))=false:=decide_eq_false (by omega)
  have e2:decide (i≥2 ^ 63)=false:=decide_eq_false (by omega)
  rw[e1,e2,Bool.or_false]) (by rw[h1];simpa using h2) ⟨.str ⟨#[c]⟩,H,I.tok _,⟨_,rfl⟩,q⟩) hs
theorem zbg7 (its:List Value) (n j:Nat) (u:Value):Obj.mapSeq (·.setIfInBounds j u) { cls:=.type "list",data:=.seq its.toArray n }={ cls:=.type "list",data:=.seq (its.set j u).toArray n }:=by
 simp[Obj.mapSeq]
theorem Inv.lst {pins:List (Addr×Obj)}{σ:St}{H:Hp}{s:Shared}{p:Addr}{xs:List V}(I:Inv X pins σ H s) (h:H p=some (.lst xs)) :
  ∃ (its:List Value) (n:Nat),Vals xs its/\s.heap.get? p=some { cls:=.type "list",data:=.seq its.toArray n }/\xs.length<=sizeLine:=by
 obtain⟨z,its,n,r,e⟩:=I.hok p _ h
 exact⟨its,n,r,e,z⟩
theorem Inv.lstUpd {pins:List (Addr×Obj)}{σ:St}{H:Hp}{s:Shared}{p:Addr}{xs ys:List V}{its its':List Value}{n n':Nat}{f:Obj->Obj}(I:Inv X pins σ H s) (h:H p=some (.lst xs))
  (ho:s.heap.get? p=some { cls:=.type "list",data:=.seq its.toArray n }) (hf:f { cls:=.type "list",data:=.seq its.toArray n }={ cls:=.type "list",data:=.seq its'.toArray n' }) (r:Vals ys its') (hz:ys.length<=sizeLine) (t:Nat) :
  Inv X pins σ (upd H p (.lst ys)) { s with heap:=s.heap.update p f,toks:=t }:=by
 have e:(s.heap.update p f).get? p=some { cls:=.type "list",data:=.seq its'.toArray n' }:=by
  rw[zcv2 f ho (by rw[hf]<;>rfl),hf]
 refine I.write (x:=p) (e:=p) (by rw[h];trivial) (.inl rfl) (fun b u hb q=>(zct3 _ _ (Ne.symm hb)).trans q) ⟨_,e⟩ ?_
 exact⟨hz,its',n',r,e⟩
def rSetL:V->V->V->Hp->(Hp->Prop)->Prop:=fun o i v H Q=>∃ p xs k j,o=.ref p/\i=.int k/\H p=some (.lst xs)/\ixN xs.length k=some j/\Q (upd H p (.lst (xs.set j v)))
theorem zbv7:PSet X rSetL:=by
 intro pins s σ H o i v ov iv u Q I ro ri rv h
 obtain⟨p,xs,k,j,rfl,rfl,hp,hj,q⟩:=h
 cases ro
 obtain⟨t,rfl⟩:=ri
 obtain⟨its,n,r,ho,hz⟩:=I.lst hp
 obtain⟨h1,h2,h3,h4⟩:=zbl6 hj
 have hl:=r.length
 have hn:=zab1
 have I':Inv X pins σ (upd H p (.lst (xs.set j v))) { s with heap:=s.heap.update p (Obj.mapSeq (·.setIfInBounds j u)) }:=
  I.lstUpd hp ho (zbg7 its n j u) (r.set rv j) (by rw[List.length_set];exact hz) s.toks
 by_cases h0:0<=k
 ·have hk:k.toNat=j:=by
   rw[seqIndex_of h0 h4] at h1
   exact Option.some.inj h1
  exact PySem.W.ki_setAt ho h0 (by omega) (by rw[zcr3,← hl];exact h4) (by rw[hk];exact⟨_,I',q⟩)
 ·have hk:(k+(its.toArray.size:Int)).toNat=j:=by
   rw[seqIndex_neg (by omega) h3] at h1
   rw[zcr3,← hl]
   exact Option.some.inj h1
  exact PySem.W.ki_setBack ho (by omega) (by rw[zcr3,← hl];exact h3) (by omega) (by rw[hk];exact⟨_,I',q⟩)
theorem zas5 (lo hi:Option Int) (n:Nat):(sliceBounds lo hi none n).1=((HT.sIx n 0 lo:Nat):Int)/\(sliceBounds lo hi none n).2.1=((HT.sIx n n hi:Nat):Int)/\(sliceBounds lo hi none n).2.2=1:=by
 refine⟨?_,?_,rfl⟩
 ·cases lo with
  | none=>simp[sliceBounds,HT.sIx]
  | some i=>
   simp only[sliceBounds,HT.sIx,Option.getD_none,show (1:Int)>0 by decide,if_true]
   by_cases h:i<0
   ·simp only[h,if_true]<;>omega
   ·simp only[h,if_false]<;>omega
 ·cases hi with
  | none=>simp[sliceBounds,HT.sIx]
  | some i=>
   simp only[sliceBounds,HT.sIx,Option.getD_none,show (1:Int)>0 by decide,if_true]
   by_cases h:i<0
   ·simp only[h,if_true]<;>omega
   ·simp only[h,if_false]<;>omega
theorem zap7 (its:List Value) (lo hi:Option Int):slicePick its.toArray lo hi none=((its.drop (HT.sIx its.length 0 lo)).take (HT.sIx its.length its.length hi - HT.sIx its.length 0 lo)).toArray:=by
 obtain⟨h1,h2,h3⟩:=zas5 lo hi its.toArray.size
 unfold slicePick
 rw[h1,h2,h3]
 simp only[sliceRange_one,pick_run,zcr3]<;>rfl
def rSlL (K:zcq5):V->Option Int->Option Int->Hp->VK->Prop:=fun x lo hi H Q=>∃ a xs,x=.ref a/\SqL K H a xs/\∀ p,H p=none->Q (.ref p) (upd H p (.lst (cutV xs lo hi)))
theorem zci2:SlR X (rSlL X.K):=by
 intro pins s σ H x v vl vu lo hi sl Q I rx hs pl pu h
 obtain⟨a,xs,rfl,hx,q⟩:=h
 cases rx
 obtain⟨its,r,ht,hz⟩:=I.list hx
 have hlen:=r.length
 refine⟨"list",_,slot_list_getitem.lookup,ht.isList.typeIs,?_⟩
 refine wpAny_getItem_list_slice ht.isList hs pl pu .none (by simp) ?_ (by rw[zcr3]<;>omega)
 rw[zap7,← hlen]
 refine⟨.ref s.heap.objs.size,_,I.laid (t':=s.toks) (o:=.lst (cutV xs lo hi)) (fun b ob q=>zcq9 _ q) (zcr9 _) ?_,rfl,q _ (I.hok.fresh (zcr9 _))⟩
 exact⟨zcv1 (zae3 xs lo hi) hz,_,0,(r.drop (HT.sIx xs.length 0 lo)).take (HT.sIx xs.length xs.length hi - HT.sIx xs.length 0 lo),zcs4 _ rfl⟩
def zx4:V->Bool
 | .non=>true
 | .bl _=>true
 | .int _=>true
 | .str _=>true
 | _=>false
def eqV:V->V->Bool
 | .non,.non=>true
 | .bl a,.bl b=>a==b
 | .bl a,.int b=>(if a then 1 else 0)==b
 | .int a,.bl b=>a==(if b then 1 else 0)
 | .int a,.int b=>a==b
 | .str a,.str b=>a==b
 | _,_=>false
theorem zbk6 {A:Around}{s:Shared}{y x:V}{u v:Value}(ry:RelV y u) (rx:RelV x v) (fy:zx4 y=true) (fx:zx4 x=true):SeqAt.EqAt A s u v (eqV y x):=by
 cases y with
 | non=>
  cases ry
  cases x with
  | non=>cases rx;exact SeqAt.EqAt.same _
  | bl b=>cases rx;exact SeqAt.EqAt.none_bool b
  | int b=>obtain⟨t,rfl⟩:=rx;exact SeqAt.EqAt.none_int b t
  | str b=>obtain⟨t,rfl⟩:=rx;exact SeqAt.EqAt.none_str b t
  | _=>exact absurd (show false=true from fx) zcr2
 | bl a=>
  cases ry
  cases x with
  | non=>cases rx;exact SeqAt.EqAt.bool_none a
  | bl b=>cases rx;exact SeqAt.EqAt.bool_bool a b
  | int b=>obtain⟨t,rfl⟩:=rx;exact SeqAt.EqAt.bool_int a b t
  | str b=>obtain⟨t,rfl⟩:=rx;exact SeqAt.EqAt.bool_str a b t
  | _=>exact absurd (show false=true from fx) zcr2
 | int a=>
  obtain⟨t',rfl⟩:=ry
  cases x with
  | non=>cases rx;exact SeqAt.EqAt.int_none a t'
  | bl b=>cases rx;exact SeqAt.EqAt.int_bool a t' b
  | int b=>obtain⟨t,rfl⟩:=rx;exact SeqAt.EqAt.int_int a t' b t
  | str b=>obtain⟨t,rfl⟩:=rx;exact SeqAt.EqAt.int_str a t' b t
  | _=>exact absurd (show false=true from fx) zcr2
 | str a=>
  obtain⟨t',rfl⟩:=ry
  cases x with
  | non=>cases rx;exact SeqAt.EqAt.str_none a t'
  | bl b=>cases rx;exact SeqAt.EqAt.str_bool a t' b
  | int b=>obtain⟨t,rfl⟩:=rx;exact SeqAt.EqAt.str_int a t' b t
  | str b=>obtain⟨t,rfl⟩:=rx;exact SeqAt.EqAt.str_str a t' b t
  | _=>exact absurd (show false=true from fx) zcr2
 | _=>exact absurd (show false=true from fy) zcr2
def eqU (x:V) (u:Value):Bool:=match u with
 | .none=>eqV .non x
 | .bool b=>eqV (.bl b) x
 | .int i _=>eqV (.int i) x
 | .str z _=>eqV (.str z) x
 | _=>false
theorem zcb7 {x y:V}{u:Value}(r:RelV y u) (f:zx4 y=true):eqU x u=eqV y x:=by
 cases y with
 | non=>cases r;rfl
 | bl b=>cases r;rfl
 | int i=>obtain⟨t,rfl⟩:=r;rfl
 | str z=>obtain⟨t,rfl⟩:=r;rfl
 | _=>exact absurd (show false=true from f) zcr2
theorem zaz0 {x:V}:∀ {xs:List V}{us:List Value},Vals xs us->xs.all zx4=true->us.any (eqU x)=xs.any fun y=>eqV y x
 | _,_,.nil,_=>rfl
 | y :: xs,u :: us,.cons r t,f=>by
  rw[List.all_cons,zcs9] at f
  rw[List.any_cons,List.any_cons,zcb7 r f.1,zaz0 t f.2]
theorem zap2 {A:Around}{s:Shared}{x:V}{v:Value}(rx:RelV x v) (fx:zx4 x=true):∀ {xs:List V}{us:List Value},Vals xs us->xs.all zx4=true->∀ u∈us,SeqAt.EqAt A s u v (eqU x u)
 | _,_,.nil,_=>fun u hu=>by cases hu
 | y :: xs,u :: us,.cons r t,f=>fun u' hu=>by
  rw[List.all_cons,zcs9] at f
  rcases zcs2.mp hu with rfl|hu
  ·rw[zcb7 r f.1];exact zbk6 r rx f.1 fx
  ·exact zap2 rx fx t f.2 u' hu
def inV (x:V) (xs:List V):Bool:=xs.any fun y=>eqV y x
def rIn (K:zcq5) (neg:Bool):R2:=fun x y H Q=>∃ p xs,y=.ref p/\(SqL K H p xs∨SqT K H p xs)/\zx4 x=true/\xs.all zx4=true/\Q (.bl (if neg then !inV x xs else inV x xs)) H
theorem zar1:OpR X (compareOp .NotIn) (rIn X.K true):=by
 intro pins s σ H x y v u Q I rx ry h
 obtain⟨p,xs,rfl,hq,fx,fs,q⟩:=h
 cases ry
 rcases hq with hq|hq
 ·obtain⟨its,r,pl,hz⟩:=I.list hq
  refine SeqAt.notIn_listAt (eqU x) pl.isList (fun w hw=>zap2 rx fx r fs w (by simpa using hw)) ⟨.bl _,H,I,rfl,?_⟩
  rw[show its.toArray.any (eqU x)=its.any (eqU x) by simp,zaz0 r fs]
  exact q
 ·obtain⟨its,r,pl,hz⟩:=I.tuple hq
  refine SeqAt.notIn_tupleAt (eqU x) pl (fun w hw=>zap2 rx fx r fs w (by simpa using hw)) ⟨.bl _,H,I,rfl,?_⟩
  rw[show its.toArray.any (eqU x)=its.any (eqU x) by simp,zaz0 r fs]
  exact q
theorem zaq2:zp7 X (.builtin "len") (fun xs H Q=>∃ p ys,xs=[.ref p]/\(SqL X.K H p ys∨SqT X.K H p ys)/\Q (.int ys.length) H):=by
 intro pins s σ H xs us Q I r h
 obtain⟨p,ys,rfl,hq,q⟩:=h
 obtain⟨u,rfl,rx⟩:=zac3 r
 cases rx
 have hn:=zab1
 rcases hq with hq|hq
 ·obtain⟨its,r',pl,hz⟩:=I.list hq
  have hlen:=r'.length
  exact Calls.call_len_list pl.isList (by simp only[zcr3]<;>omega) ⟨.int ys.length,H,I.tok _,⟨s.toks+1,by rw[zcr3,hlen]⟩,q⟩
 ·obtain⟨its,r',pl,hz⟩:=I.tuple hq
  have hlen:=r'.length
  exact len_tuple pl (by simp only[zcr3]<;>omega) ⟨.int ys.length,H,I.tok _,⟨s.toks+1,by rw[zcr3,hlen]⟩,q⟩
theorem zav3:zp7 X (.builtin "len") (fun xs H Q=>∃ z,xs=[.str z]/\z.length<=sizeLine/\Q (.int z.length) H):=by
 intro pins s σ H xs us Q I r h
 obtain⟨z,rfl,hz,q⟩:=h
 obtain⟨u,rfl,t,rfl⟩:=zac3 r
 have hn:=zab1
 exact len_str (by omega) ⟨.int z.length,H,I.tok _,⟨_,rfl⟩,q⟩
theorem zar5:zp7 X (.type "list") (fun xs H Q=>∃ p ys,xs=[.ref p]/\(SqL X.K H p ys∨SqT X.K H p ys)/\∀ l,H l=none->Q (.ref l) (upd H l (.lst ys))):=by
 intro pins s σ H xs us Q I r h
 obtain⟨p,ys,rfl,hq,q⟩:=h
 obtain⟨u,rfl,rx⟩:=zac3 r
 cases rx
 have fin:∀ (its:List Value),Vals ys its->ys.length<=sizeLine->∀ (h':Heap) (c':Nat),(∀ b o',s.heap.get? b=some o'->h'.get? b=some o') ->
   h'.get? s.heap.objs.size=some { cls:=.type "list",dict:=none,data:=.seq its.toArray c',slots:=#[] }->EP X pins σ Q (.ref s.heap.objs.size) { s with heap:=h' }:=fun its r' hz h' c' kp e=>
  ⟨.ref s.heap.objs.size,_,I.laid (t':=s.toks) kp (zcr9 _) (show zi2 X.prog X.w _ h' _ (.lst ys) from ⟨hz,its,c',r',e⟩),rfl,q _ (I.hok.fresh (zcr9 _))⟩
 rcases hq with hq|hq
 ·obtain⟨its,r',pl,hz⟩:=I.list hq
  have hlen:=r'.length
  obtain⟨o,ho,hc,n,hd⟩:=pl.isList
  exact call_list_seq p (.inl rfl) ho hc hd (fun h' c' kp e=>fin its r' hz h' c' kp e) (by simp only[zcr3]<;>omega)
 ·obtain⟨its,r',pl,hz⟩:=I.tuple hq
  have hlen:=r'.length
  obtain⟨o,ho,hc,n,hd⟩:=pl
  exact call_list_seq p (.inr rfl) ho hc hd (fun h' c' kp e=>fin its r' hz h' c' kp e) (by simp only[zcr3]<;>omega)
def tyV (K:zcq5) (T:String) (x:V) (H:Hp):Prop:=match x with
 | .str _=>T="str"
 | .int _=>T="int"
 | .ref p=>(T="list"/\∃ xs,SqL K H p xs)∨(T="tuple"/\∃ o,K.lookup p=some o/\o.cls=.type "tuple"/\o.dict=none) ∨
   (T="dict"/\((∃ kvs,H p=some (.dK kvs))∨∃ kvs,H p=some (.dT kvs)))∨(T="set"/\∃ S n,H p=some (.set S n))
 | _=>False
theorem tyV_is {pins:List (Addr×Obj)}{σ:St}{H:Hp}{s:Shared}{T:String}{x:V}{v:Value}(I:Inv X pins σ H s) (r:RelV x v) (ty:tyV X.K T x H) :
  s.TypeIs v T/\∀ a,v=.ref a->∃ ob,s.heap.get? a=some ob/\ob.dict=none:=by
 cases x with
 | str z=>
  obtain⟨t,rfl⟩:=r
  cases (show T="str" from ty)
  exact⟨typeIs_str s z t,fun _ e=>nomatch e⟩
 | int i=>
  obtain⟨t,rfl⟩:=r
  cases (show T="int" from ty)
  exact⟨typeIs_int s i t,fun _ e=>nomatch e⟩
 | ref p=>
  cases r
  rcases ty with ⟨rfl,xs,hq⟩|⟨rfl,o,hk,hc,hd⟩|⟨rfl,hk⟩|⟨rfl,S,n,hk⟩
  ·obtain⟨its,_,pl,_⟩:=I.list hq
   refine⟨pl.isList.typeIs,fun a e=>?_⟩
   cases e
   obtain⟨o,n,e,c,hd,_⟩:=pl
   exact⟨o,e,hd⟩
  ·refine⟨⟨o,I.kIn p o hk,hc⟩,fun a e=>?_⟩
   cases e
   exact⟨o,I.kIn _ o hk,hd⟩
  ·have z:∃ o,s.heap.get? p=some o/\o.ExactDict:=by
    rcases hk with ⟨kvs,hk⟩|⟨kvs,hk⟩
    ·obtain⟨_,_,_,_,o,_,_,e,ex,_⟩:=I.hok p _ hk
     exact⟨o,e,ex⟩
    ·obtain⟨_,_,_,_,o,_,_,e,ex,_⟩:=I.hok p _ hk
     exact⟨o,e,ex⟩
   obtain⟨o,e,ex⟩:=z
   refine⟨⟨o,e,ex.1⟩,fun a e2=>?_⟩
   cases e2
   exact⟨o,e,ex.2.1⟩
  ·obtain⟨o,_,_,_,e,ex,_⟩:=I.hok p _ hk
   refine⟨⟨o,e,ex.1⟩,fun a e2=>?_⟩
   cases e2
   exact⟨o,e,ex.2.1⟩
 | _=>exact False.elim ty
variable {o e:Expr}{es:List Expr}{to:TE}{t:TA}{name:Str}{apos cpos:Pos}{T id:String}{r:V->List V->Hp->VK->Prop}
end
end L2
namespace L2
open PySem PySem.Spec PyProof.Rows
def MtM (X:Cx) (id:String) (r:V->List V->Hp->VK->Prop):Prop:=
 ∀ (pins:List (Addr×Obj)) (s:Shared) (σ:St) (H:Hp) (x:V) (xs:List V) (v:Value) (us:List Value) (Q:VK),Inv X pins σ H s->RelV x v->Vals xs us->r x xs H Q ->
  wpAny (model X.prog X.w) X.A (call (.builtin id) (v :: us)) (EP X pins σ Q) X.xe s
theorem Vals.one:∀ {x:V}{us:List Value},Vals [x] us->∃ u,us=[u]/\RelV x u
 | _,_,.cons r .nil=>⟨_,rfl,r⟩
theorem Vals.rep {xs:List V}{us:List Value}(h:Vals xs us):∀ k:Nat,Vals (List.replicate k xs).flatten (List.replicate k us).flatten
 | 0=>.nil
 | k+1=>by
  rw[zcy0,zcy0,List.flatten_cons,List.flatten_cons]
  exact Vals.append h (Vals.rep h k)
theorem zau8 (its:List Value):∀ (k:Nat) (acc:List Value),
  List.foldl (fun x1 x2=>x1++x2) acc.toArray (List.replicate k its.toArray)=(acc++(List.replicate k its).flatten).toArray
 | 0,acc=>by simp
 | k+1,acc=>by
  have e:acc.toArray++its.toArray=(acc++its).toArray:=by simp
  have e2:(acc++its)++(List.replicate k its).flatten=acc++(List.replicate (k+1) its).flatten:=by
   rw[zcy0,List.flatten_cons,List.append_assoc]
  rw[← e2,← zau8 its k (acc++its),← e,zcy0,List.foldl_cons]
section
variable {X:Cx}{pins:List (Addr×Obj)}{σ:St}{H:Hp}{s:Shared}{l b:Addr}{xs ys zs:List V}
theorem Inv.lset {its its':List Value}{n:Nat}{f:Array Value->Array Value}{t':Nat}(I:Inv X pins σ H s) (hH:H l=some (.lst xs))
  (e:s.heap.get? l=some { cls:=.type "list",data:=.seq its.toArray n }) (hf:f its.toArray=its'.toArray) (hv:Vals ys its') (hz:ys.length<=sizeLine) :
  Inv X pins σ (upd H l (.lst ys)) { s with heap:=s.heap.update l (Obj.mapSeq f),toks:=t' }:=by
 have q:=PySem.IsL.update e f
 rw[hf] at q
 refine I.write (x:=l) (e:=l) (by rw[hH];exact trivial) (.inl rfl) (fun b' u hb hu=>(zct3 s.heap (Obj.mapSeq f) (Ne.symm hb)).trans hu) ⟨_,q⟩ ?_
 exact⟨hz,its',_,hv,q⟩
theorem Inv.lnew {its:List Value}{t':Nat}(I:Inv X pins σ H s) (hv:Vals ys its) (hz:ys.length<=sizeLine) :
  Inv X pins σ (upd H s.heap.objs.size (.lst ys)) { s with heap:=s.heap.push { cls:=.type "list",data:=.seq its.toArray },toks:=t' }:=
 I.laid (fun _ _ q=>zcq9 _ q) (zcr9 _) ⟨hz,its,0,hv,zcs4 _ rfl⟩
theorem Inv.fresh (I:Inv X pins σ H s):H s.heap.objs.size=none:=I.hok.fresh (zcr9 _)
theorem Inv.lstM (I:Inv X pins σ H s) (hH:H l=some (.lst xs)):xs.length<=sizeLine/\∃ (its:List Value) (n:Nat),Vals xs its/\xs.length=its.length/\s.heap.get? l=some { cls:=.type "list",data:=.seq its.toArray n }:=by
 obtain⟨z,its,n,r,e⟩:=I.hok l _ hH
 exact⟨z,its,n,r,r.length,e⟩
theorem zbe9 {n:Nat}(h:n<=sizeLine):Builtin.List.listTooLong n=false:=by
 unfold Builtin.List.listTooLong
 exact decide_eq_false (by omega)
end
section
variable {X:Cx}
def zcc6:V->List V->Hp->VK->Prop:=fun x vs H Q=>∃ l xs y,x=.ref l/\vs=[y]/\H l=some (.lst xs)/\xs.length<sizeLine/\Q .non (upd H l (.lst (xs++[y])))
theorem zag0:MtM X "list.append" zcc6:=by
 intro pins s σ H x vs v us Q I rx rv h
 obtain⟨l,xs,y,rfl,rfl,hH,hz,q⟩:=h
 cases rx
 obtain⟨u,rfl,ru⟩:=rv.one
 obtain⟨z,its,n,r,hl,e⟩:=I.lstM hH
 refine call_meets F.slot_list_append ⟨_,e,rfl⟩ F.entry_list_append (F.args_list_append_2 _ _) (PySem.list_append l its.toArray n u (by rw[zcr3];omega)) ⟨e,?_⟩
 refine⟨.non,_,I.lset (its':=its++[u]) hH e (by simp) (r.append (.cons ru .nil)) ?_,rfl,q⟩
 rw[zcr6,zcw7]
 omega
def zcj3:V->List V->Hp->VK->Prop:=fun x vs H Q=>∃ l b xs zs,x=.ref l/\vs=[.ref b]/\H l=some (.lst xs)/\H b=some (.lst zs)/\xs.length+zs.length<=sizeLine/\Q .non (upd H l (.lst (xs++zs)))
theorem mt_extend:MtM X "list.extend" zcj3:=by
 intro pins s σ H x vs v us Q I rx rv h
 obtain⟨l,b,xs,zs,rfl,rfl,hH,hB,hz,q⟩:=h
 cases rx
 obtain⟨u,rfl,ru⟩:=rv.one
 cases ru
 obtain⟨z,its,n,r,hl,e⟩:=I.lstM hH
 obtain⟨z2,its2,n2,r2,hl2,e2⟩:=I.lstM hB
 have hsz:its.toArray.size+its2.toArray.size<=sizeLine:=by rw[zcr3,zcr3];omega
 have hlong:¬ (!its.toArray.isEmpty&&Builtin.List.listTooLong (its.toArray.size+its2.toArray.size))=true:=by
  rw[zbe9 hsz,Bool.and_false]
  exact zcr2
 refine call_meets F.slot_list_extend ⟨_,e,rfl⟩ F.entry_list_extend (F.args_list_extend_2 _ _)
  (AutoSeq1.list_extend_list_list_0 l its.toArray n b its2.toArray n2 hlong (by rw[zcr3];omega) (by omega)) ⟨e,e2,?_⟩
 refine⟨.non,_,I.lset (its':=its++its2) hH e (by simp) (r.append r2) ?_,rfl,q⟩
 rw[zcr6]
 omega
def rCat:R2:=fun x y H Q=>∃ l b xs zs,x=.ref l/\y=.ref b/\H l=some (.lst xs)/\H b=some (.lst zs)/\xs.length+zs.length<=sizeLine/\∀ p,H p=none->Q (.ref p) (upd H p (.lst (xs++zs)))
theorem op_cat:OpR X (binaryOp .Add) rCat:=by
 intro pins s σ H x y v u Q I rx ry h
 obtain⟨l,b,xs,zs,rfl,rfl,hH,hB,hz,q⟩:=h
 cases rx
 cases ry
 obtain⟨z,its,n,r,hl,e⟩:=I.lstM hH
 obtain⟨z2,its2,n2,r2,hl2,e2⟩:=I.lstM hB
 refine PySem.P.add_list e e2 ?_ (by rw[zcr3,zcr3];omega)
 have ea:its.toArray++its2.toArray=(its++its2).toArray:=by simp
 rw[ea]
 exact⟨.ref _,_,I.lnew (t':=s.toks) (r.append r2) (by rw[zcr6];omega),rfl,q _ I.fresh⟩
def rRep:R2:=fun x y H Q=>∃ l k xs,x=.ref l/\y=.int k/\H l=some (.lst xs)/\-(2 ^ 63)<=k/\k<2 ^ 63/\xs.length*k.toNat<=sizeLine /\
 ∀ p,H p=none->Q (.ref p) (upd H p (.lst (List.replicate k.toNat xs).flatten))
theorem zce8 {α:Type}(xs:List α) (k:Nat):(List.replicate k xs).flatten.length=k*xs.length:=by
 induction k with
 | zero=>simp
 | succ k ih=>rw[zcy0,List.flatten_cons,zcr6,ih,Nat.succ_mul,Nat.add_comm]
theorem op_rep:OpR X (binaryOp .Mult) rRep:=by
 intro pins s σ H x y v u Q I rx ry h
 obtain⟨l,k,xs,rfl,rfl,hH,h1,h2,hz,q⟩:=h
 cases rx
 obtain⟨t,rfl⟩:=ry
 obtain⟨z,its,n,r,hl,e⟩:=I.lstM hH
 have hlen:its.toArray.size*k.toNat<=sizeLine:=by rw[zcr3,← hl];exact hz
 have hcap:¬ its.toArray.size*k.toNat>(2 ^ 63 - 1) / 8:=by
  have:(sizeLine:Nat)<=(2 ^ 63 - 1) / 8:=by decide
  omega
 have hfit:¬ (!Builtin.List.listFitsIndex k)=true:=by
  rw[fitsIndex_both h1 h2]
  exact zcr2
 have hlong:¬ Builtin.List.listTooLong (its.toArray.size*k.toNat)=true:=by
  rw[zbe9 hlen]
  exact zcr2
 have hnew:List.foldl (fun x1 x2=>x1++x2) #[] (List.replicate (if its.toArray.isEmpty=true then 0 else k.toNat) its.toArray)=(List.replicate k.toNat its).flatten.toArray:=by
  have f0:∀ m:Nat,List.foldl (fun x1 x2=>x1++x2) #[] (List.replicate m its.toArray)=(List.replicate m its).flatten.toArray:=fun m=>by
   have:=zau8 its m []
   rw[List.nil_append] at this
   exact this
  rw[f0]
  cases its with
  | nil=>simp
  | cons a r'=>rw[if_neg (by simp)]
 refine wpAny_binaryOp_repeat_ref (T:="list") (U:="int") (by decide) ⟨_,e,rfl⟩ (fun s'=>typeIs_int s' k t) noFill_list_mul F.fills_int_mul F.slot_int_rmul repeat_list F.slot_int_index.lookup
  (call_meets F.slot_int_rmul (typeIs_int s k t) F.entry_int_rmul (F.args_int_rmul_2 _ _) (int___rmul___int_list k t l its.toArray n)
   ⟨e,rfl,⟨_,e,rfl⟩,call_meets F.slot_list_mul ⟨_,e,rfl⟩ F.entry_list_mul (F.args_list_mul_2 _ _) (AutoListH.list___mul___list_int_3 l its.toArray n k t hfit hcap hlong) ⟨e,?_⟩⟩)
 rw[hnew]
 exact⟨.ref _,_,I.lnew (t':=s.toks) (r.rep k.toNat) (by rw[zce8,Nat.mul_comm];exact hz),rfl,q _ I.fresh⟩
end
section
variable {prog:Program}{w:World}{A:Around}{E:Value->Shared->Prop}{s:Shared}
end
section
variable {X:Cx}
end
end L2
namespace Att
open PySem PySem.W PySem.Calls PyProof.Rows
theorem zaf0 {P:Params}{h:Heap}:∀ (ns:List Int) (vs:List Value),WellAll P h vs (ns.map WData.int)->IntsAre vs ns:=by
 intro ns
 induction ns with
 | nil=>
  intro vs w
  rw[List.map_nil] at w
  cases w
  exact .nil
 | cons n ns ih=>
  intro vs w
  rw[zcs8] at w
  cases w with
  | cons a b=>
   cases a
   exact .cons _ _ (ih _ b)
theorem zbm8 {l:OpenLaw}{n:Nat}(hn:l.most=some n) {P:Params}{h:Heap}{args:List WData}{vals:List Value}
  (hpre:l.row.toRowW.claim.pre args=true) (hwl:WellAll P h vals args) :
  ∃ a vs ns,vals=[Value.ref a]/\args=[WData.list (ns.map WData.int)]/\h.get? a=some { cls:=.type "list",data:=.seq vs.toArray }/\IntsAre vs ns/\ns.length<=n:=by
 have hsh:WShape.hasAll [] args [.list .int]=true:=(pre_splitW hpre).1
 have hc:l.pre.holds [] { args:=args }=true:=(pre_splitW hpre).2
 obtain⟨d,r,rfl,h1,h2⟩:=hasAllW_cons hsh
 obtain rfl:=hasAllW_nil h2
 obtain⟨xs,rfl,h3⟩:=hasW_list h1
 obtain⟨ns,rfl⟩:=items_int h3
 have hlen:ns.length<=n:=by
  unfold OpenLaw.pre at hc
  have h4:(WTm.not (.lt (.lit (.int (n:Int))) (.len (.arg 0)))).holds [] { args:=[.list (ns.map .int)] }=true:=by
   have h4:=(holds_andW hc).1
   rw[hn] at h4
   exact h4
  have h5:=condW_of h4 (w_not (w_lt w_lit (w_len_list (w_arg rfl))))
  rw[zcq3] at h5
  refine Nat.le_of_not_lt fun q=>?_
  have q':(n:Int)<((ns.length:Nat):Int):=by omega
  first
   | (rw[decide_eq_true q'] at h5;exact absurd h5 (by decide))
   | (simp at h5;omega)
 cases hwl with
 | cons w1 w2=>
  cases w2
  cases w1 with
  | list ho hall=>exact⟨_,_,ns,rfl,rfl,ho,zaf0 ns _ hall,hlen⟩
theorem zbk8 (l:OpenLaw) (args:List WData):l.row.toRowW.claim.post args (.bool true) args=true:=
 postW_of (r:=l.row.toRowW) (X:=(true==true))
  (show WShape.has [] (.bool true) .bool=true by first|rfl|decide|simp[WShape.has,WShape.arms,WShape.armsAll])
  (show (WTm.eq .res (.lit (.bool true))).value [] { args:=args,res:=some (.bool true),after:=args }=some (.bool (true==true)) from w_eq_bool (w_res rfl) w_lit) rfl
theorem attach_call {l:OpenLaw}{n:Nat}{q:Program}{loose:List Str}{XP:(Str->Option Value)->Heap->Prop}{YP:World->Heap->Prop}{d:DefRec}
  (hn:l.most=some n) (hdf:d.params.defaults=[])
  (call:∀ (w:World) (s₀ s₁:Shared) (mg mb:Str->Option Value) (fa:Addr) (o:Obj) (pm cd doc:Value) (a:Addr) (vs:List Value) (ns:List Int),
   Ground q loose [] XP w s₀ mg mb s₁.heap->YP w s₁.heap ->
   s₁.heap.get? fa=some o->o.data=.func (docDef d.name d.params d.body d.scope pm cd doc)->s₁.heap.CodeRec cd d.name->mg d.name=some (.ref fa) ->
   s₁.heap.get? a=some { cls:=.type "list",data:=.seq vs.toArray }->IntsAre vs ns->ns.length<=n->s₁.gens=#[] ->
   codeAny (model l.prog w) callerA (.call (.ref fa) ⟨[.ref a],[]⟩) (fun r s'=>r=.ok (.ret (.bool true))/\OldK s₁.heap s'.heap/\s'.os=s₁.os/\AllBare s'.gens) s₁) :
  WalkO q loose XP YP l.row.toRowW d [] (fun f vs=>PySem.call f vs):=by
 intro w s₀ s₁ mg mb G Y fa o pm cd doc dV kV ho hd hcd hD hmg hg args vals as hpre hlay hrd hwl hlo
 obtain rfl:dV=.none:=Dflts.none hD hdf
 obtain rfl:kV=.none:=Dflts.noKw hD
 obtain⟨a,vs,ns,rfl,rfl,hobj,hints,hlen⟩:=zbm8 hn hpre hwl
 refine enter_call (codeAny_mono (call w s₀ s₁ mg mb fa o pm cd doc a vs ns G Y ho (fd_plain hd) hcd hmg hobj hints hlen hg) fun r s' hq=>?_)
 obtain⟨rfl,h2,h3,h4⟩:=hq
 exact⟨.inl ⟨.bool true,.bool true,[],rfl,fun _=>rfl,.bool true,zbk8 l _,fun _=>⟨List.Pairwise.nil,fun _ hm=>(nomatch hm)⟩⟩,h2,h3,h4⟩
section
variable {prog:Program}{w:World}{A:Around}{E:Value->Shared->Prop}{s:Shared}{K:Frag}
def ledger (h:Heap) (L d:Addr):List (Addr×Obj):=(List.range h.objs.size).filterMap fun a=>if a=L∨a=d then none else (h.get? a).map fun o=>(a,o)
end
end Att
namespace L2
open PySem PySem.Spec PyProof.Rows
theorem zas9:∀ {vs:List Value}{ns:List Int},IntsAre vs ns->Vals (ns.map V.int) vs
 | _,_,.nil=>.nil
 | _,_,.cons n t h=>.cons ⟨t,rfl⟩ (zas9 h)
def Only (H:Hp):Prop:=∀ b,H b=none∨∃ o xs,H b=some (.frz o (.lst xs))
theorem zbu9 {P:Program}{w:World}{K:zcq5}{mg mb:Str->Option Value}{CX:CXT}{k:Nat}{fa a:Addr}{fd:FuncData}{x:Str}{sp:Sp}{s₁:Shared}{vs:List Value}{ns:List Int}
  (KX:K.In s₁.heap) (hns:s₁.heap.Ns mainGlobals mg) (hb:s₁.heap.Ns builtinsNs mb) (hbb:∀ x:Str,x≠"__name__"->mb x=bootBuiltins x) (hlim:s₁.heap.NoLimit) (hg:s₁.gens=#[])
  (ha:s₁.heap.get? a=some { cls:=.type "list",data:=.seq vs.toArray }) (hi:IntsAre vs ns) (hl:ns.length<=sizeLine) (hr:Room k callerA)
  (F:∀ base:Heap,K.In base->base.Ns mainGlobals mg->FnOk P w K mg base CX k fa fd [x] sp) (hbind:∀ (s:Shared) (u:Value),BindsTo s fd ⟨[u],[]⟩ [(x,u)])
  (hsp:∀ H:Hp,Only H->SqL K H a (ns.map V.int)->sp [.ref a] H (fun v _=>v=.bl true) fun _ _ _=>False)
  (hCX:∀ H e s',CX [] H s₁ (fun _ _ _=>False) e s'->False) :
  codeAny (model P w) callerA (.call (.ref fa) ⟨[.ref a],[]⟩) (fun r s'=>r=.ok (.ret (.bool true))/\OldK s₁.heap s'.heap/\s'.os=s₁.os/\AllBare s'.gens) s₁:=by
 have rv:=zas9 hi
 have lenV:=hi.length
 have core:∀ H:Hp,Only H->SqL K H a (ns.map V.int)->HOk P w H s₁.heap->(∀ b,H b≠none->b=a)->(H a≠none->K.lookup a=none) ->
   codeAny (model P w) callerA (.call (.ref fa) ⟨[.ref a],[]⟩) (fun r s'=>r=.ok (.ret (.bool true))/\OldK s₁.heap s'.heap/\s'.os=s₁.os/\AllBare s'.gens) s₁:=by
  intro H hO hS hok hA hK
  have base_of:∀ {b:Addr}{o:Obj},s₁.heap.get? b=some o->H b=none->(hidT s₁.heap H).get? b=some o:=fun e n=>zbw6 e n
  have noA:∀ {b:Addr}{o:Obj}{es:Array DictEntry}{ep:Nat},s₁.heap.get? b=some o->o.data=.dict es ep->H b=none:=fun {b o es ep} e d=>by
   cases q:H b with
   | none=>rfl
   | some u=>
    have e':b=a:=hA b (by rw[q];simp)
    subst e'
    rw[ha] at e;cases e
    have d':Data.seq vs.toArray _=Data.dict es ep:=d
    cases d'
  have nsK:∀ {b:Addr}{m:Str->Option Value},s₁.heap.Ns b m->(hidT s₁.heap H).Ns b m:=fun {b m} ⟨o,es,ep,e,d,r⟩=>⟨o,es,ep,base_of e (noA e d),d,r⟩
  have hKb:K.In (hidT s₁.heap H):=fun b o e=>base_of (KX b o e) (by
   cases q:H b with
   | none=>rfl
   | some u=>
    have e':b=a:=hA b (by rw[q];simp)
    subst e'
    rw[hK (by rw[q];simp)] at e;cases e)
  have hM:Mod K mg (hidT s₁.heap H):=⟨hKb,nsK hns,⟨mb,nsK hb,hbb⟩,let ⟨mc,h1,h2⟩:=hlim;⟨mc,nsK h1,h2⟩⟩
  have e0:Env0 P w K mg (hidT s₁.heap H) callerA [] s₁ H:=⟨rfl,hM,fun b o e=>zcf0 e,Nat.le_of_eq (zbr4 _ _),trivial,fun b hb=>absurd (show b∈([]:List Addr) from hb) (by simp),hok,.of_eq hg⟩
  refine codeAny_mono ((F _ hKb (nsK hns)).run callerA [] s₁ H ⟨[.ref a],[]⟩ [.ref a] [.ref a] _ _ hr e0 (hbind s₁ (.ref a)) (.cons rfl .nil) (hsp H hO hS)) fun r s' h=>?_
  cases r with
  | error e=>exact (hCX H e s' h).elim
  | ok fl=>
   cases fl with
   | next=>exact False.elim h
   | brk=>exact False.elim h
   | cont=>exact False.elim h
   | ret u=>
    obtain⟨v,H',os,bare,un,hok',r',q⟩:=h
    have q':v=.bl true:=q
    subst q'
    obtain rfl:u=Value.bool true:=r'
    refine⟨rfl,OldK.of_keep fun b o e=>?_,os,bare⟩
    cases q:H b with
    | none=>exact un.keep b o e q (by intro z;exact absurd (show b∈([]:List Addr) from z) (by simp)) (by simp)
    | some u=>
     rcases hO b with z|⟨ob,xs,z⟩
     ·rw[q] at z;cases z
     ·have z2:=un.frzs b ob _ z
      obtain⟨e1,_⟩:=hok b _ z
      obtain⟨e2,_⟩:=hok' b _ z2
      rw[e] at e1;cases e1
      exact e2
 cases hk:K.lookup a with
 | some o=>
  have e:=KX a o hk
  rw[ha] at e
  cases e
  refine core (fun _=>none) (fun _=>.inl rfl) (.inr ⟨_,vs.toArray,_,hk,rfl,rfl,rfl,by rw[zcr3,lenV];exact hl,by simpa using rv⟩) (fun b u z=>by have z':(none:Option HO)=some u:=z;cases z') (fun b z=>absurd rfl z) fun z=>absurd rfl z
 | none=>
  refine core (fun b=>if b=a then some (.frz { cls:=.type "list",data:=.seq vs.toArray } (.lst (ns.map V.int))) else none) (fun b=>?_) (.inl (.inr ⟨{ cls:=.type "list",data:=.seq vs.toArray },if_pos rfl⟩)) (fun b u z=>?_) (fun b z=>?_) fun _=>hk
  ·by_cases hb:b=a
   ·exact .inr ⟨_,_,if_pos hb⟩
   ·exact .inl (if_neg hb)
  ·by_cases hb:b=a
   ·have z':=(if_pos hb).symm.trans z
    cases z'
    subst hb
    exact⟨ha,by rw[zcq3];exact hl,vs,_,rv,ha⟩
   ·have z':=(if_neg hb).symm.trans z
    cases z'
  ·by_cases hb:b=a
   ·exact hb
   ·exact absurd (if_neg hb) z
end L2
namespace L2
open PySem PySem.Spec PyProof.Rows
theorem walk_of {l:PySem.W.OpenLaw}{n k:Nat}{q:Program}{loose:List Str}{XP:(Str->Option Value)->Heap->Prop}{YP:World->Heap->Prop}{d:DefRec}{K:Params->zcq5}{CX:World->CXT}{sp:World->Sp}{x:Str}
  (hn:l.most=some n) (hn2:n<=sizeLine) (hdf:d.params.defaults=[]) (hr:Room k callerA)
  (hY:∀ (w:World) (h:Heap),YP w h->(K w.params).In h)
  (F:∀ (w:World) (mg:Str->Option Value) (fa:Addr) (h:Heap),(K w.params).In h->h.Ns mainGlobals mg->mg d.name=some (.ref fa) ->
   ∃ fd:FuncData,(∀ (s:Shared) (u:Value),BindsTo s fd ⟨[u],[]⟩ [(x,u)]) /\
    ∀ base:Heap,(K w.params).In base->base.Ns mainGlobals mg->FnOk l.prog w (K w.params) mg base (CX w) k fa fd [x] (sp w))
  (hsp:∀ (w:World) (H:Hp) (a:Addr) (ns:List Int),ns.length<=n->Only H->SqL (K w.params) H a (ns.map V.int)->sp w [.ref a] H (fun v _=>v=.bl true) fun _ _ _=>False)
  (hCX:∀ (w:World) (H:Hp) (s:Shared) (e:Value) (s':Shared),CX w [] H s (fun _ _ _=>False) e s'->False) :
  PySem.W.WalkO q loose XP YP l.row.toRowW d [] (fun f vs=>PySem.call f vs):=by
 refine Att.attach_call hn hdf fun w s₀ s₁ mg mb fa o pm cd doc a vs ns G Y ho hd hcd hmg hobj hints hlen hg=>?_
 have KX:=hY w _ Y
 obtain⟨fd,hb,hF⟩:=F w mg fa _ KX G.T.g hmg
 exact zbu9 KX G.T.g G.T.b G.T.builtins G.T.nolimit hg hobj hints (zcv1 hlen hn2) hr hF hb (fun H hO hS=>hsp w H a ns hlen hO hS) fun H e s'=>hCX w H s₁ e s'
end L2
namespace L2
open PySem PySem.Spec PyProof.Rows
def zci0 (s:Stmt) (j:Nat):Stmt:=match s with
 | .ClassDef _ _ _ body _ _ _ _ _ _ _=>body.getD j (.Pass ⟨0,0,0,0⟩)
 | _=>.Pass ⟨0,0,0,0⟩
def zb1 (s:Stmt):Arguments:=match s with
 | .FunctionDef _ a _ _ _ _ _ _ _ _=>a
 | _=>{ posonlyargs:=[],args:=[],vararg:=none,kwonlyargs:=[],kw_defaults:=[],kwarg:=none,defaults:=[] }
def za9 (s:Stmt):List Stmt:=match s with
 | .FunctionDef _ _ b _ _ _ _ _ _ _=>b
 | _=>[]
def za3 (s:Stmt):Scope:=match s with
 | .FunctionDef _ _ _ _ _ _ sc _ _ _=>sc
 | _=>{ kind:=.function,names:=[],isGenerator:=false,isCoroutine:=false }
abbrev CX0:CXT:=fun _ _ _ _ _ _=>False
abbrev E0:XK:=fun _ _ _=>False
theorem zb7 {X:Cx}:zaw2 CX0 X E0:=fun _ _ _ _ _ _ _ h=>h.elim
structure Fun (K:zcq5) (x qual:Str) (st:Stmt) (f:Addr) (fd:FuncData):Prop where
 ex:∃ (oc:Value) (od:Option Addr) (kV doc pm:Value) (an:Option Addr) (cdv ct:Value) (osl:Array (Option Value)),
  fd=zcs1 x qual (zb1 st) (za9 st) (za3 st) .none kV doc pm an cdv ct/\K.lookup f=some ⟨oc,od,.func fd,osl⟩/\zcr7 K cdv qual=true
 kp:zcr5 K (.ref f)=true
section
variable {P:Program}{w:World}{K:zcq5}{mg:Str->Option Value}{base:Heap}
theorem Fun.ok {x qual:Str}{st:Stmt}{f:Addr}{fd:FuncData}{N ps:List Str}{k:Nat}{sp:Sp}(F:Fun K x qual st f fd) (S:zb3 N ps (za3 st)) (len:∀ vs H Q E,sp vs H Q E->vs.length=ps.length)
  (hbody:∀ (cdv:Value) (A:Around) (outer:List Env) (s:Shared) (H:Hp) (vs:List V) (Q:VK) (E:XK),Room k (A.deeper (envOfC qual (za3 st) s.heap.objs.size f cdv))->sp vs H Q E ->
   ∃ t,PSs (cxOf CX0 P w K mg base N qual (za3 st) f cdv A outer s H E).nox (za9 st) t/\t { nx:=fun _ H'=>Q .non H',rt:=Q } (zan3 N vs) H):FnOk P w K mg base CX0 (k+1) f fd ps sp:=by
 obtain⟨oc,od,kV,doc,pm,an,cdv,ct,osl,rfl,lk,hcd⟩:=F.ex
 refine fn_of lk hcd S len fun A outer s H vs Q E hr hsp=>?_
 obtain⟨t,h,q⟩:=hbody cdv A outer s H vs Q E hr hsp
 exact⟨t,h.nox,q⟩
theorem Fun.binds {x qual:Str}{st:Stmt}{f:Addr}{fd:FuncData}{ps:List Str}(F:Fun K x qual st f fd)
  (h:∀ (kV doc pm:Value) (an:Option Addr) (cdv ct:Value) (us:List Value),us.length=ps.length->bindArgs (zcs1 x qual (zb1 st) (za9 st) (za3 st) .none kV doc pm an cdv ct) ⟨us,[]⟩=pure (ps.zip us)):zai2 K fd ps []:=by
 obtain⟨oc,od,kV,doc,pm,an,cdv,ct,osl,rfl,lk,hcd⟩:=F.ex
 exact .all (h kV doc pm an cdv ct)
theorem zb9 {x qual:Str}{st:Stmt}{f:Addr}{oc:Value}{od an:Option Addr}{osl:Array (Option Value)}{kV doc pm cdv ct:Value}(l:K.lookup f=some ⟨oc,od,.func (zcs1 x qual (zb1 st) (za9 st) (za3 st) .none kV doc pm an cdv ct),osl⟩)
  (c:zcr7 K cdv qual=true) (k:zcr5 K (.ref f)=true):Fun K x qual st f (zcs1 x qual (zb1 st) (za9 st) (za3 st) .none kV doc pm an cdv ct):=⟨⟨oc,od,kV,doc,pm,an,cdv,ct,osl,rfl,l,c⟩,k⟩
end
section
variable {X:Cx}
end
theorem iteF {A B:Prop}(h:B):if false=true then A else B:=by
 rw[if_neg zcr2]
 exact h
theorem iteT {A B:Prop}(h:A):if true=true then A else B:=by
 rw[if_pos rfl]
 exact h
theorem ite2 {c A B:Prop}[Decidable c] (h1:c->A) (h2:¬ c->B):if c then A else B:=by
 by_cases h:c
 ·rw[if_pos h]
  exact h1 h
 ·rw[if_neg h]
  exact h2 h
def Same (H H':Hp):Prop:=∀ b o,H b=some o->H' b=some o
theorem Same.refl (H:Hp):Same H H:=fun _ _ h=>h
theorem Same.trans {H H1 H2:Hp}(a:Same H H1) (b:Same H1 H2):Same H H2:=fun c o h=>b c o (a c o h)
theorem Same.free {H H':Hp}(e:Same H H') {l:Addr}(h:H' l=Option.none):H l=Option.none:=by
 cases q:H l with
 | none=>rfl
 | some o=>
  rw[e l o q] at h
  cases h
theorem Same.seq {K:zcq5}{H H':Hp}{a:Addr}{xs:List V}(e:Same H H') (h:SqL K H a xs):SqL K H' a xs:=by
 rcases h with (h|⟨o,h⟩)|h
 ·exact .inl (.inl (e _ _ h))
 ·exact .inl (.inr ⟨o,e _ _ h⟩)
 ·exact .inr h
end L2
set_option maxHeartbeats 1000000
namespace L2
open PySem PySem.Spec PyProof.Rows
@[irreducible] def br (c:Bool) (A B:Prop):Prop:=if c=true then A else B
section
variable {A B p:Prop}{c:Bool}
theorem zab6:br c A B=(if c=true then A else B):=by unfold br;rfl
theorem br_T (h:A):br true A B:=by unfold br;exact iteT h
theorem br_F (h:B):br false A B:=by unfold br;exact iteF h
theorem br_any (h1:c=true->A) (h2:c=false->B):br c A B:=by
 cases c with
 | true=>exact br_T (h1 rfl)
 | false=>exact br_F (h2 rfl)
theorem zf5 [Decidable p] (h1:p->A) (h2:¬ p->B):br (decide p) A B:=br_any (fun h=>h1 (of_decide_eq_true h)) fun h=>h2 (of_decide_eq_false h)
theorem zt3 [Decidable p] (hp:p) (h:A):br (decide p) A B:=zf5 (fun _=>h) fun n=>absurd hp n
theorem zr8 [Decidable p] (hp:¬ p) (h:B):br (decide p) A B:=zf5 (fun n=>absurd n hp) fun _=>h
theorem zd8 (h:br c B A):br (!c) A B:=by
 cases c with
 | true=>unfold br at h ⊢;simpa using h
 | false=>unfold br at h ⊢;simpa using h
end
def Chg (a:Addr) (H H':Hp):Prop:=∀ b o,b≠a->H b=some o->H' b=some o
theorem Chg.upd {H:Hp}{a:Addr}{o:HO}:Chg a H (upd H a o):=fun b u hb e=>by rw[zc3 hb];exact e
theorem Same.upd {H:Hp}{a:Addr}{o:HO}(h:H a=none):Same H (L2.upd H a o):=fun b u e=>by rw[zc3 (za5 e h)];exact e
theorem Same.chg {H0 H H':Hp}{a:Addr}(s:Same H0 H) (n:H0 a=none) (c:Chg a H H'):Same H0 H':=fun b o e=>c b o (za5 e n) (s b o e)
theorem Chg.refl (a:Addr) (H:Hp):Chg a H H:=fun _ _ _ e=>e
theorem Chg.trans {H H1 H2:Hp}{a:Addr}(x:Chg a H H1) (y:Chg a H1 H2):Chg a H H2:=fun b o h e=>y b o h (x b o h e)
theorem Chg.same {H H1 H2:Hp}{a:Addr}(x:Chg a H H1) (y:Same H1 H2):Chg a H H2:=fun b o h e=>y b o (x b o h e)
theorem Same.toChg {H H1:Hp}{a:Addr}(x:Same H H1):Chg a H H1:=fun b o _ e=>x b o e
theorem Same.at {H H':Hp}{b:Addr}{o:HO}(s:Same H H') (e:H b=some o):H' b=some o:=s b o e
theorem Chg.at {H H':Hp}{a b:Addr}{o:HO}(s:Chg a H H') (e:H b=some o) (n:b≠a):H' b=some o:=s b o n e
def qV (i:Nat):TE:=fun σ H Q=>match σ[i]? with
 | some (some v)=>Q v H
 | _=>False
section
variable {X:Cx}
theorem pq (i:Nat) {x:Str}{pos:Pos}(hN:X.N[i]?=some x:=by rfl) (hv:Vis X.env.scope x:=by first|exact Or.inl rfl|exact Or.inr (Or.inl rfl)|exact Or.inr (Or.inr rfl)) (hd:(x==("__debug__":Str))=false:=by decide)
  (hcd:(x==("__classdict__":Str))=false:=by decide):PE X (.Name x pos) (qV i):=fun pins s σ H Q I h=>by
 refine pe_var hN hv hd hcd pins s σ H Q I ?_
 unfold qV at h
 split at h
 ·rename_i v e
  exact⟨v,e,h⟩
 ·exact h.elim
@[irreducible] def zbf9 (i j:Int) (H:Hp) (Q:VK):Prop:=IntMulOk i j/\Q (.int (i*j)) H
@[irreducible] def zbf8 (i j:Int) (H:Hp) (Q:VK):Prop:=(j≠0/\j.natAbs.log2<9000)/\Q (.int (i.fdiv j)) H
@[irreducible] def zbo5 (i j:Int) (H:Hp) (Q:VK):Prop:=j≠0/\Q (.int (i.fmod j)) H
@[irreducible] def rPowI (i j:Int) (H:Hp) (Q:VK):Prop:=CPow i j/\Q (.int (i ^ j.toNat)) H
@[irreducible] def rCatL (a b:Addr) (H:Hp) (Q:VK):Prop:=∃ xs zs,H a=some (.lst xs)/\H b=some (.lst zs)/\xs.length+zs.length<=sizeLine /\
 ∀ p H',H p=none->Same H H'->H' p=some (.lst (xs++zs))->Q (.ref p) H'
@[irreducible] def rRepL (a:Addr) (k:Int) (H:Hp) (Q:VK):Prop:=∃ xs,H a=some (.lst xs)/\-(2 ^ 63)<=k/\k<2 ^ 63/\xs.length*k.toNat<=sizeLine /\
 ∀ p H',H p=none->Same H H'->H' p=some (.lst (List.replicate k.toNat xs).flatten)->Q (.ref p) H'
def rAddM:R2:=fun x y H Q=>match x,y with
 | .int i,.int j=>Q (.int (i+j)) H
 | .ref a,.ref b=>rCatL a b H Q
 | .str a,.str b=>a.length+b.length<=sizeLine/\Q (.str (a++b)) H
 | _,_=>False
def rSubM:R2:=fun x y H Q=>match x,y with
 | .int i,.int j=>Q (.int (i - j)) H
 | _,_=>False
def rMulM:R2:=fun x y H Q=>match x,y with
 | .int i,.int j=>zbf9 i j H Q
 | .ref a,.int k=>rRepL a k H Q
 | _,_=>False
def rDivM:R2:=fun x y H Q=>match x,y with
 | .int i,.int j=>zbf8 i j H Q
 | _,_=>False
def rModM:R2:=fun x y H Q=>match x,y with
 | .int i,.int j=>zbo5 i j H Q
 | _,_=>False
def rPowM:R2:=fun x y H Q=>match x,y with
 | .int i,.int j=>rPowI i j H Q
 | _,_=>False
theorem oAdd:OpR X (binaryOp .Add) rAddM:=by
 intro pins s σ H x y v u Q I rx ry h
 unfold rAddM at h
 split at h
 ·exact op_add pins s σ H _ _ v u Q I rx ry ⟨_,_,rfl,rfl,h⟩
 ·unfold rCatL at h
  obtain⟨xs,zs,h1,h2,h3,h4⟩:=h
  exact op_cat pins s σ H _ _ v u Q I rx ry ⟨_,_,xs,zs,rfl,rfl,h1,h2,h3,fun p hp=>h4 p _ hp (Same.upd hp) zc2⟩
 ·exact zbh0 pins s σ H _ _ v u Q I rx ry ⟨_,_,rfl,rfl,h.1,h.2⟩
 ·exact h.elim
theorem oSub:OpR X (binaryOp .Sub) rSubM:=by
 intro pins s σ H x y v u Q I rx ry h
 unfold rSubM at h
 split at h
 ·exact op_sub pins s σ H _ _ v u Q I rx ry ⟨_,_,rfl,rfl,h⟩
 ·exact h.elim
theorem oMul:OpR X (binaryOp .Mult) rMulM:=by
 intro pins s σ H x y v u Q I rx ry h
 unfold rMulM at h
 split at h
 ·unfold zbf9 at h
  obtain⟨t,rfl⟩:=rx
  obtain⟨t',rfl⟩:=ry
  exact mul_int ⟨.int _,H,I.tok _,⟨_,rfl⟩,h.2⟩ h.1
 ·unfold rRepL at h
  obtain⟨xs,h1,h2,h3,h4,h5⟩:=h
  exact op_rep pins s σ H _ _ v u Q I rx ry ⟨_,_,xs,rfl,rfl,h1,h2,h3,h4,fun p hp=>h5 p _ hp (Same.upd hp) zc2⟩
 ·exact h.elim
theorem oDiv:OpR X (binaryOp .FloorDiv) rDivM:=by
 intro pins s σ H x y v u Q I rx ry h
 unfold rDivM at h
 split at h
 ·unfold zbf8 at h
  obtain⟨⟨h1,h2⟩,h3⟩:=h
  obtain⟨t,rfl⟩:=rx
  obtain⟨t',rfl⟩:=ry
  exact floordiv_int h1 ⟨.int _,H,I.tok _,⟨_,rfl⟩,h3⟩ (.inl (PyProof.noPylong_of_log2 h2))
 ·exact h.elim
theorem oMod:OpR X (binaryOp .Mod) rModM:=by
 intro pins s σ H x y v u Q I rx ry h
 unfold rModM at h
 split at h
 ·unfold zbo5 at h
  exact zcf7 pins s σ H _ _ v u Q I rx ry ⟨_,_,rfl,rfl,h.1,h.2⟩
 ·exact h.elim
theorem oPow:OpR X (binaryOp .Pow) rPowM:=by
 intro pins s σ H x y v u Q I rx ry h
 unfold rPowM at h
 split at h
 ·unfold rPowI at h
  exact op_pow pins s σ H _ _ v u Q I rx ry ⟨_,_,rfl,rfl,h.1,h.2⟩
 ·exact h.elim
def rNegM:V->Hp->VK->Prop:=fun x H Q=>match x with
 | .int i=>Q (.int (-i)) H
 | _=>False
theorem uNeg:UnR X (unaryOp .USub) rNegM:=by
 intro pins s σ H x v Q I rx h
 unfold rNegM at h
 split at h
 ·exact un_neg pins s σ H _ v Q I rx ⟨_,rfl,h⟩
 ·exact h.elim
section
variable {i j:Int}{H:Hp}{Q:VK}
theorem zu6 (h:IntMulOk i j) (q:Q (.int (i*j)) H):zbf9 i j H Q:=by unfold zbf9;exact⟨h,q⟩
theorem log2_lt {n k:Nat}(h:n<2 ^ k) (hk:0<k):n.log2<k:=by
 by_cases h0:n=0
 ·subst h0;simpa using hk
 ·exact (Nat.log2_lt h0).mpr h
theorem zay1 {j:Int}(h1:-(10 ^ 240)<j) (h2:j<10 ^ 240):j.natAbs<2 ^ 2000:=by
 have e:(10:Int) ^ 240=((10 ^ 240:Nat):Int):=by norm_cast
 have e2:(10:Nat) ^ 240<2 ^ 2000:=by decide +kernel
 rw[e] at h1 h2
 generalize hN:(10:Nat) ^ 240=N at h1 h2 e2
 generalize hM:(2:Nat) ^ 2000=M at e2
 omega
theorem zp6 (h1:-(10 ^ 240)<i) (h2:i<10 ^ 240) (h3:-(10 ^ 240)<j) (h4:j<10 ^ 240):IntMulOk i j:=by
 have f:∀ {k:Int},-(10 ^ 240)<k->k<10 ^ 240->Builtin.Int.intBits k<=2 ^ 20:=fun {k} a b=>by
  have h:=log2_lt (zay1 a b) (by decide)
  unfold Builtin.Int.intBits
  have e:(2:Nat) ^ 20=1048576:=by decide
  rw[e]
  split<;>omega
 exact .of_bits (f h1 h2) (f h3 h4)
theorem div_rd (h1:0<j) (h2:j<10 ^ 240) (q:Q (.int (i / j)) H):zbf8 i j H Q:=by
 unfold zbf8
 refine⟨⟨by omega,?_⟩,?_⟩
 ·have h:=log2_lt (zay1 (j:=j) (by have:(0:Int)<10 ^ 240:=(by decide +kernel);generalize (10:Int) ^ 240=N at this;omega) h2) (by decide)
  omega
 ·rw[Int.fdiv_eq_ediv_of_nonneg _ (by omega)];exact q
theorem zbr7 (h0:j≠0) (h1:-(10 ^ 240)<j) (h2:j<10 ^ 240) (q:Q (.int (i.fdiv j)) H):zbf8 i j H Q:=by
 unfold zbf8
 refine⟨⟨h0,?_⟩,q⟩
 have h:=log2_lt (zay1 h1 h2) (by decide)
 omega
theorem zbs3 (h1:0<j) (q:Q (.int (i % j)) H):zbo5 i j H Q:=by
 unfold zbo5
 refine⟨by omega,?_⟩
 rw[Int.fmod_eq_emod_of_nonneg _ (by omega)];exact q
theorem zcb2 (h:CPow i j) (q:Q (.int (i ^ j.toNat)) H):rPowI i j H Q:=by unfold rPowI;exact⟨h,q⟩
theorem zbc9 {a b:Addr}{xs zs:List V}(h1:H a=some (.lst xs)) (h2:H b=some (.lst zs)) (h3:xs.length+zs.length<=sizeLine)
  (q:∀ p H',H p=none->Same H H'->H' p=some (.lst (xs++zs))->Q (.ref p) H'):rCatL a b H Q:=by unfold rCatL;exact⟨xs,zs,h1,h2,h3,q⟩
theorem rep_rd {a:Addr}{k:Int}{xs:List V}(h1:H a=some (.lst xs)) (h2:-(2 ^ 63)<=k) (h3:k<2 ^ 63) (h4:xs.length*k.toNat<=sizeLine)
  (q:∀ p H',H p=none->Same H H'->H' p=some (.lst (List.replicate k.toNat xs).flatten)->Q (.ref p) H'):rRepL a k H Q:=by unfold rRepL;exact⟨xs,h1,h2,h3,h4,q⟩
end
def rLtM:R2:=fun x y H Q=>match x,y with
 | .int i,.int j=>Q (.bl (decide (i<j))) H
 | _,_=>False
def rLeM:R2:=fun x y H Q=>match x,y with
 | .int i,.int j=>Q (.bl (decide (i<=j))) H
 | _,_=>False
def rGtM:R2:=fun x y H Q=>match x,y with
 | .int i,.int j=>Q (.bl (decide (j<i))) H
 | _,_=>False
def rGeM:R2:=fun x y H Q=>match x,y with
 | .int i,.int j=>Q (.bl (decide (j<=i))) H
 | _,_=>False
theorem oLt:OpR X (compareOp .Lt) rLtM:=by
 intro pins s σ H x y v u Q I rx ry h
 unfold rLtM at h
 split at h
 ·exact op_lt pins s σ H _ _ v u Q I rx ry ⟨_,_,rfl,rfl,h⟩
 ·exact h.elim
theorem oLe:OpR X (compareOp .LtE) rLeM:=by
 intro pins s σ H x y v u Q I rx ry h
 unfold rLeM at h
 split at h
 ·exact op_le pins s σ H _ _ v u Q I rx ry ⟨_,_,rfl,rfl,h⟩
 ·exact h.elim
theorem oGt:OpR X (compareOp .Gt) rGtM:=by
 intro pins s σ H x y v u Q I rx ry h
 unfold rGtM at h
 split at h
 ·exact op_gt pins s σ H _ _ v u Q I rx ry ⟨_,_,rfl,rfl,h⟩
 ·exact h.elim
theorem oGe:OpR X (compareOp .GtE) rGeM:=by
 intro pins s σ H x y v u Q I rx ry h
 unfold rGeM at h
 split at h
 ·exact op_ge pins s σ H _ _ v u Q I rx ry ⟨_,_,rfl,rfl,h⟩
 ·exact h.elim
inductive EqR (K:zcq5) (H:Hp):Nat->V->V->Bool->Prop where
 | flat {n:Nat}{x y:V}(fx:zx4 x=true) (fy:zx4 y=true):EqR K H n x y (eqV x y)
 | tup {n:Nat}{a b:Addr}{xs ys:List V}(e:Nat->Bool) (ha:SqT K H a xs) (hb:SqT K H b ys) (h:∀ (j:Nat) (x y:V),xs[j]?=some x->ys[j]?=some y->EqR K H n x y (e j)) :
   EqR K H (n+1) (.ref a) (.ref b) ((List.range (min xs.length ys.length)).all e&&xs.length==ys.length)
 | lst {n:Nat}{a b:Addr}{xs ys:List V}(e:Nat->Bool) (ha:SqL K H a xs) (hb:SqL K H b ys) (hl:xs.length=ys.length) (h:∀ (j:Nat) (x y:V),xs[j]?=some x->ys[j]?=some y->EqR K H n x y (e j)) :
   EqR K H (n+1) (.ref a) (.ref b) ((List.range xs.length).all e)
 | lstN {n:Nat}{a b:Addr}{xs ys:List V}(ha:SqL K H a xs) (hb:SqL K H b ys) (hl:xs.length≠ys.length):EqR K H (n+1) (.ref a) (.ref b) false
theorem zbw7 {x:V}(f:zx4 x=true):eqV x x=true:=by
 cases x<;>first|rfl|(simp[eqV];done)|exact absurd (show false=true from f) zcr2
section
variable {pins:List (Addr×Obj)}{σ:St}{H:Hp}{s:Shared}
theorem EqR.self (I:Inv X pins σ H s) {n:Nat}{x y:V}{b:Bool}(h:EqR X.K H n x y b):x=y->b=true:=by
 induction h with
 | flat fx fy=>rintro rfl;exact zbw7 fx
 | tup e ha hb h ih=>
  intro q
  cases q
  have q:=I.tuple_inj ha hb
  subst q
  rw[Nat.min_self,zcs9]
  refine⟨zct4.mpr fun j hj=>?_,by simp⟩
  have hj:=zcu9.mp hj
  exact ih j _ _ (zcq4 hj) (zcq4 hj) rfl
 | lst e ha hb hl h ih=>
  intro q
  cases q
  have q:=I.list_inj ha hb
  subst q
  refine zct4.mpr fun j hj=>?_
  have hj:=zcu9.mp hj
  exact ih j _ _ (zcq4 hj) (zcq4 hj) rfl
 | lstN ha hb hl=>
  intro q
  cases q
  exact absurd (congrArg List.length (I.list_inj ha hb)) hl
theorem zy7 (A:Around):A.in1.units=A.units+1:=rfl
mutual
theorem EqR.at (I:Inv X pins σ H s):∀ {n:Nat}{x y:V}{b:Bool},EqR X.K H n x y b->∀ {u v:Value}{A:Around},RelV x u->RelV y v->A.units+n<cLine->SeqAt.EqAt A s u v b
 | _,_,_,_,.flat fx fy,u,v,A,rx,ry,_=>zbk6 rx ry fx fy
 | _,.ref a,.ref b,_,h,u,v,A,rx,ry,hu=>by
  cases rx
  cases ry
  by_cases e:a=b
  ·subst e
   rw[h.self I rfl]
   exact SeqAt.EqAt.same _
  ·exact SeqAt.EqAt.of_refs e (EqR.rc I h hu)
theorem EqR.rc (I:Inv X pins σ H s):∀ {n:Nat}{a b:Addr}{c:Bool},EqR X.K H n (.ref a) (.ref b) c->∀ {A:Around},A.units+n<cLine->SeqAt.RcAt A s (.ref a) (.ref b) c
 | _,_,_,_,.flat fx _,_,_=>absurd (show false=true from fx) zcr2
 | _,a,b,_,.tup (xs:=xs) (ys:=ys) e ha hb h,A,hu=>by
  obtain⟨its,r1,t1,z1⟩:=I.tuple ha
  obtain⟨its2,r2,t2,z2⟩:=I.tuple hb
  have l1:its.toArray.size=xs.length:=by rw[zcr3];exact r1.length.symm
  have l2:its2.toArray.size=ys.length:=by rw[zcr3];exact r2.length.symm
  have q:=SeqAt.RcAt.tuples (A:=A) (e:=e) t1 t2 (by omega) fun j h1 h2=>by
   rw[l1] at h1
   rw[l2] at h2
   obtain⟨u1,e1,q1⟩:=r1.get (zcq4 h1)
   obtain⟨u2,e2,q2⟩:=r2.get (zcq4 h2)
   have i1:its.toArray[j]=u1:=by
    have:=(zcq6.mp e1).2
    simpa using this
   have i2:its2.toArray[j]=u2:=by
    have:=(zcq6.mp e2).2
    simpa using this
   rw[i1,i2]
   exact EqR.at I (h j _ _ (zcq4 h1) (zcq4 h2)) q1 q2 (by rw[zy7];omega)
  rw[l1,l2] at q
  exact q
 | _,a,b,_,.lst (xs:=xs) (ys:=ys) e ha hb hl h,A,hu=>by
  obtain⟨its,r1,t1,z1⟩:=I.list ha
  obtain⟨its2,r2,t2,z2⟩:=I.list hb
  have l1:its.toArray.size=xs.length:=by rw[zcr3];exact r1.length.symm
  have l2:its2.toArray.size=ys.length:=by rw[zcr3];exact r2.length.symm
  have q:=SeqAt.RcAt.lists (A:=A) (e:=e) t1.isList t2.isList (by rw[l1,l2];exact hl) (by omega) fun j h1 h2=>by
   rw[l1] at h1
   rw[l2] at h2
   obtain⟨u1,e1,q1⟩:=r1.get (zcq4 h1)
   obtain⟨u2,e2,q2⟩:=r2.get (zcq4 h2)
   have i1:its.toArray[j]=u1:=by
    have:=(zcq6.mp e1).2
    simpa using this
   have i2:its2.toArray[j]=u2:=by
    have:=(zcq6.mp e2).2
    simpa using this
   rw[i1,i2]
   exact EqR.at I (h j _ _ (zcq4 h1) (zcq4 h2)) q1 q2 (by rw[zy7];omega)
  rw[l1] at q
  exact q
 | _,a,b,_,.lstN (xs:=xs) (ys:=ys) ha hb hl,A,hu=>by
  obtain⟨its,r1,t1,z1⟩:=I.list ha
  obtain⟨its2,r2,t2,z2⟩:=I.list hb
  have l1:its.toArray.size=xs.length:=by rw[zcr3];exact r1.length.symm
  have l2:its2.toArray.size=ys.length:=by rw[zcr3];exact r2.length.symm
  exact SeqAt.RcAt.lists_lengths t1.isList t2.isList (by rw[l1,l2];simpa using hl) (by omega)
end
theorem EqR.rcNe (I:Inv X pins σ H s):∀ {n:Nat}{a b:Addr}{c:Bool},EqR X.K H n (.ref a) (.ref b) c->∀ {A:Around},A.units+n<cLine->SeqAt.RcNeAt A s (.ref a) (.ref b) (!c)
 | _,_,_,_,.flat fx _,_,_=>absurd (show false=true from fx) zcr2
 | _,a,b,_,.tup (xs:=xs) (ys:=ys) e ha hb h,A,hu=>by
  obtain⟨its,r1,t1,z1⟩:=I.tuple ha
  obtain⟨its2,r2,t2,z2⟩:=I.tuple hb
  have l1:its.toArray.size=xs.length:=by rw[zcr3];exact r1.length.symm
  have l2:its2.toArray.size=ys.length:=by rw[zcr3];exact r2.length.symm
  have q:=SeqAt.RcNeAt.tuples (A:=A) (e:=e) t1 t2 (by omega) fun j h1 h2=>by
   rw[l1] at h1
   rw[l2] at h2
   obtain⟨u1,e1,q1⟩:=r1.get (zcq4 h1)
   obtain⟨u2,e2,q2⟩:=r2.get (zcq4 h2)
   have i1:its.toArray[j]=u1:=by
    have:=(zcq6.mp e1).2
    simpa using this
   have i2:its2.toArray[j]=u2:=by
    have:=(zcq6.mp e2).2
    simpa using this
   rw[i1,i2]
   exact EqR.at I (h j _ _ (zcq4 h1) (zcq4 h2)) q1 q2 (by rw[zy7];omega)
  rw[l1,l2] at q
  exact q
 | _,a,b,_,.lst (xs:=xs) (ys:=ys) e ha hb hl h,A,hu=>by
  obtain⟨its,r1,t1,z1⟩:=I.list ha
  obtain⟨its2,r2,t2,z2⟩:=I.list hb
  have l1:its.toArray.size=xs.length:=by rw[zcr3];exact r1.length.symm
  have l2:its2.toArray.size=ys.length:=by rw[zcr3];exact r2.length.symm
  have q:=SeqAt.RcNeAt.lists (A:=A) (e:=e) t1.isList t2.isList (by rw[l1,l2];exact hl) (by omega) fun j h1 h2=>by
   rw[l1] at h1
   rw[l2] at h2
   obtain⟨u1,e1,q1⟩:=r1.get (zcq4 h1)
   obtain⟨u2,e2,q2⟩:=r2.get (zcq4 h2)
   have i1:its.toArray[j]=u1:=by
    have:=(zcq6.mp e1).2
    simpa using this
   have i2:its2.toArray[j]=u2:=by
    have:=(zcq6.mp e2).2
    simpa using this
   rw[i1,i2]
   exact EqR.at I (h j _ _ (zcq4 h1) (zcq4 h2)) q1 q2 (by rw[zy7];omega)
  rw[l1] at q
  exact q
 | _,a,b,_,.lstN (xs:=xs) (ys:=ys) ha hb hl,A,hu=>by
  obtain⟨its,r1,t1,z1⟩:=I.list ha
  obtain⟨its2,r2,t2,z2⟩:=I.list hb
  have l1:its.toArray.size=xs.length:=by rw[zcr3];exact r1.length.symm
  have l2:its2.toArray.size=ys.length:=by rw[zcr3];exact r2.length.symm
  exact SeqAt.RcNeAt.lists_lengths t1.isList t2.isList (by rw[l1,l2];simpa using hl) (by omega)
end
@[irreducible] def rEqO (K:zcq5) (a b:Addr) (H:Hp) (Q:VK):Prop:=∃ n c,n<=40/\EqR K H n (.ref a) (.ref b) c/\Q (.bl c) H
def rEqM (K:zcq5):R2:=fun x y H Q=>match x,y with
 | .int i,.int j=>Q (.bl (decide (i=j))) H
 | .bl i,.bl j=>Q (.bl (decide (i=j))) H
 | .str i,.str j=>Q (.bl (decide (i=j))) H
 | .ref a,.ref b=>rEqO K a b H Q
 | x,y=>scal x y=true/\Q (.bl (decide (x=y))) H
def rNeM (K:zcq5):R2:=fun x y H Q=>rEqM K x y H fun v H'=>match v with
 | .bl b=>Q (.bl (!b)) H'
 | _=>False
theorem zp0 {α β:Type}[DecidableEq α] [DecidableEq β] {f:α->β}(hf:∀ a b,f a=f b->a=b) (a b:α):decide (f a=f b)=decide (a=b):=by
 by_cases h:a=b
 ·subst h;simp
 ·rw[decide_eq_false h,decide_eq_false fun e=>h (hf _ _ e)]
theorem oEq (hu:X.A.units+40<cLine):OpR X (compareOp .Eq) (rEqM X.K):=by
 intro pins s σ H x y v u Q I rx ry h
 unfold rEqM at h
 split at h
 ·rename_i i j
  exact zbb0 pins s σ H _ _ v u Q I rx ry ⟨rfl,by rw[zp0 (f:=V.int) fun a b e=>V.int.inj e];exact h⟩
 ·exact zbb0 pins s σ H _ _ v u Q I rx ry ⟨rfl,by rw[zp0 (f:=V.bl) fun a b e=>V.bl.inj e];exact h⟩
 ·exact zbb0 pins s σ H _ _ v u Q I rx ry ⟨rfl,by rw[zp0 (f:=V.str) fun a b e=>V.str.inj e];exact h⟩
 ·unfold rEqO at h
  obtain⟨n,c,hn,h1,h2⟩:=h
  cases rx
  cases ry
  exact EqR.rc I h1 (A:=X.A) (by omega) _ _ _ _ ⟨.bl c,H,I,rfl,h2⟩
 ·exact zbb0 pins s σ H _ _ v u Q I rx ry h
theorem oNe (hu:X.A.units+40<cLine):OpR X (compareOp .NotEq) (rNeM X.K):=by
 intro pins s σ H x y v u Q I rx ry h
 unfold rNeM rEqM at h
 split at h
 ·rename_i i j
  exact zay9 pins s σ H _ _ v u Q I rx ry ⟨rfl,by rw[zp0 (f:=V.int) fun a b e=>V.int.inj e];exact h⟩
 ·exact zay9 pins s σ H _ _ v u Q I rx ry ⟨rfl,by rw[zp0 (f:=V.bl) fun a b e=>V.bl.inj e];exact h⟩
 ·exact zay9 pins s σ H _ _ v u Q I rx ry ⟨rfl,by rw[zp0 (f:=V.str) fun a b e=>V.str.inj e];exact h⟩
 ·unfold rEqO at h
  obtain⟨n,c,hn,h1,h2⟩:=h
  cases rx
  cases ry
  exact EqR.rcNe I h1 (A:=X.A) (by omega) _ _ _ _ ⟨.bl (!c),H,I,rfl,h2⟩
 ·exact zay9 pins s σ H _ _ v u Q I rx ry ⟨h.1,h.2⟩
section
variable {K:zcq5}{H:Hp}{Q:VK}{a b:Addr}{c:Bool}{n:Nat}
end
def qB (t:TE):TT:=fun σ H Q=>t σ H fun x H1=>match x with
 | .bl c=>Q c H1
 | .int i=>Q (!decide (i=0)) H1
 | _=>False
theorem ptV {e:Expr}{t:TE}(h:PE X e t) (he:∀ whole,isTrue e X.env whole=(do let v ← whole;standAt e.pos;holding [v] (truthy v)):=by intro _;rfl):PT X e (qB t):=fun pins s σ H Q I hw=>by
 refine isTrue_plain (thn (h pins s σ H _ I hw) fun v s1 ⟨x,H1,I1,r1,q1⟩=>?_) (he _)
 dsimp only at q1
 split at q1
 ·exact zbn0 pins s1 σ H1 _ v Q I1 r1 ⟨_,rfl,q1⟩
 ·rename_i i
  refine zbn0 pins s1 σ H1 _ v Q I1 r1 ⟨_,rfl,?_⟩
  have e:(i != 0)=!decide (i=0):=by by_cases h:i=0<;>simp[h]
  rw[e];exact q1
 ·exact q1.elim
theorem ptC {a b:Expr}{ta tb:TE}{pos:Pos}{op:CmpOp}{r:R2}(ho:OpR X (compareOp op) r) (ha:PE X a ta) (hb:PE X b tb) (hm:behindInMarks op b=false:=by first|exact zca1 _|with_unfolding_all rfl):PT X (.Compare a [op] [b] pos) (qB (tOp r ta tb)):=by
 intro pins s σ H Q I h
 refine wpAny_isTrue_Compare1 (thn (ha pins s σ H _ I h) fun v s1 ⟨x,H1,I1,r1,q1⟩=>thn (hb pins s1 σ H1 _ I1 q1) fun u s2 ⟨y,H2,I2,r2,q2⟩=>
  thn (ho pins s2 σ H2 x y v u _ I2 r1 r2 q2) fun c s3 ⟨z,H3,I3,r3,q3⟩=>?_) hm
 dsimp only at q3
 split at q3
 ·cases r3
  exact wpAny_truthy_bool ⟨H3,I3,q3⟩
 ·rename_i i
  refine zbn0 pins s3 σ H3 _ c Q I3 r3 ⟨_,rfl,?_⟩
  have e:(i != 0)=!decide (i=0):=by by_cases h:i=0<;>simp[h]
  rw[e];exact q3
 ·exact q3.elim
theorem peC {a b:Expr}{ta tb:TE}{pos:Pos}{op:CmpOp}{r:R2}(ho:OpR X (compareOp op) r) (ha:PE X a ta) (hb:PE X b tb) (hm:behindInMarks op b=false:=by first|exact zca1 _|with_unfolding_all rfl):PE X (.Compare a [op] [b] pos) (tOp r ta tb):=
 zcd7 ho ha hb hm
variable {a b:Expr}{rest:List Expr}{tA tB':TT}{ta tb:TE}{pos:Pos}
def qAnd (t u:TT):TT:=fun σ H Q=>t σ H fun c H1=>br c (u σ H1 Q) (Q false H1)
def qOr (t u:TT):TT:=fun σ H Q=>t σ H fun c H1=>br c (Q true H1) (u σ H1 Q)
theorem pwAnd (ha:PT X a tA) (hb:PW X (.BoolOp .And (b :: rest) pos) tB'):PW X (.BoolOp .And (a :: b :: rest) pos) (qAnd tA tB'):=fun wh pins s σ H Q I h=>
 pw_and ha hb wh pins s σ H Q I (by unfold qAnd at h;simp only[zab6] at h;exact h)
theorem pwOr (ha:PT X a tA) (hb:PW X (.BoolOp .Or (b :: rest) pos) tB'):PW X (.BoolOp .Or (a :: b :: rest) pos) (qOr tA tB'):=fun wh pins s σ H Q I h=>
 pw_or ha hb wh pins s σ H Q I (by unfold qOr at h;simp only[zab6] at h;exact h)
def qAndV (ta tb:TE):TE:=fun σ H Q=>ta σ H fun x H1=>match x with
 | .bl c=>br c (tb σ H1 Q) (Q (.bl false) H1)
 | _=>False
def qNotV (ta:TE):TE:=fun σ H Q=>ta σ H fun x H1=>match x with
 | .bl c=>Q (.bl (!c)) H1
 | _=>False
theorem zt5 (ha:PE X a ta) (hb:PE X (.BoolOp .And (b :: rest) pos) tb):PE X (.BoolOp .And (a :: b :: rest) pos) (qAndV ta tb):=by
 intro pins s σ H Q I h
 refine BoolOp_and (thn (ha pins s σ H _ I h) fun v s1 ⟨x,H1,I1,r1,q1⟩=>?_)
 dsimp only at q1
 split at q1
 ·rename_i c
  cases r1
  refine wpAny_truthy_bool ?_
  rw[zab6] at q1
  cases c with
  | true=>exact hb pins s1 σ H1 Q I1 (by simpa using q1)
  | false=>exact⟨.bl false,H1,I1,rfl,by simpa using q1⟩
 ·exact q1.elim
theorem peNot (ha:PE X a ta):PE X (.UnaryOp .Not a pos) (qNotV ta):=by
 intro pins s σ H Q I h
 refine UnaryOp_ (thn (ha pins s σ H _ I h) fun v s1 ⟨x,H1,I1,r1,q1⟩=>?_)
 dsimp only at q1
 split at q1
 ·rename_i c
  cases r1
  exact not_of (wpAny_truthy_bool ⟨.bl (!c),H1,I1,rfl,q1⟩)
 ·exact q1.elim
def qIf (t:TT) (ta tb:TE):TE:=fun σ H Q=>t σ H fun c H1=>br c (ta σ H1 Q) (tb σ H1 Q)
theorem peIf {c:Expr}(hc:PT X c tA) (ha:PE X a ta) (hb:PE X b tb):PE X (.IfExp c a b pos) (qIf tA ta tb):=fun pins s σ H Q I h=>
 zbv0 hc ha hb pins s σ H Q I (by unfold qIf at h;simp only[zab6] at h;exact h)
def qChain (r r':R2) (ta tb tc:TE):TE:=fun σ H Q=>ta σ H fun x H1=>tb σ H1 fun y H2=>r x y H2 fun z H3=>match z with
 | .bl k=>br k (tc σ H3 fun w' H4=>r' y w' H4 Q) (Q (.bl false) H3)
 | _=>False
theorem zcd9 {c:Expr}{tc:TE}{op op':CmpOp}{r r':R2}(ho:OpR X (compareOp op) r) (ho':OpR X (compareOp op') r') (ha:PE X a ta) (hb:PE X b tb) (hc:PE X c tc)
  (hm:lastMarks [op,op'] [b,c]=false:=by with_unfolding_all rfl):PE X (.Compare a [op,op'] [b,c] pos) (qChain r r' ta tb tc):=by
 intro pins s σ H Q I h
 refine Compare_chain (thn (ha pins s σ H _ I h) fun v s1 ⟨x,H1,I1,r1,q1⟩=>chain_link (thn (hb pins s1 σ H1 _ I1 q1) fun u s2 ⟨y,H2,I2,r2,q2⟩=>
  thn (ho pins s2 σ H2 x y v u _ I2 r1 r2 q2) fun d s3 ⟨z,H3,I3,r3,q3⟩=>?_)) hm
 dsimp only at q3
 split at q3
 ·rename_i k
  cases r3
  refine wpAny_truthy_bool ?_
  rw[zab6] at q3
  cases k with
  | false=>exact ite_ff ⟨.bl false,H3,I3,rfl,by simpa using q3⟩
  | true=>exact ite_tt (chain_last (thn (hc pins s3 σ H3 _ I3 (by simpa using q3)) fun w' s4 ⟨z',H4,I4,r4,q4⟩=>ho' pins s4 σ H4 y z' u w' Q I4 r2 r4 q4))
 ·exact q3.elim
variable {st:Stmt}{t u:TS}{e:Expr}{te:TE}
def qIfS (c:TT) (t u:TS):TS:=fun D σ H=>c σ H fun b H1=>br b (t D σ H1) (u D σ H1)
theorem psIf {c:Expr}{a b:List Stmt}{tc:TT}(hc:PT X c tc) (ha:PSs X a t) (hb:PSs X b u):PS X (.If c a b pos) (qIfS tc t u):=fun pins s σ H D I h=>
 ps_if hc ha hb pins s σ H D I (by unfold qIfS at h;simp only[zab6] at h;exact h)
@[irreducible] def zaj1 (J:It) (g:TG) (tb:TS) (D:Ends) (σ:St) (H1:Hp):Prop:=∃ W:Nat->Nat->St->Hp->Prop,(∃ m,W 0 m σ H1)/\∀ i m σ H,W i m σ H ->
 (J.stop i H/\D.nx σ H)∨(J.go i H/\∃ N:St->Hp->Prop,(∀ σ' H',N σ' H'->∃ m',m'<m/\W (i+1) m' σ' H')/\∀ x H',J.yld i H x H'->g x σ H' fun σ2 H2=>tb { D with nx:=N,ct:=N,bk:=D.nx } σ2 H2)
def qFor (wi:TI) (g:TG) (tb:TS):TS:=fun D σ H=>wi σ H fun J H1=>zaj1 J g tb D σ H1
theorem zt9 {iter tg:Expr}{body:List Stmt}{wi:TI}{g:TG}{tb:TS}{pos:Pos}(hp:PassesOwn (model X.prog X.w) X.A X.env X.xe) (hc:X.calm=true) (hi:PI X tg iter wi) (hg:PG X tg g) (hb:PSs X body tb)
  (hs:∀ x,foldedSetIterable iter X.env x=pure x:=by intro _;rfl):PS X (.For tg iter body [] pos) (qFor wi g tb):=fun pins s σ H D I h=>
 ps_for hp hc hi hg hb hs pins s σ H D I (by unfold qFor at h;unfold zaj1 at h;exact h)
@[irreducible] def rIter (K:zcq5) (a:Addr) (H:Hp) (R:It->Hp->Prop):Prop:=((∃ xs,SqL K H a xs)/\R (Itl K a) H)∨((∃ xs,SqT K H a xs)/\R (Itt K a) H)
def qiSeq (K:zcq5) (tl:TE):TI:=fun σ H R=>tl σ H fun x H1=>match x with
 | .ref a=>rIter K a H1 R
 | _=>False
theorem piSeq {tg l:Expr}{tl:TE}(hl:PE X l tl):PI X tg l (qiSeq X.K tl):=by
 intro pins s σ H R I h
 refine thn (hl pins s σ H _ I h) fun v s1 ⟨x,H1,I1,r1,q1⟩=>?_
 dsimp only at q1
 split at q1
 ·rename_i a
  unfold rIter at q1
  cases r1
  have fp:∀ b∈[s1.heap.objs.size],FpOk X pins H1 b:=fun b hb=>by
   have e:b=s1.heap.objs.size:=by simpa using hb
   subst e
   exact I1.fpOk (zcr9 _) (I1.hok.fresh (zcr9 _))
  rcases q1 with ⟨⟨xs,hq⟩,q⟩|⟨⟨xs,hq⟩,q⟩
  ·obtain⟨its,rv,p,hz⟩:=I1.list hq
   refine wpAny_pyIter_list p.isList ?_
   exact⟨s1.heap.objs.size,[s1.heap.objs.size],_,_,H1,rfl,I1.kept (t':=s1.toks) fun b o e=>zcq9 _ e,zbl8 a _,⟨_,zcs4 _ rfl,rfl,rfl⟩,fp,q⟩
  ·obtain⟨its,rv,p,hz⟩:=I1.tuple hq
   refine wpAny_pyIter_tuple (show s1.heap.IsTuple a its.toArray from p) ?_
   exact⟨s1.heap.objs.size,[s1.heap.objs.size],_,_,H1,rfl,I1.kept (t':=s1.toks) fun b o e=>zcq9 _ e,zbg3 a _,⟨_,zcs4 _ rfl,rfl,rfl⟩,fp,q⟩
 ·exact q1.elim
@[irreducible] def zaj6 (i j:Int) (H:Hp) (R:It->Hp->Prop):Prop:=(-(2 ^ 62)<=i/\i<2 ^ 62/\-(2 ^ 62)<=j/\j<2 ^ 62)/\R (Itr i (j - i).toNat) H
def qiRng (ta:TA):TI:=fun σ H R=>ta σ H fun vs H1=>match vs with
 | [.int j]=>zaj6 0 j H1 R
 | [.int i,.int j]=>zaj6 i j H1 R
 | _=>False
theorem zr5 {tg a:Expr}{ta:TA}{p pos:Pos}(hm:X.mg "range"=none) (ha:PA X [a] ta) (hg:Gl X "range":=by rfl) (hs:starEach [a] X.env=[(false,eval a X.env)]:=by rfl):PI X tg (.Call (.Name "range" p) [a] [] pos) (qiRng ta):=by
 intro pins s σ H R I h
 refine Call_ (zy6 I hg hm boot_range (PyProof.Rows.callWith_type1 (thn (ha pos pins s σ H _ I h) fun us s1 ⟨vs,H1,I1,r1,q1⟩=>?_) hs rfl))
 dsimp only at q1
 split at q1
 ·unfold zaj6 at q1
  obtain⟨⟨a1,a2,a3,a4⟩,q⟩:=q1
  cases r1 with
  | cons r rr=>
   cases rr
   obtain⟨t,rfl⟩:=r
   exact call_range_1 (zbd2 I1 a1 a2 a3 a4 q)
 ·unfold zaj6 at q1
  cases r1 with
  | cons r rr=>
   cases rr with
   | cons r' rr=>
    cases rr
    obtain⟨t,rfl⟩:=r
    obtain⟨t',rfl⟩:=r'
    obtain⟨⟨a1,a2,a3,a4⟩,q⟩:=q1
    exact call_range_2 (zbd2 I1 a1 a2 a3 a4 q)
 ·exact q1.elim
section
variable {K:zcq5}{g:TG}{tb:TS}{D:Ends}{σ:St}{H:Hp}{R:It->Hp->Prop}
theorem zb8 {a:Addr}{xs:List V}(h:H a=some (.lst xs)) (q:R (Itl K a) H):rIter K a H R:=by unfold rIter;exact .inl ⟨⟨xs,SqL.of h⟩,q⟩
theorem zh3 {i j:Int}(h1:-(2 ^ 62)<=i) (h2:i<2 ^ 62) (h3:-(2 ^ 62)<=j) (h4:j<2 ^ 62) (q:R (Itr i (j - i).toNat) H):zaj6 i j H R:=by unfold zaj6;exact⟨⟨h1,h2,h3,h4⟩,q⟩
theorem zm8 {a:Addr}{xs:List V}(Pv:Nat->St->Hp->Prop) (h0:Pv 0 σ H) (hl:∀ i σ H,i<=xs.length->Pv i σ H->SqL K H a xs)
  (hs:∀ i x σ H,xs[i]?=some x->Pv i σ H->g x σ H fun σ2 H2=>tb { D with nx:=Pv (i+1),ct:=Pv (i+1),bk:=D.nx } σ2 H2) (hd:∀ σ H,Pv xs.length σ H->D.nx σ H):zaj1 (Itl K a) g tb D σ H:=by
 unfold zaj1;exact zbt6 Pv h0 hl hs hd
theorem zn7 {lo:Int}{n:Nat}(Pv:Nat->St->Hp->Prop) (h0:Pv 0 σ H)
  (hs:∀ i σ H,i<n->Pv i σ H->g (.int (lo+i)) σ H fun σ2 H2=>tb { D with nx:=Pv (i+1),ct:=Pv (i+1),bk:=D.nx } σ2 H2) (hd:∀ σ H,Pv n σ H->D.nx σ H):zaj1 (Itr lo n) g tb D σ H:=by
 unfold zaj1;exact zbr8 Pv h0 hs hd
end
@[irreducible] def wIf (W:Nat->St->Hp->Prop) (m:Nat) (tb:TS) (D:Ends) (σ:St) (b:Bool) (H1:Hp):Prop:=
 if b=true then ∃ N:St->Hp->Prop,(∀ σ' H',N σ' H'->∃ m',m'<m/\W m' σ' H')/\tb { D with nx:=N,ct:=N,bk:=D.nx } σ H1 else D.nx σ H1
@[irreducible] def zbc2 (c:TT) (tb:TS):TS:=fun D σ H=>∃ W:Nat->St->Hp->Prop,(∃ m,W m σ H)/\∀ m σ H,W m σ H->c σ H fun b H1=>wIf W m tb D σ b H1
theorem zch8 {c:Expr}{body:List Stmt}{tc:TT}{tb:TS}(hp:PassesOwn (model X.prog X.w) X.A X.env X.xe) (hc:PT X c tc) (hb:PSs X body tb):PS X (.While c body [] pos) (zbc2 tc tb):=fun pins s σ H D I h=>
 zbu2 hp hc hb pins s σ H D I (by unfold zbc2 at h;unfold wIf at h;exact h)
section
variable {c:TT}{tb:TS}{D:Ends}{σ:St}{H H1:Hp}{W:Nat->St->Hp->Prop}{m:Nat}{p:Prop}
theorem zbw4 (Pv:St->Hp->Prop) (μ:St->Hp->Nat) (h0:Pv σ H) (hs:∀ σ H,Pv σ H->c σ H fun b H1=>wIf (fun m σ H=>m=μ σ H/\Pv σ H) (μ σ H) tb D σ b H1):zbc2 c tb D σ H:=by
 unfold zbc2
 refine⟨fun m σ H=>m=μ σ H/\Pv σ H,⟨_,rfl,h0⟩,?_⟩
 rintro m σ H ⟨rfl,p⟩
 exact hs σ H p
theorem zcf9 {Pv:St->Hp->Prop}{μ:St->Hp->Nat}[Decidable p] (h1:p->tb { D with nx:=fun σ' H'=>Pv σ' H'/\μ σ' H'<m,ct:=fun σ' H'=>Pv σ' H'/\μ σ' H'<m,bk:=D.nx } σ H1) (h2:¬ p->D.nx σ H1) :
  wIf (fun m σ H=>m=μ σ H/\Pv σ H) m tb D σ (decide p) H1:=by
 unfold wIf
 refine ite2 (fun h=>⟨_,fun σ' H' ⟨a,b⟩=>⟨_,b,rfl,a⟩,h1 (of_decide_eq_true h)⟩) fun h=>h2 fun hp=>h (decide_eq_true hp)
end
@[irreducible] def rNewT (xs:List V) (H:Hp) (Q:VK):Prop:=xs.length<=sizeLine/\∀ p H',H p=none->Same H H'->H' p=some (.tup xs)->Q (.ref p) H'
@[irreducible] def rNewL (xs:List V) (H:Hp) (Q:VK):Prop:=xs.length<=sizeLine/\∀ p H',H p=none->Same H H'->H' p=some (.lst xs)->Q (.ref p) H'
def qTup (t:TA):TE:=fun σ H Q=>t σ H fun xs H1=>rNewT xs H1 Q
def qLst (t:TA):TE:=fun σ H Q=>t σ H fun xs H1=>rNewL xs H1 Q
theorem zp3 {es:List Expr}{x1} {t:TA}(h:PA X es t):PE X (.Tuple es x1 pos) (qTup t):=by
 intro pins s σ H Q I hq
 refine wpAny_Tuple_spliced (thn (h pos pins s σ H _ I hq) fun us s1 ⟨xs,H1,I1,r,z⟩=>?_)
 unfold rNewT at z
 obtain⟨z,q⟩:=z
 refine⟨by rw[← r.length];exact z,?_⟩
 have hf:H1 s1.heap.objs.size=none:=I1.hok.fresh (zcr9 _)
 refine⟨.ref s1.heap.objs.size,upd H1 s1.heap.objs.size (.tup xs),I1.laid (t':=s1.toks) (fun b u e=>zcq9 _ e) (zcr9 _) ?_,rfl,q _ _ hf (Same.upd hf) zc2⟩
 exact⟨z,us,r,⟨_,zcs4 _ rfl,rfl,_,rfl⟩⟩
theorem zk8 {es:List Expr}{t:TA}(h:PA X es t):PE X (.List es pos) (qLst t):=by
 intro pins s σ H Q I hq
 refine wpAny_List_spliced (thn (h pos pins s σ H _ I hq) fun us s1 ⟨xs,H1,I1,r,z⟩=>?_)
 unfold rNewL at z
 obtain⟨z,q⟩:=z
 refine⟨by rw[← r.length];exact z,?_⟩
 have hf:H1 s1.heap.objs.size=none:=I1.hok.fresh (zcr9 _)
 refine⟨.ref s1.heap.objs.size,upd H1 s1.heap.objs.size (.lst xs),I1.laid (t':=s1.toks) (fun b u e=>zcq9 _ e) (zcr9 _) ?_,rfl,q _ _ hf (Same.upd hf) zc2⟩
 exact⟨z,us,0,r,zcs4 _ rfl⟩
@[irreducible] def rIxA (K:zcq5) (p:Addr) (i:Int) (H:Hp) (Q:VK):Prop:=∃ xs v,(SqL K H p xs∨SqT K H p xs)/\atI xs i=some v/\Q v H
def rIxM (K:zcq5):R2:=fun x y H Q=>match x,y with
 | .ref p,.int i=>rIxA K p i H Q
 | .str z,.int i=>∃ c,z.length<=sizeLine/\atI z.cps.toList i=some c/\Q (.str ⟨#[c]⟩) H
 | _,_=>False
theorem ixM:IxR X (rIxM X.K):=by
 intro value slice pins s σ H x y v u Q I rx ry h hs
 unfold rIxM at h
 split at h
 ·unfold rIxA at h
  obtain⟨xs,z,h1,h2,q⟩:=h
  rcases h1 with h1|h1
  ·exact zcd5 value slice pins s σ H _ _ v u Q I rx ry ⟨_,xs,_,z,rfl,rfl,h1,h2,q⟩ hs
  ·exact ix_tup value slice pins s σ H _ _ v u Q I rx ry ⟨_,xs,_,z,rfl,rfl,h1,h2,q⟩ hs
 ·obtain⟨c,h1,h2,q⟩:=h
  exact ix_str value slice pins s σ H _ _ v u Q I rx ry ⟨_,_,c,rfl,rfl,h1,h2,q⟩ hs
 ·exact h.elim
theorem peIx (ha:PE X a ta) (hb:PE X b tb) (hs:zba8 b:=by exact fun _ _=>rfl):PE X (.Subscript a b pos) (tOp (rIxM X.K) ta tb):=pe_ix ixM ha hb hs
@[irreducible] def rSetA (p:Addr) (k:Int) (v:V) (H:Hp) (Q:Hp->Prop):Prop:=∃ xs j,H p=some (.lst xs)/\ixN xs.length k=some j/\∀ H',Chg p H H'->H' p=some (.lst (xs.set j v))->Q H'
def rSetM:TSet:=fun o i v H Q=>match o,i with
 | .ref p,.int k=>rSetA p k v H Q
 | _,_=>False
theorem setM:PSet X rSetM:=by
 intro pins s σ H o i v ov iv u Q I ro ri rv h
 unfold rSetM at h
 split at h
 ·unfold rSetA at h
  obtain⟨xs,j,h1,h2,q⟩:=h
  exact zbv7 pins s σ H _ _ v ov iv u Q I ro ri rv ⟨_,xs,_,j,rfl,rfl,h1,h2,q _ Chg.upd zc2⟩
 ·exact h.elim
def qPart (t:TE):TO:=fun σ H Q=>t σ H fun x H1=>match x with
 | .int i=>Q (some i) H1
 | _=>False
theorem zab9 (h:PE X e te):PO X (some e) (qPart te):=by
 intro pins s σ H Q I hw
 rw[evalPart_some]
 refine thn (h pins s σ H _ I hw) fun u s1 ⟨x,H1,I1,r1,q1⟩=>?_
 dsimp only at q1
 split at q1
 ·rename_i i
  obtain⟨t,rfl⟩:=r1
  exact⟨some i,H1,I1,.int i t,q1⟩
 ·exact q1.elim
section
variable {K:zcq5}{H:Hp}{Q:VK}{p:Addr}{xs:List V}{v:V}{i:Int}
theorem zd9 (q:∀ p H',H p=none->Same H H'->H' p=some (.tup xs)->Q (.ref p) H') (h:xs.length<=sizeLine:=by first|assumption|(simp only[zct0,zcw3,Nat.zero_add,Nat.reduceAdd];decide)):rNewT xs H Q:=by unfold rNewT;exact⟨h,q⟩
theorem zc7 (q:∀ p H',H p=none->Same H H'->H' p=some (.lst xs)->Q (.ref p) H') (h:xs.length<=sizeLine:=by first|assumption|(simp only[zct0,zcw3,Nat.zero_add,Nat.reduceAdd];decide)):rNewL xs H Q:=by unfold rNewL;exact⟨h,q⟩
theorem zb2 (h:H p=some (.tup xs)) (e:atI xs i=some v) (q:Q v H):rIxA K p i H Q:=by unfold rIxA;exact⟨xs,v,.inr (SqT.of h),e,q⟩
theorem zb6 (h:H p=some (.lst xs)) (e:atI xs i=some v) (q:Q v H):rIxA K p i H Q:=by unfold rIxA;exact⟨xs,v,.inl (SqL.of h),e,q⟩
theorem zbc8 {R:Hp->Prop}{j:Nat}(h:H p=some (.lst xs)) (e:ixN xs.length i=some j) (q:∀ H',Chg p H H'->H' p=some (.lst (xs.set j v))->R H'):rSetA p i v H R:=by unfold rSetA;exact⟨xs,j,h,e,q⟩
end
def qgNil:TGs:=fun vs σ H Q=>match vs with
 | []=>Q σ H
 | _=>False
def zbz4 (t:TG) (u:TGs):TGs:=fun vs σ H Q=>match vs with
 | v :: r=>t v σ H fun σ' H'=>u r σ' H' Q
 | _=>False
theorem zk5:PGs X [] qgNil:=fun pins s σ H vs us Q I r h=>by
 unfold qgNil at h
 split at h
 ·exact zci9 pins s σ H _ us Q I r ⟨rfl,h⟩
 ·exact h.elim
theorem zb4 {e:Expr}{es:List Expr}{t:TG}{u:TGs}(h1:PG X e t) (h2:PGs X es u)
  (hs:(assignEach (e :: es) X.env).map (·.2)=assign e X.env :: (assignEach es X.env).map (·.2):=by rfl):PGs X (e :: es) (zbz4 t u):=fun pins s σ H vs us Q I r h=>by
 unfold zbz4 at h
 split at h
 ·exact zbv4 h1 h2 hs pins s σ H _ us Q I r ⟨_,_,rfl,h⟩
 ·exact h.elim
def qPar (i j:Nat) (ta:TA):TS:=fun D σ H=>ta σ H fun vs H1=>match vs with
 | [v,w]=>D.nx ((σ.set i (some v)).set j (some w)) H1
 | _=>False
theorem psPar {i j:Nat}{x y:Str}{a b:Expr}{ta:TA}{px py pt:Pos}{kt k2 pt2} (hc:X.calm=true) (hN:X.N.Nodup) (hi:X.N[i]?=some x) (hj:X.N[j]?=some y) (hij:i≠j)
  (hx:X.env.scope.names.lookup x=some .local) (hy:X.env.scope.names.lookup y=some .local) (ha:PA X [a,b] ta)
  (hw:swappedStores [.Tuple [.Name x px,.Name y py] kt pt] (.Tuple [a,b] k2 pt2) X.env=pure (some [x,y]))
  (hs:swapsWithSole [.Tuple [.Name x px,.Name y py] kt pt] (.Tuple [a,b] k2 pt2) pos.line X.env=pure false:=by rfl) :
  PS X (.Assign [.Tuple [.Name x px,.Name y py] kt pt] (.Tuple [a,b] k2 pt2) pos) (qPar i j ta) :=by
 intro pins s σ H D I h
 rw[exec_Assign_arm]
 refine wpAny_bind (wpAny_standAt ?_)
 rw[hs]
 refine wpAny_bind (wpAny_pure ?_)
 rw[if_neg (by decide)]
 refine wpAny_bind (Tuple_ (thn (ha _ pins s σ H _ I h) fun us s1 ⟨vs,H1,I1,r1,q1⟩=>?_))
 dsimp only at q1
 split at q1
 case h_2=>exact q1.elim
 rename_i v w
 obtain⟨u1,u2,rfl,rv,rw'⟩:∃ u1 u2,us=[u1,u2]/\RelV v u1/\RelV w u2:=by
  cases r1 with
  | cons p q=>
   cases q with
   | cons p' q'=>
    cases q'
    exact⟨_,_,rfl,p,p'⟩
 refine wpAny_newObj_type ?_ (by show 2<=sizeLine;decide)
 have I2:Inv X pins σ H1 { s1 with heap:=s1.heap.push { cls:=.type "tuple",data:=.seq [u1,u2].toArray } }:=I1.kept (t':=s1.toks) fun b o e=>zcq9 _ e
 rw[hw]
 refine wpAny_bind (wpAny_pure ?_)
 show wpAny (model X.prog X.w) X.A (do rule "assign.swapped-stores";let items ← unpackItems (.ref s1.heap.objs.size) 2 none;assignInOrder [fun v=>bindName X.env y v,fun v=>bindName X.env x v] items.reverse;pure Flow.next) _ _ _
 refine wpAny_bind (wpAny_rule (wpAny_bind (unpackItems_tuple (items:=#[u1,u2]) (I.ok.hd hc) (IsTup.new s1.heap _) fun h' hx'=>?_)))
 have I3:=I2.kept (h':=h') (t':=s1.toks) fun b o e=>hx' b o (zct6 (zcs0 e)) e
 show wpAny _ _ (assignInOrder [fun v=>bindName X.env y v,fun v=>bindName X.env x v] [u2,u1] >>= fun _=>pure Flow.next) _ _ _
 refine wpAny_bind (assignInOrder_cons (wpAny_bindName (zac9 I3 hN hj (.inl hy) rw' (fun s2 I4=>?_) (.inr hy))))
 refine assignInOrder_cons (wpAny_bindName (zac9 I4 hN hi (.inl hx) rv (fun s3 I5=>assignInOrder_nil (wpAny_pure ?_)) (.inr hx)))
 rw[List.set_comm _ _ (Ne.symm hij)] at I5
 exact⟨_,H1,I5,q1⟩
end
end L2
set_option maxHeartbeats 1000000
namespace L2
open PySem PySem.Spec PyProof.Rows
section
variable {X:Cx}
def rAbsM:List V->Hp->VK->Prop:=fun xs H Q=>match xs with
 | [.int i]=>Q (.int (i.natAbs:Int)) H
 | _=>False
def rIntM:List V->Hp->VK->Prop:=fun xs H Q=>match xs with
 | [.int i]=>Q (.int i) H
 | [.bl k]=>Q (.int (if k=true then 1 else 0)) H
 | _=>False
theorem cInt:zp7 X (.type "int") rIntM:=fun pins s σ H xs us Q I r h=>by
 unfold rIntM at h
 split at h
 ·exact zar4 pins s σ H _ us Q I r (.inl ⟨_,rfl,h⟩)
 ·exact zar4 pins s σ H _ us Q I r (.inr ⟨_,rfl,h⟩)
 ·exact h.elim
@[irreducible] def zbf2 (K:zcq5) (p:Addr) (H:Hp) (Q:VK):Prop:=∃ ys,(SqL K H p ys∨SqT K H p ys)/\Q (.int ys.length) H
def rLenM (K:zcq5):List V->Hp->VK->Prop:=fun xs H Q=>match xs with
 | [.ref p]=>zbf2 K p H Q
 | [.str z]=>z.length<=sizeLine/\Q (.int z.length) H
 | _=>False
theorem cLen:zp7 X (.builtin "len") (rLenM X.K):=fun pins s σ H xs us Q I r h=>by
 unfold rLenM at h
 split at h
 ·unfold zbf2 at h
  obtain⟨ys,h1,h2⟩:=h
  exact zaq2 pins s σ H _ us Q I r ⟨_,ys,rfl,h1,h2⟩
 ·exact zav3 pins s σ H _ us Q I r ⟨_,rfl,h.1,h.2⟩
 ·exact h.elim
@[irreducible] def zx2 (K:zcq5) (x c:V) (H:Hp) (Q:VK):Prop:=∃ t b,TyOf K H x t/\(∀ cv,RelV c cv->zcu1 K t cv=some b)/\Q (.bl b) H
def rIsiM (K:zcq5):List V->Hp->VK->Prop:=fun xs H Q=>match xs with
 | [x,c]=>zx2 K x c H Q
 | _=>False
theorem cIsi:zp7 X (.builtin "isinstance") (rIsiM X.K):=fun pins s σ H xs us Q I r h=>by
 unfold rIsiM at h
 split at h
 ·unfold zx2 at h
  obtain⟨t,b,h1,h2,h3⟩:=h
  obtain⟨u,w,rfl,r1,r2⟩:=zbo1 r
  exact zbj5 I r1 h1 (h2 _ r2) fun tk=>⟨.bl b,H,I.tok _,rfl,h3⟩
 ·exact h.elim
section
variable {K:zcq5}{H:Hp}{Q:VK}{p:Addr}{xs:List V}
theorem zf3 (h:H p=some (.lst xs)) (q:Q (.int xs.length) H):zbf2 K p H Q:=by unfold zbf2;exact⟨xs,.inl (SqL.of h),q⟩
theorem zq7 (h:H p=some (.tup xs)) (q:Q (.int xs.length) H):zbf2 K p H Q:=by unfold zbf2;exact⟨xs,.inr (SqT.of h),q⟩
theorem zay7 {i:Int}{n:String}{b:Bool}(q:Q (.bl b) H) (e:zcu1 K (.type "int") (.type n)=some b:=by rfl):zx2 K (.int i) (.ty n) H Q:=by
 unfold zx2;exact⟨_,b,.int i,fun cv r=>by cases r;exact e,q⟩
theorem zba4 {i:Bool}{n:String}{b:Bool}(q:Q (.bl b) H) (e:zcu1 K (.type "bool") (.type n)=some b:=by rfl):zx2 K (.bl i) (.ty n) H Q:=by
 unfold zx2;exact⟨_,b,.bl i,fun cv r=>by cases r;exact e,q⟩
theorem zcc9 {n:String}{b:Bool}(q:Q (.bl b) H) (e:zcu1 K (.type "NoneType") (.type n)=some b:=by rfl):zx2 K .non (.ty n) H Q:=by
 unfold zx2;exact⟨_,b,.non,fun cv r=>by cases r;exact e,q⟩
theorem zcg0 {x:Str}{n:String}{b:Bool}(q:Q (.bl b) H) (e:zcu1 K (.type "str") (.type n)=some b:=by rfl):zx2 K (.str x) (.ty n) H Q:=by
 unfold zx2;exact⟨_,b,.str x,fun cv r=>by cases r;exact e,q⟩
theorem zae7 {n:String}{b:Bool}(h:H p=some (.tup xs)) (q:Q (.bl b) H) (e:zcu1 K (.type "tuple") (.type n)=some b:=by rfl):zx2 K (.ref p) (.ty n) H Q:=by
 unfold zx2;exact⟨_,b,.tup h,fun cv r=>by cases r;exact e,q⟩
theorem zan4 {n:String}{b:Bool}(h:H p=some (.lst xs)) (q:Q (.bl b) H) (e:zcu1 K (.type "list") (.type n)=some b:=by rfl):zx2 K (.ref p) (.ty n) H Q:=by
 unfold zx2;exact⟨_,b,.lst h,fun cv r=>by cases r;exact e,q⟩
end
theorem zcb5:bootBuiltins "max"=some (.builtin "max"):=by decide +kernel
theorem zcc1:bootBuiltins "min"=some (.builtin "min"):=by decide +kernel
theorem zg5:bootBuiltins "len"=some (.builtin "len"):=by decide +kernel
theorem zah4:bootBuiltins "sum"=some (.builtin "sum"):=by decide +kernel
theorem zw8:bootBuiltins "all"=some (.builtin "all"):=by decide +kernel
theorem zd7:bootBuiltins "isinstance"=some (.builtin "isinstance"):=by decide +kernel
theorem zbs8:bootBuiltins "sorted"=some (.builtin "sorted"):=by decide +kernel
theorem zbe2:bootBuiltins "int"=some (.type "int"):=by decide +kernel
theorem zcf4:bootBuiltins "bool"=some (.type "bool"):=by decide +kernel
theorem zaa0:bootBuiltins "list"=some (.type "list"):=by decide +kernel
theorem zan2:bootBuiltins "tuple"=some (.type "tuple"):=by decide +kernel
theorem pTy {x:Str}{n:String}{pos:Pos}(hm:X.mg x=none) (hv:bootBuiltins x=some (.type n)) (hg:Gl X x:=by rfl) (hn:x≠"__name__":=by decide) (hd:(x==("__debug__":Str))=false:=by decide):PE X (.Name x pos) (tC (.ty n)):=
 zcd2 hg hm hv rfl hn hd
theorem pB {x:Str}{p pos:Pos}{e:Expr}{es:List Expr}{t:TA}{id:String}{r:List V->Hp->VK->Prop}(hc:zp7 X (.builtin id) r) (hm:X.mg x=none) (hv:bootBuiltins x=some (.builtin id)) (ha:PA X (e :: es) t) (hg:Gl X x:=by rfl) (hn:x≠"__name__":=by decide) (hdb:(x==("__debug__":Str))=false:=by decide)
  (he:starEach (e :: es) X.env=(false,eval e X.env) :: starEach es X.env:=by rfl) (hpl:(backTo pos (starEach es X.env)).any (·.1)=false:=by rfl):PE X (.Call (.Name x p) (e :: es) [] pos) (tCB r t):=zbu1 hc hg hm hv ha hn hdb he hpl
theorem pT {x:Str}{p pos:Pos}{e:Expr}{es:List Expr}{t:TA}{id:String}{r:List V->Hp->VK->Prop}(hc:zp7 X (.type id) r) (hm:X.mg x=none) (hv:bootBuiltins x=some (.type id)) (ha:PA X (e :: es) t) (hg:Gl X x:=by rfl) (hn:x≠"__name__":=by decide) (hdb:(x==("__debug__":Str))=false:=by decide)
  (he:starEach (e :: es) X.env=(false,eval e X.env) :: starEach es X.env:=by rfl) (hpl:(backTo pos (starEach es X.env)).any (·.1)=false:=by rfl):PE X (.Call (.Name x p) (e :: es) [] pos) (tCB r t):=zbq0 hc hg hm hv ha hn hdb he hpl
structure Def (P:Program) (w:World) (K:zcq5) (mg:Str->Option Value) (base:Heap) (CX:CXT) (k:Nat) (x:Str) (ps:List Str) (sp:Sp):Prop where
 ex:∃ (f:Addr) (fd:FuncData),FnOk P w K mg base CX k f fd ps sp/\mg x=some (.ref f)/\zcr5 K (.ref f)=true/\zai2 K fd ps []
def qCall (sp:Sp) (E:XK) (t:TA):TE:=fun σ H Q=>t σ H fun vs H1=>sp vs H1 Q E
theorem pD {CX:CXT}{k j:Nat}{x:Str}{ps:List Str}{sp:Sp}{E:XK}{p pos:Pos}{e:Expr}{es:List Expr}{t:TA}(F:Def X.prog X.w X.K X.mg X.base CX k x ps sp) (hr:Room j X.A) (hx:zaw2 CX X E) (ha:PA X (e :: es) t) (hk:k<=j:=by decide) (hg:Gl X x:=by rfl)
  (hdb:(x==("__debug__":Str))=false:=by decide) (he:starEach (e :: es) X.env=(false,eval e X.env) :: starEach es X.env:=by rfl) (hpl:(backTo pos (starEach es X.env)).any (·.1)=false:=by rfl) :
  PE X (.Call (.Name x p) (e :: es) [] pos) (qCall sp E t):=by
 obtain⟨f,fd,F1,F2,F3,F4⟩:=F.ex
 intro pins s σ H Q I h
 refine zcg7 F1 (hr.mono hk) hg F2 F3 F4 .nil hx ha hdb he hpl pins s σ H Q I ?_
 unfold tCall
 simp only[List.append_nil]
 exact h
theorem psS {i:Nat}{x:Str}{e:Expr}{te:TE}{pos' pos:Pos}(hN:X.N.Nodup) (he:PE X e te) (hi:X.N[i]?=some x:=by rfl) (hx:Loc X.env.scope x:=by first|exact Or.inl rfl|exact Or.inr rfl) (hs:swapsWith e (some (.Name x pos')) pos.line X.env=pure false:=by rfl) (hf:X.fn x=true∨X.env.scope.names.lookup x=some .local:=by first|exact .inl rfl|exact .inr rfl|assumption) :
  PS X (.Assign [.Name x pos'] e pos) (tAsg te (gName i)):=ps_set hN hi hx he hs hf
section
variable {K:zcq5}{H:Hp}{Q:VK}{p:Addr}{xs:List V}{i j:Int}
theorem zad8 (h1:-18446744073709551616<i) (h2:i<18446744073709551616) (q:Q (.int (i*j)) H):zbf9 i j H Q:=zu6 (.of_left (intBits_le_64 (by simpa using h1) (by simpa using h2))) q
theorem zce7 (h1:-18446744073709551616<j) (h2:j<18446744073709551616) (q:Q (.int (i*j)) H):zbf9 i j H Q:=zu6 (.of_right (intBits_le_64 (by simpa using h1) (by simpa using h2))) q
theorem zaf7 (h:0<j) (q:∀ r:Int,0<=r->r<j->Q (.int r) H):zbo5 i j H Q:=zbs3 h (q _ (Int.emod_nonneg _ (by omega)) (Int.emod_lt_of_pos _ h))
theorem zac6 (h:H p=some (.lst xs)) (h0:0<=i) (h1:i<xs.length) (q:∀ v,v∈xs->Q v H):rIxA K p i H Q:=by
 have hl:i.toNat<xs.length:=by omega
 refine zb6 h (v:=xs[i.toNat]) ?_ (q _ (zcw5 hl))
 have e:((i.toNat:Nat):Int)=i:=by omega
 have z:=zc5 (zcq4 hl)
 rw[e] at z
 exact z
theorem hu40 {A:Around}{k:Nat}(hr:Room k A):A.units+40<cLine:=by have:=hr.units;omega
end
@[irreducible] def qCut (t:TS):TS:=fun D σ H=>∃ R:St->Hp->Prop,t { D with nx:=R } σ H/\∀ σ' H',R σ' H'->D.nx σ' H'
theorem psCut {st:Stmt}{t:TS}(h:PS X st t):PS X st (qCut t):=fun pins s σ H D I hq=>by
 unfold qCut at hq
 obtain⟨R,h1,h2⟩:=hq
 refine thn (h pins s σ H _ I h1) fun f s' q=>?_
 cases f with
 | next=>obtain⟨σ',H',I',z⟩:=q;exact⟨σ',H',I',h2 _ _ z⟩
 | brk=>exact q
 | cont=>exact q
 | ret u=>exact q
theorem zbj8 {t:TS}{D:Ends}{σ:St}{H:Hp}(R:St->Hp->Prop) (h1:t { D with nx:=R } σ H) (h2:∀ σ' H',R σ' H'->D.nx σ' H'):qCut t D σ H:=by unfold qCut;exact⟨R,h1,h2⟩
end
end L2
set_option maxHeartbeats 2000000
namespace L2
open PySem PySem.Spec PyProof.Rows
theorem zz7 {env:Env}:∀ (names:List (Str×NameKind)) (acc:List (Str×Addr)),(∀ x∈names,x.2=.free->∃ c,env.cells.lookup x.1=some c) ->
  ∃ acc',(forIn (m:=Sem) names acc (fun (x:Str×NameKind) (r:List (Str×Addr))=>if (x.2==.free)=true then (do let c ← cellOf env x.1;pure (ForInStep.yield ((x.1,c) :: r))) else pure (ForInStep.yield r)))=pure acc' /\
   (∀ x c,acc'.lookup x=some c->acc.lookup x=some c∨env.cells.lookup x=some c)/\(∀ x c,acc.lookup x=some c->∃ c',acc'.lookup x=some c')/\∀ x∈names,x.2=.free->∃ c,acc'.lookup x.1=some c
 | [],acc,_=>⟨acc,rfl,fun _ _ h=>.inl h,fun _ c h=>⟨c,h⟩,fun _ h=>by cases h⟩
 | (n,k) :: r,acc,h=>by
  by_cases hk:k=.free
  ·subst hk
   obtain⟨c,hc⟩:=h (n,.free) zcv7 rfl
   obtain⟨acc',e,h1,h2,h3⟩:=zz7 r ((n,c) :: acc) fun x hx=>h x (zcu7 _ hx)
   have hco:cellOf env n=pure c:=by unfold cellOf;rw[hc]
   refine⟨acc',?_,fun x d hd=>?_,fun x d hd=>?_,fun x hx hf=>?_⟩
   ·rw[List.forIn_cons]
    simp only[hco]
    exact e
   ·rcases h1 x d hd with q|q
    ·rw[zct7] at q
     split at q
     ·rename_i hx
      have hx:x=n:=by simpa using hx
      subst hx
      cases q
      exact .inr hc
     ·exact .inl q
    ·exact .inr q
   ·by_cases hx:x=n
    ·subst hx
     exact h2 x c (by simp[zct7])
    ·refine h2 x d ?_
     rw[zct7]
     have:(x==n)=false:=by simpa using hx
     rw[this];exact hd
   ·rcases zcs2.mp hx with rfl|hx
    ·exact h2 n c (by simp[zct7])
    ·exact h3 x hx hf
  ·obtain⟨acc',e,h1,h2,h3⟩:=zz7 r acc fun x hx=>h x (zcu7 _ hx)
   refine⟨acc',?_,h1,h2,fun x hx hf=>?_⟩
   ·rw[List.forIn_cons]
    have:(k==NameKind.free)=false:=by simpa using hk
    simp only[this]
    exact e
   ·rcases zcs2.mp hx with rfl|hx
    ·exact absurd hf hk
    ·exact h3 x hx hf
theorem zz8 {scope:Scope}{env:Env}(h:∀ x∈scope.names,x.2=.free->∃ c,env.cells.lookup x.1=some c) :
  ∃ cl,closureFor scope env=pure cl/\(∀ x c,cl.lookup x=some c->env.cells.lookup x=some c)/\∀ x∈scope.names,x.2=.free->∃ c,cl.lookup x.1=some c:=by
 obtain⟨cl,e,h1,_,h3⟩:=zz7 (env:=env) scope.names [] h
 refine⟨cl,?_,fun x c hc=>(h1 x c hc).elim (fun q=>by cases q) id,h3⟩
 unfold closureFor
 show (forIn (m:=Sem) scope.names ([]:List (Str×Addr)) _ >>= fun r=>pure r)=_
 rw[e]
 rfl
theorem zv0 {env:Env}:∀ {names:List (Str×NameKind)}{x:Str},names.lookup x=some .free ->
  (names.map fun (n,k)=>if (k==NameKind.free&&env.scope.kind==.function&&env.kindOf n==some .cell) then (n,NameKind.cell) else (n,k)).lookup x=some .cell ∨
  (names.map fun (n,k)=>if (k==NameKind.free&&env.scope.kind==.function&&env.kindOf n==some .cell) then (n,NameKind.cell) else (n,k)).lookup x=some .free
 | [],_,h=>by simp at h
 | (n,k) :: r,x,h=>by
  have ih:=@zv0 env r x
  show List.lookup x ((if (k==NameKind.free&&env.scope.kind==.function&&env.kindOf n==some .cell)=true then (n,NameKind.cell) else (n,k)) :: _)=_∨List.lookup x ((if (k==NameKind.free&&env.scope.kind==.function&&env.kindOf n==some .cell)=true then (n,NameKind.cell) else (n,k)) :: _)=_
  cases hx:x==n with
  | true=>
   simp only[zct7,hx] at h
   cases h
   by_cases hc:(NameKind.free==NameKind.free&&env.scope.kind==.function&&env.kindOf n==some .cell)=true
   ·left;rw[if_pos hc];simp only[zct7,hx]
   ·right;rw[if_neg hc];simp only[zct7,hx]
  | false=>
   simp only[zct7,hx] at h
   by_cases hc:(k==NameKind.free&&env.scope.kind==.function&&env.kindOf n==some .cell)=true
   ·rw[if_pos hc];simp only[zct7,hx];exact ih h
   ·rw[if_neg hc];simp only[zct7,hx];exact ih h
theorem zu8 {env:Env}:∀ {names:List (Str×NameKind)}{x:Str}{k':NameKind},(∀ y∈names,y.2≠.cell)->(k'=.cell∨k'=.free) ->
  (names.map fun (n,k)=>if (k==NameKind.free&&env.scope.kind==.function&&env.kindOf n==some .cell) then (n,NameKind.cell) else (n,k)).lookup x=some k'->∃ y∈names,y.1=x/\y.2=.free
 | [],_,_,_,_,h=>by simp at h
 | (n,k) :: r,x,k',hn,hk,h=>by
  have ih:=@zu8 env r x k' (fun y hy=>hn y (zcu7 _ hy)) hk
  replace h:List.lookup x ((if (k==NameKind.free&&env.scope.kind==.function&&env.kindOf n==some .cell)=true then (n,NameKind.cell) else (n,k)) :: List.map (fun (n,k)=>if (k==NameKind.free&&env.scope.kind==.function&&env.kindOf n==some .cell) then (n,NameKind.cell) else (n,k)) r)=some k':=h
  cases hx:x==n with
  | true=>
   have hx':x=n:=by simpa using hx
   by_cases hf:k=.free
   ·exact⟨(n,k),zcv7,hx'.symm,hf⟩
   ·have hc:¬ (k==NameKind.free&&env.scope.kind==.function&&env.kindOf n==some .cell)=true:=by
     have:(k==NameKind.free)=false:=by simpa using hf
     rw[this];simp
    rw[if_neg hc] at h
    simp only[zct7,hx] at h
    have:k=k':=Option.some.inj h
    subst this
    rcases hk with hk|hk
    ·exact absurd hk (hn (n,k) zcv7)
    ·exact absurd hk hf
  | false=>
   have h':List.lookup x (List.map (fun (n,k)=>if (k==NameKind.free&&env.scope.kind==.function&&env.kindOf n==some .cell) then (n,NameKind.cell) else (n,k)) r)=some k':=by
    by_cases hc:(k==NameKind.free&&env.scope.kind==.function&&env.kindOf n==some .cell)=true
    ·rw[if_pos hc] at h;simp only[zct7,hx] at h;exact h
    ·rw[if_neg hc] at h;simp only[zct7,hx] at h;exact h
   obtain⟨y,hy,h1,h2⟩:=ih h'
   exact⟨y,zcu7 _ hy,h1,h2⟩
def blk (X:Cx) (N:List Str) (scope:Scope) (cl:List (Str×Addr)) (C:Addr) (s3:Shared) (H3:Hp) (fp:List Addr):Cx:=
 { X with N:=N,s₀:=s3,H₀:=H3,env:=compEnvC scope cl C X.env,outer:=X.stack,ex:=fp,fn:=fun _=>false,pn:=[],xe:=fun _ _=>False }
def PTs (X:Cx) (ifs:List Expr) (t:TT):Prop:=
 ∀ (pins:List (Addr×Obj)) (s:Shared) (σ:St) (H:Hp) (Q:Bool->Hp->Prop),Inv X pins σ H s->t σ H Q ->
  wpAny (model X.prog X.w) X.A (forIn ifs true fun c r=>if r=true then do let ok ← isTrue c X.env (eval c X.env);pure (ForInStep.yield ok) else pure (ForInStep.yield r)) (TP X pins σ Q) X.xe s
theorem zc4 {X:Cx}:PTs X [] (fun _ H Q=>Q true H):=fun _ _ _ H _ I h=>wpAny_tests_nil ⟨H,I,h⟩
@[irreducible] def cPut (W:Nat->Nat->List V->St->Hp->Prop) (acc:Addr) (ys:List V) (i m:Nat) (σ2:St) (v:V) (H5:Hp):Prop:=
 H5 acc=some (.lst ys)/\∀ H6,Chg acc H5 H6->H6 acc=some (.lst (ys++[v]))->∃ m',m'<m/\W (i+1) m' (ys++[v]) σ2 H6
@[irreducible] def zah9 (W:Nat->Nat->List V->St->Hp->Prop) (ys:List V) (i m:Nat) (σ2:St) (H4:Hp):Prop:=∃ m',m'<m/\W (i+1) m' ys σ2 H4
@[irreducible] def zx5 (J:It) (g:TG) (tt:TT) (te:TE) (σ0:St) (H1:Hp) (Q:VK):Prop:=
 ∀ acc H2,H1 acc=none->Same H1 H2->H2 acc=some (.lst [])->∃ W:Nat->Nat->List V->St->Hp->Prop,(∃ m,W 0 m [] σ0 H2)/\∀ i m ys σ H,W i m ys σ H->H acc=some (.lst ys)/\ys.length<sizeLine /\
  ((J.stop i H/\Q (.ref acc) H)∨(J.go i H/\∀ x H',J.yld i H x H'->g x σ H' fun σ2 H3=>tt σ2 H3 fun b H4=>
   br b (te σ2 H4 fun v H5=>cPut W acc ys i m σ2 v H5) (zah9 W ys i m σ2 H4)))
section
variable {X:Cx}{pins:List (Addr×Obj)}{σ:St}{H:Hp}{s2:Shared}
theorem zce5 {N:List Str}{scope:Scope}{cl:List (Str×Addr)}{C:Addr}{s3 s4:Shared}{H3:Hp}{fp:List Addr}{σc:St}(I:Inv X pins σ H3 s3)
  (hcl1:∀ x c,cl.lookup x=some c->X.env.cells.lookup x=some c) (hcl2:∀ x∈scope.names,x.2=.free->∃ c,cl.lookup x.1=some c) (hkind:scope.kind=.function) (hcell:∀ y∈scope.names,y.2≠.cell)
  (hcap:∀ (i:Nat) (x:Str) (v:V),N[i]?=some x->σc[i]?=some (some v)->∃ j:Nat,X.N[j]?=some x/\σ[j]?=some (some v)/\scope.names.lookup x=some .free/\(X.env.kindOf x=some .cell∨X.env.kindOf x=some .free))
  (hlen:σc.length=N.length) (hC:s3.heap.objs.size=C) (hfp:∀ b∈fp,FpOk X pins H3 b) (hfpl:∀ b∈fp,b<C) (hex:∀ b o,X.base.get? b=some o->b ∉ fp) (hns:∃ m,s4.heap.Ns C m) (hk:∀ b o,s3.heap.get? b=some o->s4.heap.get? b=some o) (h4:s4.os=s3.os) (h5:s4.gens=s3.gens) :
  Inv (blk X N scope cl C s3 H3 fp) [] σc H3 s4:=by
 subst hC
 have look:∀ x,(blk X N scope cl s3.heap.objs.size s3 H3 fp).env.kindOf x=(relabel scope X.env).names.lookup x:=fun x=>rfl
 have cne:∀ x c,cl.lookup x=some c->c<s3.heap.objs.size:=fun x c h=>by
  obtain⟨v,o,ho,_⟩:=I.cell x c (hcl1 x c h)
  exact zcs0 ho
 refine⟨⟨I.ok.mod,?_,I.ok.glob,I.ok.blt,zcr9 _,fun x y c h1 h2=>I.ok.inj x y c (hcl1 _ _ h1) (hcl1 _ _ h2),fun x hx=>?_,fun x c h=>?_,I.ok.hd,I.ok.frames,.inl rfl,fun b hb=>⟨zct6 (hfpl b hb),fun x c h=>?_⟩,fun b o e=>I.bs b o e,zcv1 I.ok.bsz I.sz,fun b o e=>hex b o e,fun b hb=>?_,I.stack,I.stkFree⟩,
  h4,by rw[h5];exact I.bare,Un.kept hk,?_,fun x c h=>?_,I.hok.fresh (zcr9 _),fun x c h=>I.freeC x c (hcl1 _ _ h),fun p hp=>(by cases hp),I.hok.kept hk,hlen⟩
 ·exact hkind
 ·have hx':(relabel scope X.env).names.lookup x=some .cell∨(relabel scope X.env).names.lookup x=some .free:=hx
  have hz:∃ y∈scope.names,y.1=x/\y.2=.free:=by
   rcases hx' with q|q
   ·exact zu8 hcell (.inl rfl) q
   ·exact zu8 hcell (.inr rfl) q
  obtain⟨y,hy,rfl,hf⟩:=hz
  exact hcl2 y hy hf
 ·exact absurd (show false=true from h) zcr2
 ·exact (hfp b hb).2.2.2.2.1 x c (hcl1 x c h)
 ·have:=(hfp b hb).1
  intro hz
  obtain⟨f0,f1,f2,_⟩:=hfp b hb
  have hz:b∈frs X.stack:=hz
  rcases zcs2.mp (I.stkSub b hz) with q|q
  ·exact f1 q
  ·exact f2 q
 ·obtain⟨m,hm⟩:=hns
  refine⟨m,hm,fun i x v h1 h2 h3=>?_⟩
  obtain⟨j,e1,e2,e3,e4⟩:=hcap i x v h1 h2
  obtain⟨mX,_,hl⟩:=I.loc
  obtain⟨u,r,q⟩:=hl j x v e1 e2 (by rcases e4 with e4|e4;exact .inr (.inl e4);exact .inr (.inr e4))
  refine⟨u,r,.inr ⟨zv0 e3,?_⟩⟩
  obtain⟨c,hc⟩:=hcl2 (x,.free) (PySem.mem_of_lookup e3) rfl
  refine⟨c,hc,?_⟩
  have hc':=hcl1 x c hc
  rcases q with ⟨k,_⟩|⟨_,c2,e5,o,ho,hd⟩
  ·rcases e4 with e4|e4<;>rw[e4] at k<;>cases k
  ·rw[hc'] at e5
   cases e5
   exact⟨o,hk _ _ ho,hd⟩
 ·obtain⟨v,o,ho,hd⟩:=I.cell x c (hcl1 x c h)
  exact⟨v,o,hk _ _ ho,hd⟩
theorem zat4 {prog:Program}{w:World}{A:Around}{R:Result->Shared->Prop}{s:Shared}{elt target iter:Expr}{ifs:List Expr}{scope:Scope}{pos:Pos}{it acc:Value}{env:Env}(I:Nat->Shared->Prop)
  (turn:∀ n s,I n s->wpAny (model prog w) A (pyNext it) (fun r s₁=>match r with
   | none=>R (.ok .next) s₁
   | some v=>wpAny (model prog w) A (letOwnedTupleGo target it v) (fun _ s₁'=>wpAny (model prog w) A (assign target env v) (fun _ s₂=>
     wpAny (model prog w) A (forIn ifs true fun c r=>if r=true then do let ok ← isTrue c env (eval c env);pure (ForInStep.yield ok) else pure (ForInStep.yield r)) (fun ok s₃=>
      if ok=true then wpAny (model prog w) A (eval elt env) (fun x s₄=>
       wpAny (model prog w) A (call (.builtin "list.append") [acc,x]) (fun _ s₅=>∃ m,m<n/\I m s₅) (fun _ _=>False) s₄) (fun _ _=>False) s₃
      else ∃ m,m<n/\I m s₃) (fun _ _=>False) s₂) (fun _ _=>False) s₁') (fun _ _=>False) s₁) (fun _ _=>False) s)
  (n:Nat) (h:I n s):codeAny (model prog w) A (.compLoop (.ListComp elt [⟨target,iter,ifs,0⟩] scope pos) 0 it acc env) R s:=by
 refine codeAny_loop rfl I (fun n s hI=>?_) n h
 show wpAny _ A ((compTurn (.ListComp elt [⟨target,iter,ifs,0⟩] scope pos) 0 it acc env).onRaise (fun x=>do noteFrame x env;theTreesLotGoes x)) _ _ s
 refine wpAny_noted ?_
 rw[compTurn_list]
 refine wpAny_bind (wpAny_standAt (wpAny_bind (wpAny_mono (turn n s hI) (fun r s₁ h₁=>?_) fun _ _ h'=>h'.elim)))
 cases r with
 | none=>exact wpAny_pure h₁
 | some v=>
  refine wpAny_bind (wpAny_mono h₁ (fun _ s₁' h₁'=>?_) fun _ _ h'=>h'.elim)
  refine wpAny_bind (wpAny_mono h₁' (fun _ s₂ h₂=>wpAny_bind (wpAny_mono h₂ (fun ok s₃ h₃=>?_) fun _ _ h'=>h'.elim)) fun _ _ h'=>h'.elim)
  cases ok with
  | false=>exact wpAny_pure ⟨rfl,h₃⟩
  | true=>
   exact wpAny_bind (wpAny_bind (wpAny_mono h₃ (fun x s₄ h₄=>wpAny_bind (wpAny_mono h₄ (fun _ s₅ h₅=>wpAny_pure (wpAny_pure ⟨rfl,h₅⟩)) fun _ _ h'=>h'.elim)) fun _ _ h'=>h'.elim))
theorem zav6 {E:Value->Shared->Prop}{elt tg iter:Expr}{ifs:List Expr}{scope:Scope}{pos:Pos}{cl:List (Str×Addr)}{N:List Str}{σc:St}{J:It}{fp:List Addr}{it:Addr}{tn:Nat->Heap->Prop}{g:TG}{tt:TT}{te:TE}{Q:VK}
  {RR:Value->Addr->Result->Shared->Prop}
  (hcl1:∀ x c,cl.lookup x=some c->X.env.cells.lookup x=some c) (hcl2:∀ x∈scope.names,x.2=.free->∃ c,cl.lookup x.1=some c) (hkind:scope.kind=.function) (hcell:∀ y∈scope.names,y.2≠.cell)
  (hcap:∀ (i:Nat) (x:Str) (v:V),N[i]?=some x->σc[i]?=some (some v)->∃ j:Nat,X.N[j]?=some x/\σ[j]?=some (some v)/\scope.names.lookup x=some .free/\(X.env.kindOf x=some .cell∨X.env.kindOf x=some .free))
  (hlen:σc.length=N.length) (hc:X.calm=true) (I:Inv X pins σ H s2) (T:Turn X.prog X.w X.K tg J fp it tn) (st:tn 0 s2.heap) (fpok:∀ b∈fp,FpOk X pins H b)
  (hg:∀ C s3 H3 fp,PG (blk X N scope cl C s3 H3 fp) tg g) (ht:∀ C s3 H3 fp,PTs (blk X N scope cl C s3 H3 fp) ifs tt) (he:∀ C s3 H3 fp,PE (blk X N scope cl C s3 H3 fp) elt te)
  (h:zx5 J g tt te σc H Q)
  (hRR:∀ (acc C:Addr) (H':Hp) (s':Shared),Inv X pins σ H' s'->FpOk X pins H' C->(∃ m,s'.heap.Ns C m)->Q (.ref acc) H'->RR (.ref acc) C (.ok .next) s') :
  wpAny (model X.prog X.w) X.A (newList []) (fun acc s₃=>wpAny (model X.prog X.w) X.A (newFunctionEnv scope X.env.globals cl [] X.env.qual none .none (some X.env)) (fun cenv s₄=>
   codeAny (model X.prog X.w) X.A (.compStart (.ListComp elt [⟨tg,iter,ifs,0⟩] scope pos) 0 (.ref it) acc { cenv with scope:=relabel scope X.env }) (RR acc cenv.locals) s₄) E s₃) E s2:=by
 refine wpAny_newObj_type (wpAny_newFunctionEnv hcell (by intro y hy;simp at hy) (fun h₁ hns₁ hsb₁=>?_) hkind)
 dsimp only at hns₁ hsb₁ ⊢
 have hf:H s2.heap.objs.size=none:=I.fresh
 have I3:Inv X pins σ (upd H s2.heap.objs.size (.lst [])) { s2 with heap:=s2.heap.push { cls:=.type "list",data:=.seq ([]:List Value).toArray } }:=I.lnew (t':=s2.toks) (its:=[]) .nil (zcu4 _)
 generalize hs3:({ s2 with heap:=s2.heap.push { cls:=.type "list",data:=.seq ([]:List Value).toArray } }:Shared)=s3 at I3
 have hH:s2.heap.push { cls:=.type "list",dict:=none,data:=.seq ([]:List Value).toArray }=s3.heap:=by rw[← hs3]
 rw[hH] at hns₁ hsb₁ ⊢
 have hsz:s3.heap.objs.size=s2.heap.objs.size+1:=by rw[← hH,zcw8]
 have old23:∀ b o,s2.heap.get? b=some o->s3.heap.get? b=some o:=fun b o e=>by rw[← hH];exact zcq9 _ e
 have fplt:∀ b∈fp,b<s2.heap.objs.size:=fun b hb=>by
  obtain⟨o,e,_⟩:=T.obj 0 _ st b hb
  exact zcs0 e
 have fp3:∀ b∈fp,FpOk X pins (upd H s2.heap.objs.size (.lst [])) b:=fun b hb=>by
  obtain⟨f0,f1⟩:=fpok b hb
  refine⟨?_,f1⟩
  rw[zc3 (zct6 (fplt b hb))]
  exact f0
 have old34:∀ b o,s3.heap.get? b=some o->h₁.get? b=some o:=fun b o e=>hsb₁.extBut b o (zct6 (zcs0 e)) (zcq9 _ e)
 have nob:∀ b o,X.base.get? b=some o->b ∉ fp:=fun b o e hb=>by
  obtain⟨_,_,_,f3,_,_⟩:=fpok b hb
  rcases f3 with f3|f3
  ·exact I.ok.noex b o e f3
  ·exact absurd (zcs7 (zcs0 e) I.ok.bsz) (Nat.not_lt.mpr f3)
 have hs4e:({ s2 with heap:=h₁,toks:=s2.toks+([]:List (Str×Value)).length }:Shared).os=s3.os:=by rw[← hs3]
 have hs4g:({ s2 with heap:=h₁,toks:=s2.toks+([]:List (Str×Value)).length }:Shared).gens=s3.gens:=by rw[← hs3]
 have I4:Inv (blk X N scope cl s3.heap.objs.size s3 (upd H s2.heap.objs.size (.lst [])) fp) [] σc (upd H s2.heap.objs.size (.lst [])) { s2 with heap:=h₁,toks:=s2.toks+([]:List (Str×Value)).length }:=
  zce5 (s4:={ s2 with heap:=h₁,toks:=s2.toks+([]:List (Str×Value)).length }) I3 hcl1 hcl2 hkind hcell hcap hlen rfl fp3 (fun b hb=>zcs7 (fplt b hb) (by rw[hsz];exact zcx0 _)) nob ⟨_,hns₁⟩ old34 hs4e hs4g
 have st4:tn 0 h₁:=T.keep _ _ _ st fun b hb o e=>old34 b o (old23 b o e)
 unfold zx5 at h
 obtain⟨W,⟨m0,w0⟩,turn⟩:=h s2.heap.objs.size _ hf (Same.upd hf) zc2
 have loop:codeAny (model X.prog X.w) X.A (.compLoop (.ListComp elt [⟨tg,iter,ifs,0⟩] scope pos) 0 (.ref it) (.ref s2.heap.objs.size) (blk X N scope cl s3.heap.objs.size s3 (upd H s2.heap.objs.size (.lst [])) fp).env)
   (RR (.ref s2.heap.objs.size) s3.heap.objs.size) { s2 with heap:=h₁,toks:=s2.toks+([]:List (Str×Value)).length }:=by
  refine zat4 (fun n s'=>∃ i ys σ' H',Inv (blk X N scope cl s3.heap.objs.size s3 (upd H s2.heap.objs.size (.lst [])) fp) [] σ' H' s'/\tn i s'.heap/\(∀ b∈fp,H' b=none)/\W i n ys σ' H') ?_ m0 ⟨0,[],σc,_,I4,st4,fun b hb=>(fp3 b hb).1,w0⟩
  rintro n s5 ⟨i,ys,σ5,H5,I5,st5,fr5,w5⟩
  obtain⟨hacc,hl5,hcase⟩:=turn i n ys σ5 H5 w5
  have stat:∀ {H':Hp},(∀ b∈fp,H' b=none)->∀ b∈fp,FpOk (blk X N scope cl s3.heap.objs.size s3 (upd H s2.heap.objs.size (.lst [])) fp) [] H' b:=fun hn b hb=>by
   obtain⟨_,f1,f2,f3,f4,_⟩:=fpok b hb
   refine⟨hn b hb,zct6 (zcs7 (fplt b hb) (by rw[hsz];exact zcx0 _)),fun hz=>?_,.inl hb,fun x c hx=>f4 x c (hcl1 x c hx),fun p hp=>by cases hp⟩
   rcases zcs2.mp (I.stkSub b hz) with q|q
   ·exact f1 q
   ·exact f2 q
  rcases hcase with ⟨stop,hq⟩|⟨go,step⟩
  ·refine thn (T.done (blk X N scope cl s3.heap.objs.size s3 (upd H s2.heap.objs.size (.lst [])) fp) rfl rfl rfl hc i [] s5 σ5 H5 (fun _ _=>False) I5 (stat fr5) st5 stop) fun r s6 ⟨hr,I6⟩=>?_
   subst hr
   have u1:Un (frs X.stack) fp H (upd H s2.heap.objs.size (.lst [])) s2.heap s3.heap:=Un.laid old23 (zcr9 _) hf
   have u2:Un (frs X.stack) fp (upd H s2.heap.objs.size (.lst [])) H5 s3.heap s6.heap:=I6.base
   have hC:H5 s3.heap.objs.size=none:=I6.free
   obtain⟨m6,hm6,_⟩:=I6.loc
   have hos:s6.os=s2.os:=by rw[I6.os];show s3.os=s2.os;rw[← hs3]
   have hok6:=I6.hok
   have bare6:=I6.bare
   obtain⟨hh,gg,dd,tt',os'⟩:=s6
   obtain rfl:os'=s2.os:=hos
   exact hRR _ _ H5 _ (I.call (h':=hh) (g':=gg) (d':=dd) (t':=tt') (ch:=fp) (u1.trans u2) hok6 bare6 fun b hb=>⟨(fpok b hb).2.2.2.1,(fpok b hb).2.1,(fpok b hb).2.2.2.2.1,(fpok b hb).2.2.2.2.2⟩)
    (I.fpOk (by rw[hsz];exact zcx0 _) hC) ⟨m6,hm6⟩ hq
  ·refine thn (T.item (blk X N scope cl s3.heap.objs.size s3 (upd H s2.heap.objs.size (.lst [])) fp) rfl rfl rfl hc i [] s5 σ5 H5 (fun _ _=>False) I5 (stat fr5) st5 go) fun r s6 ⟨u,hr,h6⟩=>?_
   subst hr
   refine thn h6 fun _ s7 ⟨x,H7,I7,r7,y7,st7,fr7⟩=>?_
   have I7':=I7.pinned (stat fr7) (T.obj _ _ st7)
   refine thn (hg _ _ _ _ _ s7 σ5 H7 x u _ I7' r7 (step x H7 y7)) fun _ s8 ⟨σ8,H8,I8,q8⟩=>?_
   refine thn (ht _ _ _ _ _ s8 σ8 H8 _ I8 q8) fun ok s9 ⟨H9,I9,q9⟩=>?_
   have again:∀ {s10:Shared}{σ10:St}{H10:Hp}{zs:List V},Inv (blk X N scope cl s3.heap.objs.size s3 (upd H s2.heap.objs.size (.lst [])) fp) ([]++zal6 fp s7.heap) σ10 H10 s10->(∃ m',m'<n/\W (i+1) m' zs σ10 H10) ->
     ∃ m,m<n/\∃ i ys σ' H',Inv (blk X N scope cl s3.heap.objs.size s3 (upd H s2.heap.objs.size (.lst [])) fp) [] σ' H' s10/\tn i s10.heap/\(∀ b∈fp,H' b=none)/\W i m ys σ' H':=fun {s10 σ10 H10 zs} I10 ⟨m',hm,w10⟩=>by
    refine⟨m',hm,i+1,zs,σ10,H10,I10.unpinned,T.keep _ _ _ st7 fun b hb o e=>(I10.pin (b,o) (zct8 _ (zct8 _ (zq2 hb e)))).1,fun b hb=>?_,w10⟩
    obtain⟨o,e,d⟩:=T.obj _ _ st7 b hb
    exact (I10.pin (b,o) (zct8 _ (zct8 _ (zq2 hb e)))).2.1
   dsimp only at q9
   rw[zab6] at q9
   cases ok with
   | false=>
    have q9:∃ m',m'<n/\W (i+1) m' ys σ8 H9:=by rw[if_neg zcr2] at q9;unfold zah9 at q9;exact q9
    exact again I9 q9
   | true=>
    have q9:=(if_pos rfl▸q9:te σ8 H9 _)
    refine thn (he _ _ _ _ _ s9 σ8 H9 _ I9 q9) fun v s10 ⟨y,H10,I10,r10,q10⟩=>?_
    unfold cPut at q10
    obtain⟨e10,q10⟩:=q10
    refine thn (zag0 _ s10 σ8 H10 (.ref s2.heap.objs.size) [y] (.ref s2.heap.objs.size) [v] (fun _ H11=>∃ m',m'<n/\W (i+1) m' (ys++[y]) σ8 H11) I10 rfl (.cons r10 .nil) ⟨_,ys,y,rfl,rfl,e10,hl5,q10 _ Chg.upd zc2⟩) fun _ s11 ⟨z,H11,I11,_,q11⟩=>?_
    exact again I11 q11
 exact codeAny_compStart_list loop (T.self _ 0 _ _ _ st4 loop)
def capS (ks:List (Option Nat)) (σ:St):St:=ks.map fun k=>match k with
 | none=>none
 | some j=>(σ[j]?).join
inductive zac4 (X:Cx) (scope:Scope):List Str->List (Option Nat)->Prop where
 | nil:zac4 X scope [] []
 | skip {x:Str}{N:List Str}{ks:List (Option Nat)}(t:zac4 X scope N ks):zac4 X scope (x :: N) (none :: ks)
 | take {x:Str}{N:List Str}{ks:List (Option Nat)}{j:Nat}(h1:X.N[j]?=some x) (h2:scope.names.lookup x=some .free) (h3:X.env.kindOf x=some .cell∨X.env.kindOf x=some .free) (t:zac4 X scope N ks):zac4 X scope (x :: N) (some j :: ks)
theorem zac4.cap {scope:Scope}{N:List Str}{ks:List (Option Nat)}(h:zac4 X scope N ks) (σ:St):∀ (i:Nat) (x:Str) (v:V),N[i]?=some x->(capS ks σ)[i]?=some (some v)->∃ j:Nat,X.N[j]?=some x/\σ[j]?=some (some v)/\scope.names.lookup x=some .free/\(X.env.kindOf x=some .cell∨X.env.kindOf x=some .free):=by
 induction h with
 | nil=>intro i x v h;simp at h
 | skip t ih=>
  intro i x v h1 h2
  cases i with
  | zero=>simp[capS] at h2
  | succ i=>exact ih i x v (by simpa using h1) (by simpa [capS] using h2)
 | take a b c t ih=>
  intro i x v h1 h2
  cases i with
  | zero=>
   simp only[List.getElem?_cons_zero,Option.some.injEq] at h1
   subst h1
   refine⟨_,a,?_,b,c⟩
   simpa [capS,Option.join_eq_some_iff] using h2
  | succ i=>exact ih i x v (by simpa using h1) (by simpa [capS] using h2)
theorem zac4.len {scope:Scope}{N:List Str}{ks:List (Option Nat)}(h:zac4 X scope N ks) (σ:St):(capS ks σ).length=N.length:=by
 have:ks.length=N.length:=by
  induction h with
  | nil=>rfl
  | skip t ih=>simp[ih]
  | take a b c t ih=>simp[ih]
 simp[capS,this]
def qComp (ks:List (Option Nat)) (wi:TI) (g:TG) (tt:TT) (te:TE):TE:=fun σ H Q=>wi σ H fun J H1=>zx5 J g tt te (capS ks σ) H1 Q
def freeB (scope:Scope) (f:Str->Option NameKind):Bool:=scope.names.all fun x=>x.2 != .free || (f x.1==some .cell || f x.1==some .free)
def zbd8 (scope:Scope):Bool:=scope.names.all (fun x=>x.2 != .cell)&&scope.names.all fun x=>x.2 != .local || scope.names.lookup x.1==some .local
theorem zam9 {scope:Scope}{f:Str->Option NameKind}(h:freeB scope f=true):∀ x∈scope.names,x.2=.free->f x.1=some .cell∨f x.1=some .free:=fun x hx hf=>by
 have:=zct4.mp h x hx
 simpa [hf] using this
theorem zau4 {scope:Scope}(h:zbd8 scope=true):(∀ y∈scope.names,y.2≠.cell)/\∀ x∈scope.names,x.2=.local->scope.names.lookup x.1=some .local:=by
 unfold zbd8 at h
 rw[zcs9] at h
 refine⟨fun y hy=>?_,fun x hx hl=>?_⟩
 ·have:=zct4.mp h.1 y hy
  simpa using this
 ·have:=zct4.mp h.2 x hx
  simpa [hl] using this
theorem zf2 {elt tg iter:Expr}{ifs:List Expr}{scope:Scope}{pos:Pos}{N:List Str}{ks:List (Option Nat)}{wi:TI}{g:TG}{tt:TT}{te:TE}(hi:PI X tg iter wi)
  (hg:∀ cl C s3 H3 fp,PG (blk X N scope cl C s3 H3 fp) tg g) (ht:∀ cl C s3 H3 fp,PTs (blk X N scope cl C s3 H3 fp) ifs tt) (he:∀ cl C s3 H3 fp,PE (blk X N scope cl C s3 H3 fp) elt te) (hcap:zac4 X scope N ks)
  (hc:X.calm=true:=by rfl) (hkind:scope.kind=.function:=by rfl) (hb:freeB scope X.env.kindOf=true:=by rfl) (hn:zbd8 scope=true:=by rfl) (hs:∀ x,foldedSetIterable iter X.env x=pure x:=by intro _;rfl) :
  PE X (.ListComp elt [⟨tg,iter,ifs,0⟩] scope pos) (qComp ks wi g tt te):=by
 intro pins s σ H Q I h
 obtain⟨hcell,hnames⟩:=zau4 hn
 obtain⟨cl,hcl,hcl1,hcl2⟩:=zz8 (scope:=scope) (env:=X.env) fun x hx hf=>I.ok.has x.1 (zam9 hb x hx hf)
 rw[eval_ListComp]
 refine wpAny_comprehension_free (use:=none) rfl hs hcl hkind hnames ?_
 show wpAny _ _ (eval iter X.env) _ _ s
 refine thn (hi pins s σ H _ I h) fun v s1 h1=>thn h1 fun itv s2 h2=>?_
 obtain⟨it,fp,tn,J,H2,e,I2,T,st2,f2,q2⟩:=h2
 subst e
 refine zav6 (RR:=fun acc C=>compPost (model X.prog X.w) X.A X.xe none (EP X pins σ Q) acc C) hcl1 hcl2 hkind hcell (hcap.cap σ) (hcap.len σ) hc I2 T st2 f2 (hg cl) (ht cl) (he cl) q2 ?_
 rintro acc C H' s' I' hC ⟨m,hm⟩ hq
 refine⟨m,hm,fun h' hsb=>⟨.ref acc,H',?_,rfl,hq⟩⟩
 exact I'.turned (t':=s'.toks) (fun b o hb e=>hsb.extBut b o hb e) hC.1 hC.2.1 hC.2.2.2.1 hC.2.2.2.2.1 hC.2.2.2.2.2
theorem psC {i:Nat}{y:Str}{py spos:Pos}{elt tg iter:Expr}{ifs:List Expr}{scope:Scope}{pos:Pos}{N:List Str}{ks:List (Option Nat)}{wi:TI}{g:TG}{tt:TT}{te:TE}(hN:X.N.Nodup) (hi:PI X tg iter wi)
  (hg:∀ cl C s3 H3 fp,PG (blk X N scope cl C s3 H3 fp) tg g) (ht:∀ cl C s3 H3 fp,PTs (blk X N scope cl C s3 H3 fp) ifs tt) (he:∀ cl C s3 H3 fp,PE (blk X N scope cl C s3 H3 fp) elt te) (hcap:zac4 X scope N ks)
  (hy:X.N[i]?=some y:=by rfl) (hl:X.env.scope.names.lookup y=some .local:=by rfl) (hsw:swapsWith (.ListComp elt [⟨tg,iter,ifs,0⟩] scope pos) (some (.Name y py)) spos.line X.env=pure true:=by rfl)
  (hc:X.calm=true:=by rfl) (hkind:scope.kind=.function:=by rfl) (hb:freeB scope X.env.kindOf=true:=by rfl) (hn:zbd8 scope=true:=by rfl) (hs:∀ x,foldedSetIterable iter X.env x=pure x:=by intro _;rfl) :
  PS X (.Assign [.Name y py] (.ListComp elt [⟨tg,iter,ifs,0⟩] scope pos) spos) (tAsg (qComp ks wi g tt te) (gName i)):=by
 intro pins s σ H D I h
 obtain⟨hcell,hnames⟩:=zau4 hn
 obtain⟨cl,hcl,hcl1,hcl2⟩:=zz8 (scope:=scope) (env:=X.env) fun x hx hf=>I.ok.has x.1 (zam9 hb x hx hf)
 rw[exec_Assign_Name_used _ _ _ _ hsw]
 refine wpAny_bind (wpAny_standAt (wpAny_bind ?_))
 show wpAny _ X.A (do let _ ← comprehension (.ListComp elt [⟨tg,iter,ifs,0⟩] scope pos) scope X.env _ (newList []) false (eval iter X.env) (some (assign (.Name y py) X.env))) _ _ s
 refine wpAny_bind (wpAny_mono (wpAny_comprehension_free (use:=some (assign (.Name y py) X.env)) (Q:=fun _ s'=>SP X pins D .next s') rfl hs hcl hkind hnames ?_) (fun _ s' hq=>wpAny_pure (wpAny_pure hq)) fun _ _ e=>e)
 refine thn (hi pins s σ H _ I h) fun v s1 h1=>thn h1 fun itv s2 h2=>?_
 obtain⟨it,fp,tn,J,H2,e,I2,T,st2,f2,q2⟩:=h2
 subst e
 refine zav6 (RR:=fun acc C=>compPost (model X.prog X.w) X.A X.xe (some (assign (.Name y py) X.env)) (fun _ s'=>SP X pins D .next s') acc C) hcl1 hcl2 hkind hcell (hcap.cap σ) (hcap.len σ) hc I2 T st2 f2 (hg cl) (ht cl) (he cl) q2 ?_
 rintro acc C H' s' I' hC ⟨m,hm⟩ hq
 show wpAny _ _ (assign (.Name y py) X.env (.ref acc)) _ _ _
 refine wpAny_assign_Name (zat9 I' hN hy (.inl hl) (v:=.ref acc) rfl (fun s'' I'' hsb=>?_) (.inr hl))
 obtain⟨a,hsb,ha⟩:=hsb
 have hCa:C≠a:=by
  rcases ha with ha|ha
  ·rw[ha];exact hC.2.1
  ·exact (hC.2.2.2.2.1 y a ha).symm
 refine⟨m,hm.sameBut hsb hCa,fun h' hsb'=>⟨σ.set i (some (.ref acc)),H',?_,hq⟩⟩
 exact I''.turned (t':=s''.toks) (fun b o hb e=>hsb'.extBut b o hb e) hC.1 hC.2.1 hC.2.2.2.1 hC.2.2.2.2.1 hC.2.2.2.2.2
end
section
variable {K:zcq5}{g:TG}{tt:TT}{te:TE}{σ0:St}{H1:Hp}{Q:VK}
end
end L2
set_option maxHeartbeats 2000000
namespace L2
open PySem PySem.Spec PyProof.Rows
section
variable {X:Cx}
@[irreducible] def rSumA (K:zcq5) (p:Addr) (H:Hp) (Q:VK):Prop:=∃ ns:List Int,SqL K H p (ns.map V.int)/\Q (.int ns.sum) H
def rSumM (K:zcq5):List V->Hp->VK->Prop:=fun xs H Q=>match xs with
 | [.ref p]=>rSumA K p H Q
 | _=>False
theorem cSum (hc:X.calm=true):zp7 X (.builtin "sum") (rSumM X.K):=fun pins s σ H xs us Q I r h=>by
 unfold rSumM at h
 split at h
 ·unfold rSumA at h
  obtain⟨ns,h1,h2⟩:=h
  obtain⟨u,rfl,rx⟩:=zac3 r
  cases rx
  obtain⟨its,r',pl,hz⟩:=I.list h1
  have hi:=zaa5 r'
  obtain⟨ys,hx⟩:=hi.allInts.items
  have hl':s.heap.IsList _ (intItems ys):=hx▸pl.isList
  refine sum_intListG (I.ok.hd hc) hl' fun h' tk t' hk=>?_
  have e1:ns=ys.toList.map (·.1):=by
   rw[← nums_intItems,← hx]
   exact (show numsOf its.toArray.toList=ns from hi.numsOf).symm
  have e2:preSum (numAt ys) ys.size=ns.sum:=by
   rw[preSum_eq,zcx3 (by simp),e1]
  rw[e2]
  exact⟨.int ns.sum,H,I.kept hk,⟨_,rfl⟩,h2⟩
 ·exact h.elim
theorem zag4 {K:zcq5}{p:Addr}{H:Hp}{Q:VK}{ns:List Int}(h:H p=some (.lst (ns.map V.int))) (q:Q (.int ns.sum) H):rSumA K p H Q:=by unfold rSumA;exact⟨ns,SqL.of h,q⟩
theorem zae0:∀ {bs:List Bool}{us:List Value},Vals (bs.map V.bl) us->LSm.BoolsAre us bs
 | [],us,r=>by rw[List.map_nil] at r;cases r;exact .nil
 | b :: bs,us,r=>by
  rw[zcs8] at r
  cases r with
  | cons r1 r2=>
   cases r1
   exact .cons b (zae0 r2)
@[irreducible] def rAllA (K:zcq5) (p:Addr) (H:Hp) (Q:VK):Prop:=∃ bs:List Bool,SqL K H p (bs.map V.bl)/\Q (.bl (bs.all id)) H
def rAllM (K:zcq5):List V->Hp->VK->Prop:=fun xs H Q=>match xs with
 | [.ref p]=>rAllA K p H Q
 | _=>False
theorem cAll (hc:X.calm=true):zp7 X (.builtin "all") (rAllM X.K):=fun pins s σ H xs us Q I r h=>by
 unfold rAllM at h
 split at h
 ·rename_i p
  unfold rAllA at h
  obtain⟨bs,h1,h2⟩:=h
  obtain⟨u,rfl,rx⟩:=zac3 r
  cases rx
  obtain⟨its,r',pl,hz⟩:=I.list h1
  have hb:=zae0 r'
  have hlt:p<s.heap.objs.size:=by obtain⟨_,e,_⟩:=pl.isList;exact zcs0 e
  refine call_all_walk (wpAny_pyIter_list pl.isList ?_)
  refine⟨s.heap.objs.size,[s.heap.objs.size,_],[s.heap.objs.size],its.toArray.size,_,_,fun i=>(bs[i]?).getD true,rfl,Walks.list (A:=X.A.in1) (I.ok.hd hc) _ _ (zct6 hlt) its.toArray,
   ⟨⟨_,zcs4 _ rfl,rfl,rfl⟩,pl.isList.push _⟩,fun i v s' Q' E' hP hQ=>?_,fun h' tk hk=>?_⟩
  ·obtain⟨b,e,rfl⟩:=hb.get i v (by simpa using hP)
   simp only[e,Option.getD_some] at hQ
   exact wpAny_truthy_bool hQ
  ·have e:((List.range its.toArray.size).all fun i=>(bs[i]?).getD true)=bs.all id:=by
    rw[zcr3,hb.length];exact LSm.range_all bs
   rw[e]
   exact⟨.bl _,H,I.kept (LSm.kept_iter hk),rfl,h2⟩
 ·exact h.elim
theorem zu7 {K:zcq5}{p:Addr}{H:Hp}{Q:VK}{bs:List Bool}(h:H p=some (.lst (bs.map V.bl))) (q:Q (.bl (bs.all id)) H):rAllA K p H Q:=by unfold rAllA;exact⟨bs,SqL.of h,q⟩
@[irreducible] def zbb4 (K:zcq5) (p:Addr) (H:Hp) (Q:VK):Prop:=∃ ys,(SqL K H p ys∨SqT K H p ys)/\∀ l H',H l=none->Same H H'->H' l=some (.lst ys)->Q (.ref l) H'
def zbm1 (K:zcq5):List V->Hp->VK->Prop:=fun xs H Q=>match xs with
 | [.ref p]=>zbb4 K p H Q
 | _=>False
theorem cList:zp7 X (.type "list") (zbm1 X.K):=fun pins s σ H xs us Q I r h=>by
 unfold zbm1 at h
 split at h
 ·unfold zbb4 at h
  obtain⟨ys,h1,h2⟩:=h
  exact zar5 pins s σ H _ us Q I r ⟨_,ys,rfl,h1,fun l hl=>h2 l _ hl (Same.upd hl) zc2⟩
 ·exact h.elim
theorem zbx7 {K:zcq5}{p:Addr}{H:Hp}{Q:VK}{ys:List V}(h:SqL K H p ys) (q:∀ l H',H l=none->Same H H'->H' l=some (.lst ys)->Q (.ref l) H'):zbb4 K p H Q:=by unfold zbb4;exact⟨ys,.inl h,q⟩
@[irreducible] def zbb9 (K:zcq5) (p:Addr) (H:Hp) (R:Prop):Prop:=(∃ xs,SqL K H p xs)/\R
def qBM (K:zcq5) (r:Addr->List V->Hp->VK->Prop) (to:TE) (t:TA):TE:=fun σ H Q=>to σ H fun x H1=>match x with
 | .ref p=>zbb9 K p H1 (t σ H1 fun xs H2=>r p xs H2 Q)
 | _=>False
theorem zak5 {K:zcq5}{p:Addr}{H:Hp}{R:Prop}{xs:List V}(h:H p=some (.lst xs)) (q:R):zbb9 K p H R:=by unfold zbb9;exact⟨⟨xs,SqL.of h⟩,q⟩
def MtA (X:Cx) (id:String) (r:Addr->List V->Hp->VK->Prop):Prop:=
 ∀ (pins:List (Addr×Obj)) (s:Shared) (σ:St) (H:Hp) (p:Addr) (xs:List V) (us:List Value) (Q:VK),Inv X pins σ H s->Vals xs us->r p xs H Q ->
  wpAny (model X.prog X.w) X.A (call (.builtin id) (.ref p :: us)) (EP X pins σ Q) X.xe s
theorem peBM {o e:Expr}{es:List Expr}{to:TE}{t:TA}{name:Str}{apos cpos:Pos}{id:String}{r:Addr->List V->Hp->VK->Prop}(slot:Slot "list" name id) (hty:typeOf (.builtin id)=pure (.type "method_descriptor")) (hm:MtA X id r) (ho:PE X o to) (ha:PA X (e :: es) t)
  (hbase:attributeBase o name X.env (eval o X.env)=eval o X.env:=by rfl)
  (hfew:((backTo cpos (starEach (e :: es) X.env)).all (fun x=>!x.1)&&(backToKw cpos (keywordEach [] X.env)).all (fun x=>x.1.isSome)
   && decide ((e :: es).length+([]:List Keyword).length+(if ([]:List Keyword).isEmpty then 0 else 1)<30))=true:=by rfl)
  (hline:(apos.endLine==cpos.line)=true:=by rfl) (hs:starEach (e :: es) X.env=(false,eval e X.env) :: starEach es X.env:=by rfl) (hplain:(backTo cpos (starEach es X.env)).any (·.1)=false:=by rfl) :
  PE X (.Call (.Attribute o name apos) (e :: es) [] cpos) (qBM X.K r to t):=by
 intro pins s σ H Q I h
 refine wpAny_Call_method_late hbase hfew hline rfl (thn (ho pins s σ H _ I h) fun v s1 ⟨x,H1,I1,r1,q1⟩=>?_)
 dsimp only at q1
 split at q1
 ·rename_i p
  unfold zbb9 at q1
  obtain⟨hq,q1⟩:=q1
  obtain⟨h1,h2⟩:=tyV_is (T:="list") I1 r1 (.inl ⟨rfl,hq⟩)
  refine⟨"list",id,PySem.F.plainAttrs_list,slot,hty,h1,h2,?_⟩
  have hA:=ha cpos pins s1 σ H1 _ I1 q1
  rw[hs] at hA ⊢
  refine Calls.callWith_builtin (by show (false || (backTo cpos (starEach es X.env)).any (·.1))=false;rw[hplain]<;>rfl) (Calls.evalArgs_plain ?_)
  cases r1
  exact thn hA fun us s2 ⟨vs,H2,I2,r2,q2⟩=>hm pins s2 σ H2 p vs us Q I2 r2 q2
 ·exact q1.elim
@[irreducible] def rAppA (p:Addr) (v:V) (H:Hp) (Q:VK):Prop:=∃ xs,H p=some (.lst xs)/\xs.length<sizeLine/\∀ H',Chg p H H'->H' p=some (.lst (xs++[v]))->Q .non H'
def rAppM:Addr->List V->Hp->VK->Prop:=fun p vs H Q=>match vs with
 | [v]=>rAppA p v H Q
 | _=>False
theorem zcc4:MtA X "list.append" rAppM:=fun pins s σ H p xs us Q I r h=>by
 unfold rAppM at h
 split at h
 ·unfold rAppA at h
  obtain⟨ys,h1,h2,h3⟩:=h
  exact zag0 pins s σ H (.ref p) _ (.ref p) us Q I rfl r ⟨p,ys,_,rfl,rfl,h1,h2,h3 _ Chg.upd zc2⟩
 ·exact h.elim
theorem zaj7 {p:Addr}{v:V}{H:Hp}{Q:VK}{xs:List V}(h:H p=some (.lst xs)) (hz:xs.length<sizeLine) (q:∀ H',Chg p H H'->H' p=some (.lst (xs++[v]))->Q .non H'):rAppA p v H Q:=by unfold rAppA;exact⟨xs,h,hz,q⟩
theorem zq6 {o e:Expr}{to:TE}{t:TA}{apos cpos:Pos}(ho:PE X o to) (ha:PA X [e] t) (hbase:attributeBase o "append" X.env (eval o X.env)=eval o X.env:=by rfl)
  (hfew:((backTo cpos (starEach [e] X.env)).all (fun x=>!x.1)&&(backToKw cpos (keywordEach [] X.env)).all (fun x=>x.1.isSome)
   && decide ([e].length+([]:List Keyword).length+(if ([]:List Keyword).isEmpty then 0 else 1)<30))=true:=by rfl)
  (hline:(apos.endLine==cpos.line)=true:=by rfl) (hs:starEach [e] X.env=(false,eval e X.env) :: starEach [] X.env:=by rfl) (hplain:(backTo cpos (starEach [] X.env)).any (·.1)=false:=by rfl):PE X (.Call (.Attribute o "append" apos) [e] [] cpos) (qBM X.K rAppM to t):=
 peBM PySem.F.slot_list_append PySem.F.type_list_append zcc4 ho ha hbase hfew hline hs hplain
section
variable {prog:Program}{w:World}{A:Around}{E:Value->Shared->Prop}{s:Shared}
theorem zaw6 {it t:Addr}{items:Array Value}(hne:t≠it):∀ (n i:Nat) (s:Shared) (Q:List Value->Shared->Prop),s.heap.IsListIter it t i->s.heap.IsList t items->i+n<=items.size ->
  (∀ h',h'.IsListIter it t (i+n)->Heap.SameBut it s.heap h'->Q ((items.toList.drop i).take n) { s with heap:=h' })->wpAny (model prog w) A (draw (.ref it) n) Q E s
 | 0,i,s,Q,hit,_,_,hQ=>by
  show wpAny _ _ (pure []) Q E s
  exact wpAny_pure (by simpa using hQ s.heap hit (Heap.SameBut.refl ..))
 | n+1,i,s,Q,hit,ht,hle,hQ=>by
  have hlt:i<items.size:=by omega
  show wpAny _ _ (pyNext (.ref it) >>= _) Q E s
  refine wpAny_bind (wpAny_pyNext_list_item hit ht (x:=items[i]) (by simp[hlt]) fun h₁ hit₁ hs₁=>?_)
  refine wpAny_bind (wpAny_holding (zaw6 hne n (i+1) _ _ hit₁ (ht.extBut hs₁.extBut hne) (by omega) fun h₂ hit₂ hs₂=>wpAny_pure ?_))
  have hd:items.toList.drop i=items[i] :: items.toList.drop (i+1):=by simp[List.drop_eq_getElem_cons,hlt]
  have:=hQ h₂ (by rw[show i+(n+1)=i+1+n by omega];exact hit₂) (hs₁.trans hs₂)
  rw[hd,List.take_succ_cons] at this
  exact this
theorem zaa1 {env:Env}{elts:List Expr}{x1} {pos:Pos}{t:Addr}{items:Array Value}{Q:Unit->Shared->Prop}(hh:A.handled=none) (ht:s.heap.IsList t items)
  (hn:(assignEach elts env).length=items.size) (hstar:(assignEach elts env).findIdx? (·.1)=none)
  (h:∀ h',Heap.ExtBut s.heap.objs.size s.heap h'->wpAny (model prog w) A (assignInOrder ((assignEach elts env).map (·.2)) items.toList) Q E { s with heap:=h' }) :
  wpAny (model prog w) A (assign (.Tuple elts x1 pos) env (.ref t)) Q E s:=by
 rw[assign_Tuple]
 refine wpAny_bind (wpAny_standAt ?_)
 unfold unpack
 rw[hn,hstar]
 refine wpAny_bind (wpAny_holding ?_)
 have hlt:t≠s.heap.objs.size:=by obtain⟨o,ho,_⟩:=ht;exact zct6 (zcs0 ho)
 unfold unpackItems
 refine wpAny_bind ?_
 unfold notIterableAtAll
 refine wpAny_bind (wpAny_specialOf ht.typeIs F.slot_list_iter.lookup ?_)
 refine wpAny_pure ?_
 simp only[zcv8,if_false]
 refine wpAny_bind (wpAny_holding (wpAny_pyIter_list ht ?_))
 refine wpAny_bind (wpAny_holding (zaw6 hlt items.size 0 _ _ ⟨_,zcs4 _ rfl,rfl,rfl⟩ (ht.push _) (by omega) fun h₁ hit₁ hs₁=>?_))
 have hall:List.take items.size (List.drop 0 items.toList)=items.toList:=by
  rw[List.drop_zero];exact zcx3 (by simp)
 rw[hall]
 rw[if_neg (by simp)]
 have ht₁:h₁.IsList t items:=(ht.push _).extBut hs₁.extBut hlt
 refine wpAny_bind (wpAny_holding (wpAny_pyNext_list_end hh hit₁ ht₁ (by simp) fun h₂ he₂=>?_))
 simp only[Option.isSome_none,zcv8,if_false]
 exact wpAny_pure (h h₂ fun b o hb e=>he₂ b o hb (hs₁.extBut b o hb (zcq9 _ e)))
end
@[irreducible] def rUnpA (K:zcq5) (a:Addr) (n:Nat) (t:TGs) (σ:St) (H:Hp) (Q:St->Hp->Prop):Prop:=∃ xs,(SqT K H a xs∨SqL K H a xs)/\xs.length=n/\t xs σ H Q
def qgAny (K:zcq5) (n:Nat) (t:TGs):TG:=fun v σ H Q=>match v with
 | .ref a=>rUnpA K a n t σ H Q
 | _=>False
theorem pgAny {pos:Pos}{es:List Expr}{k:Nat}{t:TGs}{n:Nat}(hc:X.calm=true) (h:PGs X es t)
  (hn:(assignEach es X.env).length=n:=by rfl) (hst:(assignEach es X.env).findIdx? (·.1)=none:=by rfl):PG X (.Tuple es k pos) (qgAny X.K n t):=fun pins s σ H v u Q I r hq=>by
 unfold qgAny at hq
 split at hq
 ·unfold rUnpA at hq
  obtain⟨xs,a1,a2,a3⟩:=hq
  rcases a1 with a1|a1
  ·exact pg_tup hc h hn hst pins s σ H _ u Q I r ⟨_,xs,rfl,a1,a2,a3⟩
  ·cases r
   obtain⟨its,rv,pl,hz⟩:=I.list a1
   refine zaa1 (I.ok.hd hc) pl.isList (by simp[hn,← a2,rv.length]) hst fun h' hx=>?_
   have I1:Inv X pins σ H { s with heap:=h' }:=I.kept (t':=s.toks) fun b o e=>hx b o (zct6 (zcs0 e)) e
   exact h pins _ σ H xs _ Q I1 (by simpa using rv) a3
 ·exact hq.elim
theorem zd4 {K:zcq5}{a:Addr}{n:Nat}{t:TGs}{σ:St}{H:Hp}{Q:St->Hp->Prop}{xs:List V}(h:H a=some (.tup xs)) (q:t xs σ H Q) (e:xs.length=n:=by rfl):rUnpA K a n t σ H Q:=by
 unfold rUnpA;exact⟨xs,.inl (SqT.of h),e,q⟩
end
def Chg2 (a c:Addr) (H H':Hp):Prop:=∀ b o,b≠a->b≠c->H b=some o->H' b=some o
theorem Chg2.refl (a c:Addr) (H:Hp):Chg2 a c H H:=fun _ _ _ _ e=>e
theorem Chg2.trans {a c:Addr}{H H1 H2:Hp}(x:Chg2 a c H H1) (y:Chg2 a c H1 H2):Chg2 a c H H2:=fun b o h1 h2 e=>y b o h1 h2 (x b o h1 h2 e)
theorem Chg2.same {a c:Addr}{H H1 H2:Hp}(x:Chg2 a c H H1) (y:Same H1 H2):Chg2 a c H H2:=fun b o h1 h2 e=>y b o (x b o h1 h2 e)
theorem Chg.toL {a c:Addr}{H H1:Hp}(x:Chg a H H1):Chg2 a c H H1:=fun b o h1 _ e=>x b o h1 e
theorem Chg.toR {a c:Addr}{H H1:Hp}(x:Chg c H H1):Chg2 a c H H1:=fun b o _ h2 e=>x b o h2 e
theorem Same.to2 {a c:Addr}{H H1:Hp}(x:Same H H1):Chg2 a c H H1:=fun b o _ _ e=>x b o e
theorem Chg2.at {a c b:Addr}{o:HO}{H H':Hp}(x:Chg2 a c H H') (e:H b=some o) (h1:b≠a) (h2:b≠c):H' b=some o:=x b o h1 h2 e
def cV (n:Nat) (acc:Addr) (Pv:Nat->List V->St->Hp->Prop):Nat->Nat->List V->St->Hp->Prop:=fun i m ys σ H=>m=n - i/\i<=n/\ys.length<=i/\H acc=some (.lst ys)/\Pv i ys σ H
section
variable {K:zcq5}{g:TG}{tt:TT}{te:TE}{σ0:St}{H1:Hp}{Q:VK}
theorem zp2 {n i m:Nat}{acc:Addr}{Pv:Nat->List V->St->Hp->Prop}{ys:List V}{σ2:St}{v:V}{H5:Hp}(hi:i<n) (hm:m=n - i) (hl:ys.length<=i) (ha:H5 acc=some (.lst ys))
  (q:∀ H6,Chg acc H5 H6->H6 acc=some (.lst (ys++[v]))->Pv (i+1) (ys++[v]) σ2 H6):cPut (cV n acc Pv) acc ys i m σ2 v H5:=by
 unfold cPut
 exact⟨ha,fun H6 hc h6=>⟨n - (i+1),by omega,rfl,by omega,by rw[zcr6,zcw7];omega,h6,q H6 hc h6⟩⟩
theorem zr0 {lo:Int}{n:Nat}(hn:n<sizeLine) (h:∀ acc H2,H1 acc=none->Same H1 H2->H2 acc=some (.lst [])->∃ Pv:Nat->List V->St->Hp->Prop,Pv 0 [] σ0 H2 /\
  (∀ i m ys σ H,i<n->m=n - i->ys.length<=i->H acc=some (.lst ys)->Pv i ys σ H->g (.int (lo+i)) σ H fun σ2 H3=>tt σ2 H3 fun b H4=>br b (te σ2 H4 fun v H5=>cPut (cV n acc Pv) acc ys i m σ2 v H5) (zah9 (cV n acc Pv) ys i m σ2 H4)) /\
  ∀ ys σ H,H acc=some (.lst ys)->Pv n ys σ H->Q (.ref acc) H):zx5 (Itr lo n) g tt te σ0 H1 Q:=by
 unfold zx5
 intro acc H2 hf hs ha
 obtain⟨Pv,h0,turn,fin⟩:=h acc H2 hf hs ha
 refine⟨cV n acc Pv,⟨n,by simp,zcu4 _,zcr9 _,ha,h0⟩,?_⟩
 rintro i m ys σ H ⟨hm,hi,hl,ha',hp⟩
 refine⟨ha',by omega,?_⟩
 by_cases hlt:i<n
 ·refine .inr ⟨hlt,fun x H' y=>?_⟩
  obtain⟨e,y⟩:=y
  subst e y
  exact turn i m ys σ _ hlt hm hl ha' hp
 ·have e:i=n:=by omega
  subst e
  exact .inl ⟨zcr9 _,fin ys σ H ha' hp⟩
end
section
variable {X:Cx}{K:zcq5}
theorem za8 {a b:Expr}{ta tb:TE}{pos:Pos}(hK:X.K=K) (ha:PE X a ta) (hb:PE X b tb) (hs:zba8 b:=by exact fun _ _=>rfl):PE X (.Subscript a b pos) (tOp (rIxM K) ta tb):=by subst hK;exact peIx ha hb hs
theorem zo8 (hK:X.K=K):zp7 X (.builtin "len") (rLenM K):=by subst hK;exact cLen
theorem zah7 (hK:X.K=K):zp7 X (.builtin "isinstance") (rIsiM K):=by subst hK;exact cIsi
theorem zbb2 (hK:X.K=K) (hc:X.calm=true):zp7 X (.builtin "sum") (rSumM K):=by subst hK;exact cSum hc
theorem zaj3 (hK:X.K=K) (hc:X.calm=true):zp7 X (.builtin "all") (rAllM K):=by subst hK;exact cAll hc
theorem cListK (hK:X.K=K):zp7 X (.type "list") (zbm1 K):=by subst hK;exact cList
theorem oEqK (hK:X.K=K) (hu:X.A.units+40<cLine):OpR X (compareOp .Eq) (rEqM K):=by subst hK;exact oEq hu
theorem oNeK (hK:X.K=K) (hu:X.A.units+40<cLine):OpR X (compareOp .NotEq) (rNeM K):=by subst hK;exact oNe hu
theorem ze3 {tg l:Expr}{tl:TE}(hK:X.K=K) (hl:PE X l tl):PI X tg l (qiSeq K tl):=by subst hK;exact piSeq hl
theorem zk4 {pos:Pos}{es:List Expr}{k:Nat}{t:TGs}{n:Nat}(hK:X.K=K) (hc:X.calm=true) (h:PGs X es t)
  (hn:(assignEach es X.env).length=n:=by rfl) (hst:(assignEach es X.env).findIdx? (·.1)=none:=by rfl):PG X (.Tuple es k pos) (qgAny K n t):=by subst hK;exact pgAny hc h hn hst
end
end L2
set_option maxHeartbeats 2000000
namespace L2
open PySem PySem.Spec PyProof.Rows
def Ite (K:zcq5) (a:Addr):It:=
 ⟨fun i H=>∃ xs x,SqL K H a xs/\xs[i]?=some x,fun i H v H'=>∃ p y,v=.ref p/\H p=none/\Same H H'/\H' p=some (.tup [.int i,y])/\∀ xs,SqL K H a xs->xs[i]?=some y,fun i H=>∃ xs,SqL K H a xs/\xs.length<=i⟩
theorem zbp0 {P:Program}{w:World}{K:zcq5}{elts:List Expr}{k:Nat}{pos:Pos}(a it e:Addr) (hne:e≠it):Turn P w K (.Tuple elts k pos) (Ite K a) [it,e] e (fun i h=>(∃ old,IsEnum h e it i old)/\h.IsListIter it a i) where
 mem:=by simp
 obj:=fun i h st b hb=>by
  obtain⟨⟨old,he⟩,o,e1,c,d⟩:=st
  rcases zcs2.mp hb with rfl|hb
  ·exact⟨o,e1,fun v z=>by rw[d] at z;cases z⟩
  ·have:b=e:=by simpa using hb
   subst this
   exact⟨_,he,fun v z=>by cases z⟩
 keep:=fun i h h' st kp=>by
  obtain⟨⟨old,he⟩,hi⟩:=st
  exact⟨⟨old,kp e (by simp) _ he⟩,hi.at fun o x=>kp it (by simp) o x⟩
 item:=by
  intro X hP hw hK hc i pins s σ H E I hf st hg
  subst hP hw hK
  obtain⟨⟨old,he⟩,hit⟩:=st
  obtain⟨xs,x,hq,hx⟩:=hg
  obtain⟨its,rv,p,hz⟩:=I.list hq
  obtain⟨u,hu,ru⟩:=rv.get hx
  obtain⟨f0,f1,f2,f3,f4,f5⟩:=hf it (by simp)
  obtain⟨g0,g1,g2,g3,g4,g5⟩:=hf e (by simp)
  refine wpAny_pyNext_enum_item he hit p.isList (x:=u) (by simpa using hu) hne fun h1 heo hit1 ht1 hz1 hk1=>?_
  refine⟨_,rfl,wpAny_letOwnedTupleGo_enum heo fun h2 he2 hs2=>?_⟩
  replace hs2:Heap.SameBut e h1 h2:=hs2
  have hel:e<s.heap.objs.size:=zcs0 he
  have kp:∀ b o,b ∉ [it,e]->s.heap.get? b=some o->h2.get? b=some o:=fun b o hb x=>by
   have b1:b≠it:=fun z=>hb (by simp[z])
   have b2:b≠e:=fun z=>hb (by simp[z])
   exact (hs2.2 b b2).trans (hk1 b o b2 b1 x)
  have ht2:h2.get? s.heap.objs.size=some { cls:=.type "tuple",data:=.seq #[.int i s.toks,u] }:=(hs2.2 _ (zcw6 hel)).trans ht1
  have hfr:H s.heap.objs.size=none:=I.fresh
  have nof:∀ b v,H b=some v->b ∉ [it,e]:=fun b v hb z=>by
   rcases zcs2.mp z with rfl|z
   ·rw[f0] at hb;cases hb
   ·have:b=e:=by simpa using z
    subst this
    rw[g0] at hb;cases hb
  have nlt:∀ b o,s.heap.get? b=some o->b≠s.heap.objs.size:=fun b o x=>zct6 (zcs0 x)
  have hok:HOk X.prog X.w (upd H s.heap.objs.size (.tup [.int i,x])) h2:=fun b v hb=>by
   by_cases e1:b=s.heap.objs.size
   ·subst e1
    rw[zc2] at hb
    cases hb
    exact⟨by show 2<=sizeLine;decide,[.int i s.toks,u],.cons ⟨_,rfl⟩ (.cons ru .nil),⟨_,ht2,rfl,_,rfl⟩⟩
   ·rw[zc3 e1] at hb
    refine (I.hok b v hb).stay (fun c w' hc q=>?_) (fun c q=>?_) (fun c ys q=>?_)
    ·rcases hc with rfl|hc
     ·exact kp _ _ (nof _ _ hb) q
     ·exact kp _ _ (nof _ _ hc) q
    ·rw[zc3 (za5 q hfr)];exact q
    ·rw[zc3 (za5 q hfr)];exact q
  have chs:∀ b∈[it,e],(b∈X.ex∨X.s₀.heap.objs.size<=b)/\b≠X.env.locals/\(∀ x c,X.env.cells.lookup x=some c->c≠b)/\∀ p∈X.pn++pins,p.1≠b:=fun b hb=>by
   rcases zcs2.mp hb with rfl|hb
   ·exact⟨f3,f1,f4,f5⟩
   ·have:b=e:=by simpa using hb
    subst this
    exact⟨g3,g1,g4,g5⟩
  have I2:Inv X pins σ (upd H s.heap.objs.size (.tup [.int i,x])) { s with heap:=h2,toks:=s.toks+1 }:=
   I.step (g':=s.gens) (d':=s.drawn) (t':=s.toks+1) (ch:=[it,e]) chs (fun b o _ _ hb x _=>kp b o hb x) (fun b o _ _ hb x _=>⟨o.slots,kp b o hb x⟩)
    (fun b o _ x n=>by rw[zc3 (nlt b o x)];exact n) (fun b o hb x=>⟨o,kp b o hb x⟩) (fun b ys q=>by rw[zc3 (za5 q hfr)];exact q) (fun b o v q=>by rw[zc3 (za5 q hfr)];exact q)
    (fun b ps q=>⟨#[],by rw[zc3 (za5 q hfr),q];simp⟩)
    (fun m hm=>by
     obtain⟨o,es,ep,ho,r⟩:=hm
     exact⟨o,es,ep,kp _ o (fun z=>by
      rcases zcs2.mp z with z|z
      ·exact f1 z.symm
      ·exact g1 (by simpa using z:X.env.locals=e).symm) ho,r⟩) hok I.bare
  have hi1:h2.IsListIter it a (i+1):=hit1.extBut hs2.extBut (Ne.symm hne)
  have he3:IsEnum h2 e it ((i+1:Nat):Int) u:=by
   have:((i+1:Nat):Int)=(i:Int)+1:=by push_cast;rfl
   rw[this];exact he2
  refine⟨.ref s.heap.objs.size,_,I2,rfl,⟨_,x,rfl,hfr,Same.upd hfr,zc2,fun ys hy=>by rw[I.list_inj hy hq];exact hx⟩,⟨⟨u,he3⟩,hi1⟩,fun b hb=>?_⟩
  have hb0:H b=none:=(hf b hb).1
  have hlt:b≠s.heap.objs.size:=by
   rcases zcs2.mp hb with rfl|hb
   ·obtain⟨o,ho,_⟩:=hit;exact nlt _ _ ho
   ·have:b=e:=by simpa using hb
    subst this
    exact zct6 hel
  rw[zc3 hlt];exact hb0
 done:=by
  intro X hP hw hK hc i pins s σ H E I hf st hg
  subst hP hw hK
  obtain⟨⟨old,he⟩,hit⟩:=st
  obtain⟨xs,hq,hx⟩:=hg
  obtain⟨its,rv,p,hz⟩:=I.list hq
  obtain⟨f0,f1,f2,f3,f4,f5⟩:=hf it (by simp)
  have hl:=rv.length
  exact wpAny_pyNext_enum_end (I.ok.hd hc) he hit p.isList (by simp;omega) fun h' eb=>⟨rfl,I.turned (t':=s.toks) (fun b o hb e=>eb b o hb e) f0 f1 f3 f4 f5⟩
 self:=fun _ _ _ _ _ st h=>by
  obtain⟨⟨old,he⟩,_⟩:=st
  exact wpAny_pyIter_enum he h
section
variable {X:Cx}{K:zcq5}
theorem zau1:bootBuiltins "enumerate"=some (.type "enumerate"):=by decide +kernel
@[irreducible] def rEnum (K:zcq5) (a:Addr) (H:Hp) (R:It->Hp->Prop):Prop:=(∃ xs,SqL K H a xs)/\R (Ite K a) H
def zbz8 (K:zcq5) (ta:TA):TI:=fun σ H R=>ta σ H fun vs H1=>match vs with
 | [.ref a]=>rEnum K a H1 R
 | _=>False
theorem piEnum {elts:List Expr}{k:Nat}{pt:Pos}{a:Expr}{ta:TA}{p pos:Pos}(hm:X.mg "enumerate"=none) (ha:PA X [a] ta) (hg:Gl X "enumerate":=by rfl) (hs:starEach [a] X.env=[(false,eval a X.env)]:=by rfl) :
  PI X (.Tuple elts k pt) (.Call (.Name "enumerate" p) [a] [] pos) (zbz8 X.K ta):=by
 intro pins s σ H R I h
 refine Call_ (zy6 I hg hm zau1 (PyProof.Rows.callWith_type1 (thn (ha pos pins s σ H _ I h) fun us s1 ⟨vs,H1,I1,r1,q1⟩=>?_) hs rfl))
 dsimp only at q1
 split at q1
 ·rename_i l
  unfold rEnum at q1
  obtain⟨⟨xs,hq⟩,q⟩:=q1
  obtain⟨u,rfl,rx⟩:=zac3 r1
  cases rx
  obtain⟨its,rv,pl,hz⟩:=I1.list hq
  refine call_enumerate_list pl.isList fun h' he hit hsz hk=>?_
  refine wpAny_pyIter_enum he ?_
  have I2:Inv X pins σ H1 { s1 with heap:=h' }:=I1.kept (t':=s1.toks) hk
  refine⟨s1.heap.objs.size+1,[s1.heap.objs.size,s1.heap.objs.size+1],_,Ite X.K l,H1,rfl,I2,zbp0 l _ _ (Nat.succ_ne_self _),⟨⟨_,he⟩,hit⟩,fun b hb=>?_,q⟩
  have hb':s1.heap.objs.size<=b:=by
   rcases zcs2.mp hb with rfl|hb
   ·exact zcr9 _
   ·have:b=s1.heap.objs.size+1:=by simpa using hb
    subst this
    exact zcx0 _
  exact I1.fpOk hb' (I1.hok.fresh hb')
 ·exact q1.elim
theorem zax9 {elts:List Expr}{k:Nat}{pt:Pos}{a:Expr}{ta:TA}{p pos:Pos}(hK:X.K=K) (hm:X.mg "enumerate"=none) (ha:PA X [a] ta) (hg:Gl X "enumerate":=by rfl) (hs:starEach [a] X.env=[(false,eval a X.env)]:=by rfl) :
  PI X (.Tuple elts k pt) (.Call (.Name "enumerate" p) [a] [] pos) (zbz8 K ta):=by subst hK;exact piEnum hm ha hg hs
end
section
variable {K:zcq5}{g:TG}{tb:TS}{D:Ends}{σ:St}{H:Hp}{R:It->Hp->Prop}
theorem zaf4 {a:Addr}{xs:List V}(h:H a=some (.lst xs)) (q:R (Ite K a) H):rEnum K a H R:=by unfold rEnum;exact⟨⟨xs,SqL.of h⟩,q⟩
theorem zu2 {a:Addr}{xs:List V}(Pv:Nat->St->Hp->Prop) (h0:Pv 0 σ H) (hl:∀ i σ H,i<=xs.length->Pv i σ H->SqL K H a xs)
  (hs:∀ i y σ H p H',xs[i]?=some y->Pv i σ H->H p=none->Same H H'->H' p=some (.tup [.int i,y])->g (.ref p) σ H' fun σ2 H2=>tb { D with nx:=Pv (i+1),ct:=Pv (i+1),bk:=D.nx } σ2 H2) (hd:∀ σ H,Pv xs.length σ H->D.nx σ H):zaj1 (Ite K a) g tb D σ H:=by
 unfold zaj1
 refine⟨fun i m σ H=>m=xs.length - i/\i<=xs.length/\Pv i σ H,⟨xs.length,by simp,zcu4 _,h0⟩,?_⟩
 rintro i m σ H ⟨rfl,hi,p⟩
 have q:=hl i σ H hi p
 by_cases hlt:i<xs.length
 ·refine .inr ⟨⟨xs,xs[i],q,by simp[hlt]⟩,Pv (i+1),fun σ' H' p'=>⟨xs.length - (i+1),by omega,rfl,hlt,p'⟩,fun x H' y=>?_⟩
  obtain⟨pp,yy,rfl,y1,y2,y3,y4⟩:=y
  exact hs i yy σ H pp H' (y4 xs q) p y1 y2 y3
 ·have e:i=xs.length:=by omega
  subst e
  exact .inl ⟨⟨xs,q,zcr9 _⟩,hd σ H p⟩
end
section
variable {K:zcq5}{g:TG}{tt:TT}{te:TE}{σ0:St}{H1:Hp}{Q:VK}
end
section
variable {X:Cx}{K:zcq5}
end
end L2
set_option maxHeartbeats 2000000
namespace L2
open PySem PySem.Spec PyProof.Rows
theorem zad3 {xs:List V}{k:Int}(h:0<=k):cutV xs (some k) none=xs.drop k.toNat:=by
 show List.take (xs.length - (if k<0 then (k+(xs.length:Int)).toNat else min k.toNat xs.length)) (List.drop (if k<0 then (k+(xs.length:Int)).toNat else min k.toNat xs.length) xs)=_
 rw[if_neg (by omega)]
 by_cases hk:k.toNat<=xs.length
 ·rw[Nat.min_eq_left hk,zcx3 (by rw[zcw1];omega)]
 ·rw[Nat.min_eq_right (by omega),zcx4 (by omega),zcx4 (by omega),List.take_nil]
theorem zag2 {xs:List V}{k:Int}(h:0<=k):cutV xs none (some k)=xs.take k.toNat:=by
 show List.take ((if k<0 then (k+(xs.length:Int)).toNat else min k.toNat xs.length) - 0) (List.drop 0 xs)=_
 rw[if_neg (by omega),List.drop_zero,Nat.sub_zero]
 by_cases hk:k.toNat<=xs.length
 ·rw[Nat.min_eq_left hk]
 ·rw[Nat.min_eq_right (by omega),zcx3 (zcr9 _),zcx3 (by omega)]
def rowV (n:Nat) (r:Nat->Int):List V:=(List.range n).map fun t=>V.int (r t)
theorem zd0 (n:Nat) (r:Nat->Int):(rowV n r).length=n:=by unfold rowV;simp
theorem zf1 {n:Nat}{r:Nat->Int}{i:Nat}(h:i<n):(rowV n r)[i]?=some (.int (r i)):=by unfold rowV;simp[h]
theorem zv9 {n:Nat}{r s:Nat->Int}(h:∀ t,t<n->r t=s t):rowV n r=rowV n s:=by
 unfold rowV
 refine zcs6 fun t ht=>?_
 rw[h t (zcu9.mp ht)]
theorem zbp3 (n:Nat) (r:Nat->Int):rowV (n+1) r=rowV n r++[.int (r n)]:=by unfold rowV;rw[zcy4,zcs3];rfl
theorem zbd0 {n:Nat}{r:Nat->Int}{j:Nat}{v:Int}:(rowV n r).set j (.int v)=rowV n fun t=>if t=j then v else r t:=by
 apply zcw2
 intro i
 rw[List.getElem?_set]
 by_cases hi:i<n
 ·rw[zf1 hi,zf1 hi]
  by_cases hj:j=i
  ·subst hj;simp[zd0,hi]
  ·simp[hj,Ne.symm hj]
 ·have e:∀ r:Nat->Int,(rowV n r)[i]?=none:=fun r=>by simp[zd0];omega
  rw[e,e]
  split
  ·simp[zd0];omega
  ·rfl
theorem zav8 (n:Nat) (r:Nat->Int):rowV n r=((List.range n).map r).map V.int:=by unfold rowV;rw[zct5];rfl
theorem ref_at {ps:List Addr}{i:Int}{p:Addr}(h0:0<=i) (h:ps[i.toNat]?=some p):atI (ps.map V.ref) i=some (.ref p):=by
 have:=zc5 (xs:=ps.map V.ref) (j:=i.toNat) (v:=.ref p) (by rw[zcq8,h];rfl)
 rw[show ((i.toNat:Nat):Int)=i by omega] at this
 exact this
theorem int_at {ns:List Int}{i:Int}{n:Int}(h0:0<=i) (h:ns[i.toNat]?=some n):atI (ns.map V.int) i=some (.int n):=by
 have:=zc5 (xs:=ns.map V.int) (j:=i.toNat) (v:=.int n) (by rw[zcq8,h];rfl)
 rw[show ((i.toNat:Nat):Int)=i by omega] at this
 exact this
theorem zax1 {xs:List V}{v:V}{n:Nat}(h:xs.length=n+1) (e:xs[n]?=some v):atI xs (-1)=some v:=by
 unfold atI ixN
 rw[if_neg (by decide),if_pos (by omega)]
 show xs[((-1:Int)+xs.length).toNat]?=_
 rw[show ((-1:Int)+xs.length).toNat=n by omega];exact e
structure zd3 (H:Hp) (a:Addr) (ps:List Addr) (n h:Nat) (g:Nat->Nat->Int):Prop where
 out:H a=some (.lst (ps.map V.ref))
 len:ps.length=n
 row:∀ (i:Nat) (p:Addr),ps[i]?=some p->H p=some (.lst (rowV h (g i)))
theorem zd3.same {H H':Hp}{a:Addr}{ps:List Addr}{n h:Nat}{g:Nat->Nat->Int}(G:zd3 H a ps n h g) (s:Same H H'):zd3 H' a ps n h g:=⟨s _ _ G.out,G.len,fun i p e=>s _ _ (G.row i p e)⟩
theorem zd3.ext {H:Hp}{a:Addr}{ps:List Addr}{n h:Nat}{g g':Nat->Nat->Int}(G:zd3 H a ps n h g) (e:∀ i t,i<n->t<h->g i t=g' i t):zd3 H a ps n h g':=
 ⟨G.out,G.len,fun i p q=>by rw[G.row i p q];rw[zv9 fun t ht=>e i t (by have:=(zcq6.mp q).1;have:=G.len;omega) ht]⟩
theorem zd3.some {H:Hp}{a:Addr}{ps:List Addr}{n h:Nat}{g:Nat->Nat->Int}(G:zd3 H a ps n h g) {i:Nat}(hi:i<n):∃ p,ps[i]?=.some p/\H p=.some (.lst (rowV h (g i))):=by
 have hl:i<ps.length:=by rw[G.len];exact hi
 exact⟨ps[i],zcq4 hl,G.row i _ (zcq4 hl)⟩
structure Wk (J:It) (n:Nat) (H1:Hp) (X:Nat->V->Hp->Prop):Prop where
 go:∀ i H,Same H1 H->i<n->J.go i H
 stop:∀ H,Same H1 H->J.stop n H
 yld:∀ i H x H',Same H1 H->i<n->J.yld i H x H'->Same H H'/\X i x H'
theorem Wk.range {lo:Int}{n:Nat}{H1:Hp}:Wk (Itr lo n) n H1 fun i x _=>x=.int (lo+i):=
 ⟨fun i H _ h=>h,fun H _=>zcr9 _,fun i H x H' _ _ y=>by obtain⟨rfl,rfl⟩:=y;exact⟨Same.refl _,rfl⟩⟩
theorem Wk.list {K:zcq5}{a:Addr}{xs:List V}{H1:Hp}(h:SqL K H1 a xs):Wk (Itl K a) xs.length H1 fun i x _=>xs[i]?=some x:=
 ⟨fun i H s hi=>⟨xs,xs[i],s.seq h,by simp[hi]⟩,fun H s=>⟨xs,s.seq h,zcr9 _⟩,fun i H x H' s _ y=>by
  obtain⟨e,y⟩:=y
  subst e
  exact⟨Same.refl _,y xs (s.seq h)⟩⟩
structure zak3 (H1 H:Hp) (acc:Addr) (ps:List Addr) (n:Nat) (f:Nat->HO):Prop where
 facc:H1 acc=none
 same:Same H1 H
 out:H acc=some (.lst (ps.map V.ref))
 len:ps.length=n
 nd:ps.Nodup
 nin:acc ∉ ps
 row:∀ i p,ps[i]?=some p->H1 p=none/\H p=some (f i)
theorem zak3.free {H1 H:Hp}{acc:Addr}{ps:List Addr}{n:Nat}{f:Nat->HO}(F:zak3 H1 H acc ps n f) {p:Addr}(h:p∈ps):H1 p=none:=by
 obtain⟨i,hi⟩:=zcv6 h
 exact (F.row i p hi).1
theorem zak3.some {H1 H:Hp}{acc:Addr}{ps:List Addr}{n:Nat}{f:Nat->HO}(F:zak3 H1 H acc ps n f) {i:Nat}(hi:i<n):∃ p,ps[i]?=.some p/\H p=.some (f i):=by
 have hl:i<ps.length:=by rw[F.len];exact hi
 exact⟨ps[i],zcq4 hl,(F.row i _ (zcq4 hl)).2⟩
section
variable {K:zcq5}{g:TG}{tt:TT}{te:TE}{σ0:St}{H1:Hp}{Q:VK}{J:It}{n:Nat}{X:Nat->V->Hp->Prop}
theorem zac0 (w:Wk J n H1 X) (hn:n<sizeLine) (f:Nat->HO) (Ps:Nat->St->Prop) (h0:Ps 0 σ0)
  (turn:∀ i x σ H (R:St->V->Hp->Prop) (S:St->Hp->Prop),i<n->Same H1 H->X i x H->Ps i σ->(∀ σ2 p H5,H p=none->Same H H5->H5 p=some (f i)->Ps (i+1) σ2->R σ2 (.ref p) H5)->g x σ H fun σ2 H3=>tt σ2 H3 fun b H4=>br b (te σ2 H4 fun v H5=>R σ2 v H5) (S σ2 H4))
  (fin:∀ acc ps H,zak3 H1 H acc ps n f->Q (.ref acc) H):zx5 J g tt te σ0 H1 Q:=by
 unfold zx5
 intro acc H2 hf hs ha
 refine⟨fun i m ys σ H=>m=n - i/\i<=n/\∃ ps:List Addr,ys=ps.map V.ref/\zak3 H1 H acc ps i f/\Ps i σ,⟨n,by simp,zcu4 _,[],rfl,⟨hf,hs,ha,rfl,List.nodup_nil,by simp,fun i p e=>by simp at e⟩,h0⟩,?_⟩
 rintro i m ys σ H ⟨rfl,hi,ps,rfl,F,P⟩
 refine⟨F.out,by rw[zcq3,F.len];omega,?_⟩
 by_cases hlt:i<n
 ·refine .inr ⟨w.go i H F.same hlt,fun x H' y=>?_⟩
  obtain⟨s1,x1⟩:=w.yld i H x H' F.same hlt y
  refine turn i x σ H' (fun σ2 v H5=>cPut _ acc (ps.map V.ref) i (n - i) σ2 v H5) (fun σ2 H4=>zah9 _ (ps.map V.ref) i (n - i) σ2 H4) hlt (F.same.trans s1) x1 P ?_
  intro σ2 p H5 fp s5 hp P2
  have fp0:H p=none:=s1.free fp
  have s15:=s1.trans s5
  have na:p≠acc:=Ne.symm (za5 F.out fp0)
  unfold cPut
  refine⟨s15 _ _ F.out,fun H6 c6 h6=>⟨n - (i+1),by omega,rfl,hlt,ps++[p],by rw[zcs3];rfl,⟨F.facc,(F.same.trans s15).chg F.facc c6,by rw[zcs3];exact h6,by rw[zcr6,F.len];rfl,?_,?_,?_⟩,P2⟩⟩
  ·rw[List.nodup_append]
   refine⟨F.nd,by simp,fun a ha b hb=>?_⟩
   have:b=p:=by simpa using hb
   subst this
   obtain⟨k,hk⟩:=zcv6 ha
   exact za5 (F.row k a hk).2 fp0
  ·intro hz
   rcases zcu8.mp hz with hz|hz
   ·exact F.nin hz
   ·exact na (by simpa using hz:acc=p).symm
  ·intro k q e
   by_cases hk:k<ps.length
   ·rw[zct1 hk] at e
    obtain⟨z1,z2⟩:=F.row k q e
    exact⟨z1,c6 _ _ (fun z=>F.nin (z▸zcr0 e)) (s15 _ _ z2)⟩
   ·rw[zcu2 (by omega)] at e
    have hk2:k - ps.length=0:=by
     have:=(zcq6.mp e).1
     simp at this;omega
    rw[hk2] at e
    have:p=q:=by simpa using e
    subst this
    have:k=i:=by have:=F.len;omega
    subst this
    exact⟨F.same.free fp0,c6 _ _ na hp⟩
 ·have e:i=n:=by omega
  subst e
  exact .inl ⟨w.stop H F.same,fin acc ps H F⟩
theorem zm7 (w:Wk J n H1 X) (hn:n<sizeLine) (f:Nat->V) (p:Nat->Bool) (Ps:Nat->St->Prop) (h0:Ps 0 σ0)
  (turn:∀ i x σ H (R:St->V->Hp->Prop) (S:St->Hp->Prop),i<n->Same H1 H->X i x H->Ps i σ->(p i=true->∀ σ2 H5,Same H H5->Ps (i+1) σ2->R σ2 (f i) H5)->(p i=false->∀ σ2 H5,Same H H5->Ps (i+1) σ2->S σ2 H5) ->
   g x σ H fun σ2 H3=>tt σ2 H3 fun b H4=>br b (te σ2 H4 fun v H5=>R σ2 v H5) (S σ2 H4))
  (fin:∀ acc H,H1 acc=none->Same H1 H->H acc=some (.lst (((List.range n).filter p).map f))->Q (.ref acc) H):zx5 J g tt te σ0 H1 Q:=by
 unfold zx5
 intro acc H2 hf hs ha
 refine⟨fun i m ys σ H=>m=n - i/\i<=n/\ys=((List.range i).filter p).map f/\Same H1 H/\H acc=some (.lst ys)/\Ps i σ,⟨n,by simp,zcu4 _,rfl,hs,ha,h0⟩,?_⟩
 rintro i m ys σ H ⟨rfl,hi,rfl,s,hy,P⟩
 have hlen:(((List.range i).filter p).map f).length<=i:=by
  rw[zcq3]
  have:=List.length_filter_le p (List.range i)
  rwa [zct9] at this
 refine⟨hy,by omega,?_⟩
 by_cases hlt:i<n
 ·refine .inr ⟨w.go i H s hlt,fun x H' y=>?_⟩
  obtain⟨s1,x1⟩:=w.yld i H x H' s hlt y
  refine turn i x σ H' (fun σ2 v H5=>cPut _ acc _ i (n - i) σ2 v H5) (fun σ2 H4=>zah9 _ _ i (n - i) σ2 H4) hlt (s.trans s1) x1 P ?_ ?_
  ·intro hp σ2 H5 s5 P2
   unfold cPut
   refine⟨s5 _ _ (s1 _ _ hy),fun H6 c6 h6=>⟨n - (i+1),by omega,rfl,hlt,?_,((s.trans s1).trans s5).chg hf c6,h6,P2⟩⟩
   rw[zcy4,List.filter_append,zcs3]
   congr 1
   simp[hp]
  ·intro hp σ2 H5 s5 P2
   unfold zah9
   refine⟨n - (i+1),by omega,rfl,hlt,?_,(s.trans s1).trans s5,s5 _ _ (s1 _ _ hy),P2⟩
   rw[zcy4,List.filter_append,zcs3]
   simp[hp]
 ·have e:i=n:=by omega
  subst e
  exact .inl ⟨w.stop H s,fin acc H hf s hy⟩
theorem ze0 (n:Nat):(List.range n).filter (fun _=>true)=List.range n:=by simp
end
def ChgS (ps:List Addr) (H H':Hp):Prop:=∀ b o,b ∉ ps->H b=some o->H' b=some o
theorem ChgS.refl (ps:List Addr) (H:Hp):ChgS ps H H:=fun _ _ _ e=>e
theorem ChgS.same {ps:List Addr}{H H1 H2:Hp}(x:ChgS ps H H1) (y:Same H1 H2):ChgS ps H H2:=fun b o h e=>y b o (x b o h e)
theorem zbx8 (n:Nat):(List.range n).all (fun _=>true)=true:=by simp
end L2
set_option maxHeartbeats 2000000
namespace L2
open PySem PySem.Spec PyProof.Rows
def Itd (hi:Int) (n:Nat):It:=⟨fun i _=>i<n,fun i H x H'=>H'=H/\x=.int (hi - i),fun i _=>n<=i⟩
theorem zba3 {P:Program}{w:World}{K:zcq5}{tg:Expr}(it:Addr) (lo:Int) (n:Nat):Turn P w K tg (Itd lo n) [it] it (fun i h=>IsRangeIter h it (lo+(i:Nat)*(-1)) ((n:Int) - (i:Nat)) (-1)) where
 mem:=by simp
 obj:=fun i h st b hb=>by
  have e:b=it:=by simpa using hb
  subst e
  exact⟨_,st,fun v z=>by
   have z':Data.fields _=Data.cell v:=z
   cases z'⟩
 keep:=fun i h h' st k=>k it (by simp) _ st
 item:=by
  intro X hP hw hK hc i pins s σ H E I hf st hg
  subst hP hw hK
  obtain⟨f0,f1,f2,f3,f4,f5⟩:=hf it (by simp)
  have W:=Walks.range (prog:=X.prog) (w:=X.w) (I.ok.hd hc) it lo (-1) n
  refine W.item i s _ _ hg st fun v h' tk hv st' kk=>?_
  obtain⟨t,rfl⟩:=hv
  have I1:Inv X pins σ H { s with heap:=h',toks:=tk }:=I.turned (fun b o hb e=>kk b o (by simpa using hb) e) f0 f1 f3 f4 f5
  refine⟨_,rfl,go_of (s:={ s with heap:=h',toks:=tk }) (n:="range_iterator") st' rfl rfl (by decide) ⟨.int (lo - i),H,I1,⟨t,?_⟩,⟨rfl,rfl⟩,st',fun b hb=>(hf b hb).1⟩⟩
  rw[show lo+(i:Int)*(-1)=lo - i by omega]
 done:=by
  intro X hP hw hK hc i pins s σ H E I hf st hg
  subst hP hw hK
  obtain⟨f0,f1,f2,f3,f4,f5⟩:=hf it (by simp)
  exact wpAny_pyNext_range_end (I.ok.hd hc) st (by have:n<=i:=hg;omega) fun h' eb=>⟨rfl,I.turned (t':=s.toks) (fun b o hb e=>eb b o hb e) f0 f1 f3 f4 f5⟩
 self:=fun _ _ _ _ _ st h=>wpAny_pyIter_rangeiter st h
section
variable {X:Cx}{tg:Expr}
@[irreducible] def zcd3 (i j:Int) (H:Hp) (R:It->Hp->Prop):Prop:=(-(2 ^ 62)<=i/\i<2 ^ 62/\-(2 ^ 62)<=j/\j<2 ^ 62)/\R (Itd i (i - j).toNat) H
def qiRngD (ta:TA):TI:=fun σ H R=>ta σ H fun vs H1=>match vs with
 | [.int i,.int j,.int (-1)]=>zcd3 i j H1 R
 | _=>False
end
section
variable {K:zcq5}{g:TG}{tb:TS}{D:Ends}{σ:St}{H:Hp}{R:It->Hp->Prop}
theorem zay4 {hi:Int}{n:Nat}(Pv:Nat->St->Hp->Prop) (h0:Pv 0 σ H)
  (hs:∀ i σ H,i<n->Pv i σ H->g (.int (hi - i)) σ H fun σ2 H2=>tb { D with nx:=Pv (i+1),ct:=Pv (i+1),bk:=D.nx } σ2 H2) (hd:∀ σ H,Pv n σ H->D.nx σ H):zaj1 (Itd hi n) g tb D σ H:=by
 unfold zaj1
 refine⟨fun i m σ H=>m=n - i/\i<=n/\Pv i σ H,⟨n,by simp,zcu4 _,h0⟩,?_⟩
 rintro i m σ H ⟨rfl,hi',p⟩
 by_cases hlt:i<n
 ·refine .inr ⟨hlt,Pv (i+1),fun σ' H' p'=>⟨n - (i+1),by omega,rfl,hlt,p'⟩,fun x H' y=>?_⟩
  obtain⟨rfl,rfl⟩:=y
  exact hs i σ _ hlt p
 ·have e:i=n:=by omega
  subst e
  exact .inl ⟨zcr9 _,hd σ H p⟩
end
section
variable {X:Cx}{K:zcq5}
@[irreducible] def rMinL (K:zcq5) (p:Addr) (H:Hp) (Q:VK):Prop:=∃ ns:List Int,SqL K H p (ns.map V.int)/\0<ns.length/\∀ M:Int,M∈ns->(∀ a∈ns,M<=a)->Q (.int M) H
def zca4 (K:zcq5):List V->Hp->VK->Prop:=fun xs H Q=>match xs with
 | [.ref p]=>rMinL K p H Q
 | [.int i,.int j]=>Q (.int (if j<i then j else i)) H
 | _=>False
theorem cMinK (hK:X.K=K) (hc:X.calm=true):zp7 X (.builtin "min") (zca4 K):=by
 subst hK
 intro pins s σ H xs us Q I r h
 unfold zca4 at h
 split at h
 ·unfold rMinL at h
  obtain⟨ns,h1,h2,h3⟩:=h
  obtain⟨u,rfl,rx⟩:=zac3 r
  cases rx
  obtain⟨its,r',pl,hz⟩:=I.list h1
  have hi:=zaa5 r'
  obtain⟨ys,hx⟩:=hi.allInts.items
  have e1:ns=ys.toList.map (·.1):=by
   rw[← nums_intItems,← hx]
   exact (show numsOf its.toArray.toList=ns from hi.numsOf).symm
  have hs:0<ys.size:=by
   have z:ns.length=ys.size:=by
    conv=>lhs;rw[e1]
    rw[zcq3,Array.length_toList]
   omega
  have hl':s.heap.IsList _ (intItems ys):=hx▸pl.isList
  refine min_intList (I.ok.hd hc) hl' hs fun v h' tk hv hk=>?_
  obtain⟨t,rfl⟩:=intItems_at hv
  have best:=argBest_lt (numAt ys) (ys.size - 1)
  refine⟨.int _,H,I.kept hk,⟨t,rfl⟩,h3 _ ?_ fun a ha=>?_⟩
  ·rw[e1,numAt_eq]
   exact getD_mem (by rw[zcq3,Array.length_toList];omega)
  ·rw[e1] at ha
   obtain⟨j,hj,rfl⟩:=mem_getD ha
   rw[zcq3,Array.length_toList] at hj
   rw[← numAt_eq]
   exact best.2 j (by omega)
 ·exact zbj9 hc pins s σ H _ us Q I r ⟨_,_,rfl,h⟩
 ·exact h.elim
theorem zbm4 {p:Addr}{H:Hp}{Q:VK}{ns:List Int}(h:SqL K H p (ns.map V.int)) (h0:0<ns.length) (q:∀ M:Int,M∈ns->(∀ a∈ns,M<=a)->Q (.int M) H):rMinL K p H Q:=by unfold rMinL;exact⟨ns,h,h0,q⟩
theorem ptW {e:Expr}{t:TT}(h:PW X e t):PT X e t:=h.pt
end
end L2
set_option maxHeartbeats 2000000
namespace L2
open PySem PySem.Spec PyProof.Rows
def ExAt (B h:Heap) (e:Addr) (cls:Value) (dx:Option Addr):Prop:=
 ∃ (oe:Obj) (vs:Array Value),h.get? e=some oe/\oe.cls=cls/\oe.dict=dx/\oe.data=.fields vs/\1<vs.size /\
  (vs[1]?=some .none∨∃ (T:Addr) (oT:Obj) (ts:Array Value),vs[1]?=some (.ref T)/\B.get? T=none/\T≠e/\h.get? T=some oT/\oT.data=.fields ts/\3<ts.size/\ts[3]?=some .none)
def Th (h h':Heap):Prop:=∀ b o,h.get? b=some o->∃ o',h'.get? b=some o'
structure FlyX (B:Heap) (l:List Env) (e:Addr) (cls:Value) (dx:Option Addr) (h:Heap):Prop where
 stays:B.StaysIn h
 new:B.get? e=none
 frames:h.FunFrames B l
 ex:ExAt B h e cls dx
section
variable {M:Model}{A:Around}{E:Value->Shared->Prop}{s:Shared}{B:Heap}{env:Env}{outer:List Env}{L e:Addr}{cls:Value}{dx:Option Addr}{Q:Unit->Shared->Prop}
theorem zad5 (f:Array Value->Array Value) (o:Obj):(Obj.mapFields f o).cls=o.cls/\(Obj.mapFields f o).dict=o.dict:=by
 obtain⟨c,d,dt,sl⟩:=o
 cases dt<;>exact⟨rfl,rfl⟩
theorem zav7 {head:Value}{hn:Bool}{oe:Obj}{vs:Array Value}(hfr:A.frames=some (env :: outer)) (hf:env.frame=some L) (f1:B.StaysIn s.heap) (f2:B.get? e=none) (f3:s.heap.FunFrames B (env :: outer))
  (he:s.heap.get? e=some oe) (hc:oe.cls=cls) (hdx:oe.dict=dx) (hd:oe.data=.fields vs) (hsz:1<vs.size)
  (hQ:∀ h',FlyX B (env :: outer) e cls dx h'->s.heap.UpToSlots h'->Th s.heap h'->Q () { s with heap:=h' }) :
  wpAny M A (do let a ← frameOf env;let pl ← entryPlaceOf L hn;let b ← EntryCells.newEntry head a .none (rawInt L) .none pl;setField (.ref e) 1 b) (fun _ s1=>wpAny M A (setFlight (.ref e) none) Q E s1) E s:=by
 have hene:e ∉ (env :: outer).filterMap (·.frame):=fun hm=>by
  obtain⟨_,o,ho,hnf⟩:=f3.mem hm
  rw[he] at ho
  cases ho
  exact hnf vs hd
 refine wpAny_bind (wpAny_frameOf_fun hfr f3 hf fun g hg=>wpAny_bind (wpAny_entryPlaceOf fun pl hpl=>?_))
 refine wpAny_bind (wpAny_newObj_type ?_ (hpl.sizeOk5 _ _ _ _ _))
 have e1:g.get? e=some oe:=(hg.2.1 e hene).trans he
 have lt1:=zcs0 e1
 generalize hO:({ cls:=.type "traceback",data:=.fields ([head,.ref L,.none,rawInt L,.none]++(if pl.isEmpty then List.replicate 6 Value.none else pl)).toArray }:Obj)=O
 have hOd:O.data=.fields ([head,.ref L,.none,rawInt L,.none]++(if pl.isEmpty then List.replicate 6 Value.none else pl)).toArray:=by rw[← hO]
 have hOz:3<([head,.ref L,.none,rawInt L,.none]++(if pl.isEmpty then List.replicate 6 Value.none else pl)).toArray.size:=by simp
 have hOf:O.isFreed=false:=by rw[← hO];rfl
 generalize ([head,.ref L,.none,rawInt L,.none]++(if pl.isEmpty then List.replicate 6 Value.none else pl)).toArray=ts at hOd hOz
 have e2:(g.push O).get? e=some oe:=zcq9 _ e1
 have t2:(g.push O).get? g.objs.size=some O:=zcs4 _ hOf
 have nT:g.objs.size≠e:=zcw6 lt1
 refine wpAny_setField e2 hd hsz ?_
 have d3:=Obj.data_mapFields hd (fun a=>a.setIfInBounds 1 (Value.ref g.objs.size))
 have e3:=zcv2 (Obj.mapFields fun a=>a.setIfInBounds 1 (Value.ref g.objs.size)) e2 (Obj.isFreed_of_fields d3)
 have t3:=(zct3 (g.push O) (Obj.mapFields fun a=>a.setIfInBounds 1 (Value.ref g.objs.size)) (Ne.symm nT)).trans t2
 unfold setFlight
 refine wpAny_bind (wpAny_field e3 d3 (x:=.ref g.objs.size) (by simp[hsz]) ?_)
 rw[if_pos (by simp)]
 refine wpAny_setField t3 hOd hOz (hQ _ ?_ ?_ ?_)
 ·have kp:∀ b o,b≠e->g.get? b=some o->(((g.push O).update e (Obj.mapFields fun a=>a.setIfInBounds 1 (Value.ref g.objs.size))).update g.objs.size (Obj.mapFields fun a=>a.setIfInBounds 3 Value.none)).get? b=some o:=fun b o hb hz=>by
   rw[zct3 _ _ (zcw6 (zcs0 hz)),zct3 _ _ (Ne.symm hb)]
   exact zcq9 _ hz
  have d4:=Obj.data_mapFields hOd (fun a=>a.setIfInBounds 3 Value.none)
  have t4:=zcv2 (Obj.mapFields fun a=>a.setIfInBounds 3 Value.none) t3 (Obj.isFreed_of_fields d4)
  have e4:=(zct3 ((g.push O).update e (Obj.mapFields fun a=>a.setIfInBounds 1 (Value.ref g.objs.size))) (Obj.mapFields fun a=>a.setIfInBounds 3 Value.none) nT).trans e3
  have pf:=zad5 (fun a=>a.setIfInBounds 1 (Value.ref g.objs.size)) oe
  refine⟨fun b o hb=>kp b o (fun z=>by rw[z,f2] at hb;cases hb) ((hg.2.1 b fun hm=>by rw[(f3.mem hm).1] at hb;cases hb).trans (f1 b o hb)),f2,f3.of_keeps fun b o hb hnf=>?_,_,_,e4,pf.1.trans hc,pf.2.trans hdx,d3,by simpa using hsz,.inr ⟨_,_,_,by simp[hsz],?_,nT,t4,d4,by simpa using hOz,by simp[hOz]⟩⟩
  ·obtain⟨sl,hs⟩:=hg.2.2 b o hb
   refine⟨_,kp b _ (fun z=>?_) hs,rfl⟩
   rw[z,he] at hb
   cases hb
   exact hnf vs hd
  ·cases q:B.get? g.objs.size with
   | none=>rfl
   | some o=>
    have z1:=f1 _ _ q
    have z2:=(hg.2.1 _ fun hm=>by rw[(f3.mem hm).1] at q;cases q).trans z1
    exact absurd (zcs0 z2) (zcx2 _)
 ·intro b o hb hnf
  obtain⟨sl,hs⟩:=hg.2.2 b o hb
  refine⟨sl,?_⟩
  rw[zct3 _ _ (zcw6 (zcs0 hs)),zct3 _ _ (fun z=>?_)]
  ·exact zcq9 _ hs
  ·rw[← z,he] at hb
   cases hb
   exact hnf vs hd
 ·intro b o hb
  by_cases hbe:b=e
  ·subst hbe
   exact⟨_,(zct3 _ _ nT).trans e3⟩
  ·obtain⟨sl,hs⟩:=hg.2.2 b o hb
   refine⟨{ o with slots:=sl },?_⟩
   rw[zct3 _ _ (zcw6 (zcs0 hs)),zct3 _ _ (Ne.symm hbe)]
   exact zcq9 _ hs
theorem zbt4 (hfr:A.frames=some (env :: outer)) (hf:env.frame=some L) (F:FlyX B (env :: outer) e cls dx s.heap)
  (hQ:∀ h',FlyX B (env :: outer) e cls dx h'->s.heap.UpToSlots h'->Th s.heap h'->Q () { s with heap:=h' }):wpAny M A (noteFrame (.ref e) env) (fun _ s1=>wpAny M A (setFlight (.ref e) none) Q E s1) E s:=by
 obtain⟨f1,f2,f3,oe,vs,he,hc,hdx,hd,hsz,hT⟩:=F
 unfold noteFrame
 rw[hf]
 rcases hT with h1|⟨T,oT,ts,h1,bT,nT,gT,dT,zT,vT⟩
 ·refine wpAny_bind (wpAny_field he hd h1 ?_)
  dsimp only
  rw[if_neg (by simp)]
  exact zav7 hfr hf f1 f2 f3 he hc hdx hd hsz hQ
 ·refine wpAny_bind (wpAny_field he hd h1 ?_)
  dsimp only
  rw[if_pos (by simp)]
  refine wpAny_bind (wpAny_field gT dT vT ?_)
  rw[if_neg (by simp[rawInt])]
  refine wpAny_bind (wpAny_setField gT dT zT ?_)
  have ne:∀ b o,s.heap.get? b=some o->(∀ vs,o.data≠.fields vs)->b≠T:=fun b o hb hnf z=>by
   rw[z,gT] at hb
   cases hb
   exact hnf ts dT
  have kp:∀ b o,b≠T->s.heap.get? b=some o->(s.heap.update T (Obj.mapFields fun a=>a.setIfInBounds 3 Value.none)).get? b=some o:=fun b o hb hz=>by
   rw[zct3 _ _ (Ne.symm hb)];exact hz
  refine zav7 (s:={ s with heap:=s.heap.update T (Obj.mapFields fun a=>a.setIfInBounds 3 Value.none) }) hfr hf (fun b o hb=>kp b o (fun z=>by rw[z,bT] at hb;cases hb) (f1 b o hb)) f2 (f3.of_keeps fun b o hb hnf=>⟨o,kp b o (ne b o hb hnf) hb,rfl⟩)
   (kp e oe (Ne.symm nT) he) hc hdx hd hsz fun h' F' U W=>hQ h' F' (fun b o hb hnf=>U b o (kp b o (ne b o hb hnf) hb) hnf) fun b o hb=>?_
  by_cases hbT:b=T
  ·subst hbT
   exact W b _ (zcv2 (Obj.mapFields fun a=>a.setIfInBounds 3 Value.none) gT (Obj.isFreed_of_fields (Obj.data_mapFields dT _)))
  ·exact W b o (kp b o hbT hb)
theorem zbk2 (hfr:A.frames=some (env :: outer)) (hf:env.frame=some L) (F:FlyX B (env :: outer) e cls dx s.heap)
  (hQ:∀ h',FlyX B outer e cls dx h'->s.heap.UpToSlots h'->Th s.heap h'->Q () { s with heap:=h' }):wpAny M A (leaving env (.ref e)) Q E s:=by
 unfold leaving
 exact wpAny_bind (zbt4 hfr hf F fun h' F' U W=>hQ h' ⟨F'.stays,F'.new,F'.frames.2.2,F'.ex⟩ U W)
end
structure zba2 (X:Cx) (pins:List (Addr×Obj)) (σ:St) (H:Hp) (B:Heap) (e:Addr) (cls:Value) (dx:Option Addr) (s:Shared):Prop where
 inv:Inv X pins σ H s
 hok:HOk X.prog X.w H B
 fly:FlyX B X.stack e cls dx s.heap
 kb:∀ b o,X.s₀.heap.get? b=some o->X.H₀ b=none->b ∉ X.fs->b ∉ X.ex->B.get? b=some o
 en:∀ o,X.s₀.heap.get? e=some o->e∈X.ex
def CXR (P:Program) (w:World):CXT:=fun outer H s E e s'=>∃ (ea:Addr) (cls:Value) (dx:Option Addr) (H':Hp) (B:Heap),e=.ref ea/\s'.os=s.os/\AllBare s'.gens/\HOk P w H' B/\FlyX B outer ea cls dx s'.heap /\
 Un (frs outer) [] H H' s.heap s'.heap/\(∀ b o,s.heap.get? b=some o->H b=none->b ∉ frs outer->B.get? b=some o)/\(∀ o,s.heap.get? ea≠some o)/\E cls dx H'
section
variable {X:Cx}{pins:List (Addr×Obj)}{σ:St}{H:Hp}{s s':Shared}
theorem zaq1 (I:Inv X pins σ H s) {b:Addr}{o:Obj}(e:X.s₀.heap.get? b=some o) (h:b ∉ X.fs):b ∉ frs X.stack:=fun hm=>by
 rcases zcs2.mp (I.stkSub b hm) with z|z
 ·exact absurd (zcs7 (zcs0 e) I.ok.above) (by rw[z];exact zcx2 _)
 ·exact h z
theorem zba2.of_raise {e:Addr}{cls:Value}{args:List Value}{h':Heap}{t':Nat}(I:Inv X pins σ H s) (m:Heap.MadeExcOf s.heap h' e cls args):zba2 X pins σ H (PySem.W.hideAll s.heap (frs X.stack)) e cls none { s with heap:=h',toks:=t' }:=by
 have nofr:∀ b o,H b=some o->b ∉ frs X.stack:=fun b o hb hm=>by rw[I.stkFree b hm] at hb;cases hb
 refine⟨I.kept m.keeps,fun a o ha=>?_,⟨fun b o hb=>m.keeps _ _ (PySem.W.of_hideAll _ hb),?_,?_,?_⟩,fun b o e n h1 h2=>?_,fun o hz=>?_⟩
 ·refine (I.hok a o ha).stay (fun b u hb hu=>zcx9 _ hu ?_) (fun _ q=>q) fun _ _ q=>q
  rcases hb with rfl|hb
  ·exact nofr _ _ ha
  ·exact nofr _ _ hb
 ·cases q:(PySem.W.hideAll s.heap (frs X.stack)).get? e with
  | none=>rfl
  | some o=>
   have:=PySem.W.of_hideAll _ q
   rw[m.new] at this
   cases this
 ·refine Heap.FunFrames.of_keeps (fun b o hb _=>⟨o,m.keeps b o hb,rfl⟩) (PySem.W.funFrames_hide I.stack fun env he a hf=>?_)
  exact List.mem_filterMap.mpr ⟨env,he,hf⟩
 ·obtain⟨t,h1,_,_⟩:=m.there
  exact⟨_,_,h1,rfl,rfl,rfl,by simp,.inl rfl⟩
 ·exact zcx9 _ (I.base.keep b o e n h1 h2) (zaq1 I e h1)
 ·apply Classical.byContradiction
  intro hx
  obtain⟨o',k⟩:=I.base.there _ o hz hx
  rw[m.new] at k
  cases k
def XOut (X:Cx) (E:XK):Prop:=∀ (pins:List (Addr×Obj)) (σ:St) (H:Hp) (B:Heap) (e:Addr) (cls:Value) (dx:Option Addr) (s:Shared),zba2 X pins σ H B e cls dx s->E cls dx H->X.xe (.ref e) s
theorem zbs0 {P:Program}{w:World}:zaw2 (CXR P w) X E0:=fun _ _ _ _ _ _ _ h=>by
 obtain⟨_,_,_,_,_,_,_,_,_,_,_,_,_,h⟩:=h
 exact (show False from h).elim
end
theorem xout {P:Program}{w:World}{K:zcq5}{mg:Str->Option Value}{base:Heap}{N:List Str}{qual:Str}{scope:Scope}{f:Addr}{cd:Value}{A:Around}{outer:List Env}{s:Shared}{H:Hp}{E:XK} :
  XOut (cxOf (CXR P w) P w K mg base N qual scope f cd A outer s H E) E:=fun pins σ H' B e cls dx s' F hE=>by
 have I:=F.inv
 refine zbk2 (outer:=outer) I.ok.frames (rfl:(envOfC qual scope s.heap.objs.size f cd).frame=some s.heap.objs.size) F.fly fun h' F' U W=>?_
 have kb:∀ b o,s.heap.get? b=some o->H b=none->b ∉ frs outer->B.get? b=some o:=fun b o e n h1=>F.kb b o e n h1 (by exact zcu0)
 refine⟨e,cls,dx,H',B,rfl,I.os,I.bare,F.hok,F',?_,kb,fun o z=>absurd (F.en o z) (by exact zcu0),hE⟩
 have un:Un (frs outer) [] H H' s.heap s'.heap:=I.base
 refine⟨fun b o e n h1 _=>F'.stays _ _ (kb b o e n h1),fun b o e n h1 h2=>?_,un.free,fun b o e h2=>?_,un.tups,un.frzs,un.tbls⟩
 ·obtain⟨sl,k⟩:=un.slot b o e n h1 h2
  obtain⟨_,o2,ho2,hd⟩:=I.ok.funs.mem h1
  have:o2=o:=Option.some.inj (ho2.symm.trans e)
  subst this
  obtain⟨sl',k'⟩:=U b _ k hd
  exact⟨sl',k'⟩
 ·obtain⟨o',k⟩:=un.there b o e h2
  exact W b o' k
section
variable {X:Cx}{x:Str}{C:Addr}{bm:List Value}{B newId initId:String}{np cpos pos:Pos}{e₀:Expr}{rest:List Expr}{t:TA}{E:XK}
def qRaise (C:Addr) (E:XK) (t:TA):TS:=fun _ σ H=>t σ H fun vs H1=>vs.length<=sizeLine/\E (.ref C) none H1
theorem zcj6 (O:OwnCls x C bm newId X.mg X.base) (FB:ExcBaseFacts B newId initId bm) (hc:X.calm=true) (hout:XOut X E) (ha:PA X (e₀ :: rest) t) (hg:Gl X x:=by rfl) (hd:(x==("__debug__":Str))=false:=by decide)
  (he:starEach (e₀ :: rest) X.env=(false,eval e₀ X.env) :: starEach rest X.env:=by rfl) (hpl:(backTo cpos (starEach rest X.env)).any (·.1)=false:=by rfl) :
  PS X (.Raise (some (.Call (.Name x np) (e₀ :: rest) [] cpos)) none pos) (qRaise C E t):=by
 intro pins s σ H D I h
 obtain⟨tl,N,nm,q,bs,hdct,sn,sub,ab,col,dd,k0,k1,k2,k3,k5,mN,hC,hN,hni,T⟩:=O.obj
 refine wpAny_Raise_call_subT (C:=C) (nm:=nm) (q:=q) (N:=N) (bs:=bs) (bm:=tl) (hdct:=hdct) (sn:=sn) (sub:=sub) (ab:=ab) (col:=col) (dd:=dd) (k0:=k0) (k1:=k1) (k2:=k2) (k3:=k3) (k5:=k5) FB (mN:=mN)
  (T.hasType FB.hasBase) (I.ok.hd hc) (by rw[he];show (false || (backTo cpos (starEach rest X.env)).any (·.1))=false;rw[hpl];rfl) hni (zap3 I hg O.bound ⟨rfl,?_⟩ hd)
 have hA:=ha cpos pins s σ H _ I h
 rw[he] at hA ⊢
 refine Calls.evalArgs_plain (thn hA fun us s2 ⟨vs,H1,I1,r,hz,q⟩=>⟨rfl,by rw[← r.length];exact hz,I1.bk _ _ hC,hN.keeps I1.bk,T.keeps I1.bk,fun h' e m=>?_⟩)
 exact hout _ _ _ _ _ _ _ _ (zba2.of_raise (t':=s2.toks) I1 m) q
end
section
variable {P:Program}{w:World}{K:zcq5}{mg:Str->Option Value}{base:Heap}
theorem Fun.okR {x qual:Str}{st:Stmt}{f:Addr}{fd:FuncData}{N ps:List Str}{k:Nat}{sp:Sp}(F:Fun K x qual st f fd) (S:zb3 N ps (za3 st)) (len:∀ vs H Q E,sp vs H Q E->vs.length=ps.length)
  (hbody:∀ (cdv:Value) (A:Around) (outer:List Env) (s:Shared) (H:Hp) (vs:List V) (Q:VK) (E:XK),Room k (A.deeper (envOfC qual (za3 st) s.heap.objs.size f cdv))->XOut (cxOf (CXR P w) P w K mg base N qual (za3 st) f cdv A outer s H E) E->sp vs H Q E ->
   ∃ t,PSs (cxOf (CXR P w) P w K mg base N qual (za3 st) f cdv A outer s H E) (za9 st) t/\t { nx:=fun _ H'=>Q .non H',rt:=Q } (zan3 N vs) H):FnOk P w K mg base (CXR P w) (k+1) f fd ps sp:=by
 obtain⟨oc,od,kV,doc,pm,an,cdv,ct,osl,rfl,lk,hcd⟩:=F.ex
 refine fn_of lk hcd S len fun A outer s H vs Q E hr hsp=>?_
 exact hbody cdv A outer s H vs Q E hr xout hsp
end
end L2
set_option maxHeartbeats 4000000
namespace L2
open PySem PySem.Spec PyProof.Rows
structure ExcK (K:zcq5) (D:Addr):Prop where
 h1:zcu5 K (.ref D) "__getattribute__"=some (some (.builtin "BaseException.__getattribute__"))
 h2:zcu5 K (.ref D) "__getattr__"=some none
 h3:zcu5 K (.ref D) "__class__"=some (some (.builtin "object.__class__"))
 h4:zcv0 K (.ref D) (.type "BaseException")=some true
 h5:PySem.W.mroIn K D (.type "object")=some true
def ExcIs (e:Addr) (cls:Value) (dx:Option Addr) (h:Heap):Prop:=∃ (oe:Obj) (vs:Array Value),h.get? e=some oe/\oe.cls=cls/\oe.dict=dx/\oe.data=.fields vs
section
open PySem.W PySem.Calls
end
abbrev excO (ea:Addr) (cls:Value) (dx:Option Addr):HO:=.ext (ExcIs ea cls dx)
section
variable {X:Cx}{K:zcq5}{H:Hp}{Q:VK}
end
section
variable {X:Cx}{pins:List (Addr×Obj)}{σ:St}{H:Hp}{s:Shared}
theorem zi2.ex {P:Program}{w:World}{H:Hp}{h:Heap}{a:Addr}{o:HO}(x:zi2 P w H h a o):∃ u,h.get? a=some u:=by
 cases o with
 | lst xs=>obtain⟨_,_,_,_,e⟩:=x;exact⟨_,e⟩
 | tup xs=>obtain⟨_,_,_,ob,e,_⟩:=x;exact⟨ob,e⟩
 | dK kvs=>obtain⟨_,_,_,_,ob,_,_,e,_⟩:=x;exact⟨ob,e⟩
 | dT kvs=>obtain⟨_,_,_,_,ob,_,_,e,_⟩:=x;exact⟨ob,e⟩
 | set S n=>obtain⟨ob,_,_,_,e,_⟩:=x;exact⟨ob,e⟩
 | ins C dx fs=>obtain⟨_,_,_,e,_⟩:=x;exact⟨_,e⟩
 | own y=>exact x
 | xd fs=>obtain⟨_,⟨ob,_,_,e,_⟩,_⟩:=x;exact⟨ob,e⟩
 | rng lo hi=>obtain⟨_,_,_,e⟩:=x;exact⟨_,e⟩
 | frz ob u=>obtain⟨e,_⟩:=x;exact⟨_,e⟩
 | tbl ps=>exact⟨_,(show h.get? a=some _ from x)⟩
 | met f y=>exact⟨_,(show h.get? a=some _ from x)⟩
 | ext φ=>obtain⟨_,e,_⟩:=x;exact e
end
end L2
set_option maxHeartbeats 4000000
namespace L2
open PySem PySem.Spec PyProof.Rows
section
open PySem.W
theorem zbx1 {K:Frag}{h:Heap}{mg:Str->Option Value}{x:Str}{C:Addr}{bmB:List Value}{newId:String}(X:K.In h) (G:h.Ns mainGlobals mg) (e:nsIn K mainGlobals x=some (some (.ref C))) (q:excIn K C bmB newId=true):OwnCls x C bmB newId mg h:=by
 have bd:=mg_of X G e
 unfold excIn at q
 split at q
 case h_2=>cases q
 rename_i dd cd sl ho
 split at q
 case h_2=>cases q
 rename_i C1 bm k0 k1 k2 k3 n k5 hm hs
 simp only[zcs9,beq_iff_eq,Bool.not_eq_true'] at q
 obtain⟨⟨⟨⟨⟨q1,q2⟩,q3⟩,q4⟩,q5⟩,q6⟩:=q
 have z:sl=#[k0,k1,k2,k3,some (.builtin n),k5]:=by
  cases sl with
  | mk l=>rw[show l=[k0,k1,k2,k3,some (.builtin n),k5] from hs]
 cases cd with
 | mk nm bs mro ns qn hd sn sub ab col del=>
  have hm:mro=.ref C1 :: bm:=hm
  have q3:del=false:=q3
  subst q1 q2 z hm q3
  exact⟨bd,bm,ns,nm,qn,bs,hd,sn,sub,ab,col,dd,k0,k1,k2,k3,k5,_,X _ _ ho,.of_isNs (isNs_of_in X q5),nsMap_none_of_in X q5 q6,tail_of_in X q4⟩
theorem zz9 {K:Frag}{t:Value}{C:Addr}{cd:ClassData}{b:Bool}(h1:clsIn K C=some cd) (h2:typeIn K (.ref C)=some (.type "type")) (h3:subIn K t (.ref C)=some b):kitCls K t (.ref C)=some b:=by
 unfold kitCls
 dsimp only
 rw[h1,h2,if_pos (by simp)]
 exact h3
theorem zu5 {K:Frag}{t:Value}{C:Addr}{cd:ClassData}{b:Bool}(h1:clsIn K C=some cd) (h2:typeIn K (.ref C)=some (.type "type")) (h3:subIn K t (.ref C)=some b) (h4:subIn K t t=some true):kitOne K t (.ref C)=some b:=by
 unfold kitOne
 split
 ·rename_i z
  have z:t=.ref C:=by simpa using z
  subst z
  rw[h3] at h4
  exact h4.symm
 ·exact zz9 h1 h2 h3
theorem zad0 {K:Frag}{C:Addr}{cd:ClassData}{b:Bool}(h1:clsIn K C=some cd) (h2:typeIn K (.ref C)=some (.type "type")) (h3:subIn K (.type "NoneType") (.ref C)=some b):kitOne K (.type "NoneType") (.ref C)=some b:=by
 unfold kitOne
 rw[if_neg (by simp)]
 exact zz9 h1 h2 h3
theorem zw4 {K:Frag}{D:Addr}{b:Bool}(h:subIn K (.ref D) (.type "ValueError")=some b):kitOne K (.ref D) (.type "ValueError")=some b:=by
 unfold kitOne kitCls
 rw[if_neg (by simp)]
 dsimp only
 rw[if_pos (by decide +kernel)]
 exact h
theorem zbq3 {K:Frag}{t:Value}{C:Addr}{cd:ClassData}{b:Bool}(h0:subIn K (.ref C) (.type "BaseException")=some true) (h1:clsIn K C=some cd) (h2:typeIn K (.ref C)=some (.type "type")) (h3:subIn K t (.ref C)=some b):exmOne K t (.ref C)=some b:=by
 unfold exmOne
 rw[if_pos (by rw[h0];simp)]
 exact zz9 h1 h2 h3
end
abbrev bmV:List Value:=[.type "ValueError",.type "Exception",.type "BaseException",.type "object"]
abbrev newV:String:="ValueError.__new__"
section
variable {X:Cx}{K:zcq5}
end
section
variable {X:Cx}{st:Stmt}{rest:List Stmt}{t u:TS}{e:Expr}{es:List Expr}{te:TE}{ta:TA}
end
end L2
set_option maxHeartbeats 1000000
namespace L2
open PySem PySem.Spec PyProof.Rows
section
variable {X:Cx}{K:zcq5}
end
end L2
set_option maxHeartbeats 2000000
namespace L2
open PySem PySem.Spec PyProof.Rows
def Itz (K:zcq5) (a b:Addr):It:=
 ⟨fun i H=>∃ xs ys x y,SqL K H a xs/\SqL K H b ys/\xs[i]?=some x/\ys[i]?=some y,
  fun i H v H'=>∃ p x y,v=.ref p/\H p=none/\Same H H'/\H' p=some (.tup [x,y])/\(∀ xs,SqL K H a xs->xs[i]?=some x)/\∀ ys,SqL K H b ys->ys[i]?=some y,
  fun i H=>∃ xs ys,SqL K H a xs/\SqL K H b ys/\(xs.length<=i∨ys.length<=i)⟩
theorem zbx5 {P:Program}{w:World}{K:zcq5}{elts:List Expr}{k:Nat}{pos:Pos}(l1 l2 z TI TO i1 i2:Addr) (D:ZipApart z TI TO i1 i2 l1 l2) :
  Turn P w K (.Tuple elts k pos) (Itz K l1 l2) [z,TI,TO,i1,i2] z (fun i h=>IsZip h z TI TO .none/\IsPair h TI (.ref i1) (.ref i2)/\(∃ a b,IsPair h TO a b)/\h.IsListIter i1 l1 i/\h.IsListIter i2 l2 i) where
 mem:=by simp
 obj:=fun i h st b hb=>by
  obtain⟨hz,hTI,⟨a,b',hTO⟩,⟨o1,e1,c1,d1⟩,⟨o2,e2,c2,d2⟩⟩:=st
  simp only[zcs2,zcu0,or_false] at hb
  rcases hb with rfl|rfl|rfl|rfl|rfl
  ·exact⟨_,hz,fun v z=>by cases z⟩
  ·exact⟨_,hTI,fun v z=>by cases z⟩
  ·exact⟨_,hTO,fun v z=>by cases z⟩
  ·exact⟨o1,e1,fun v z=>by rw[d1] at z;cases z⟩
  ·exact⟨o2,e2,fun v z=>by rw[d2] at z;cases z⟩
 keep:=fun i h h' st kp=>by
  obtain⟨hz,hTI,⟨a,b',hTO⟩,h1,h2⟩:=st
  exact⟨kp z (by simp) _ hz,kp TI (by simp) _ hTI,⟨a,b',kp TO (by simp) _ hTO⟩,h1.at fun o x=>kp i1 (by simp) o x,h2.at fun o x=>kp i2 (by simp) o x⟩
 item:=by
  intro X hP hw hK hc i pins s σ H E I hf st hg
  subst hP hw hK
  obtain⟨hz,hTI,⟨a0,b0,hTO⟩,h1,h2⟩:=st
  obtain⟨xs,ys,x,y,hq1,hq2,hx,hy⟩:=hg
  obtain⟨its1,rv1,p1,_⟩:=I.list hq1
  obtain⟨its2,rv2,p2,_⟩:=I.list hq2
  obtain⟨u,hu,ru⟩:=rv1.get hx
  obtain⟨v,hv,rv⟩:=rv2.get hy
  have hzl:z<s.heap.objs.size:=zcs0 hz
  refine wpAny_pyNext_zip_item D hz hTI hTO h1 h2 p1.isList p2.isList (x:=u) (y:=v) (by simpa using hu) (by simpa using hv) fun h3 z3 TO3 j1 j2 T3 sz3 kp3=>?_
  refine⟨_,rfl,wpAny_letOwnedTupleGo_zip z3 fun h4 z4 hs4=>?_⟩
  replace hs4:Heap.SameBut z h3 h4:=hs4
  have kp:∀ b o,b ∉ [z,TI,TO,i1,i2]->s.heap.get? b=some o->h4.get? b=some o:=fun b o hb x=>by
   simp only[zcs2,zcu0,or_false,not_or] at hb
   obtain⟨b1,b2,b3,b4,b5⟩:=hb
   exact (hs4.2 b b1).trans (kp3 b o b1 b3 b4 b5 x)
  have ht4:h4.get? s.heap.objs.size=some { cls:=.type "tuple",data:=.seq #[u,v] }:=(hs4.2 _ (zcw6 hzl)).trans T3
  have hfr:H s.heap.objs.size=none:=I.fresh
  have nof:∀ b v,H b=some v->b ∉ [z,TI,TO,i1,i2]:=fun b v hb m=>by
   have:=(hf b m).1
   rw[this] at hb
   cases hb
  have nlt:∀ b o,s.heap.get? b=some o->b≠s.heap.objs.size:=fun b o x=>zct6 (zcs0 x)
  have hok:HOk X.prog X.w (upd H s.heap.objs.size (.tup [x,y])) h4:=fun b v' hb=>by
   by_cases e1:b=s.heap.objs.size
   ·subst e1
    rw[zc2] at hb
    cases hb
    exact⟨by show 2<=sizeLine;decide,[u,v],.cons ru (.cons rv .nil),⟨_,ht4,rfl,_,rfl⟩⟩
   ·rw[zc3 e1] at hb
    refine (I.hok b v' hb).stay (fun c w' hc q=>?_) (fun c q=>?_) (fun c ys q=>?_)
    ·rcases hc with rfl|hc
     ·exact kp _ _ (nof _ _ hb) q
     ·exact kp _ _ (nof _ _ hc) q
    ·rw[zc3 (za5 q hfr)];exact q
    ·rw[zc3 (za5 q hfr)];exact q
  have chs:∀ b∈[z,TI,TO,i1,i2],(b∈X.ex∨X.s₀.heap.objs.size<=b)/\b≠X.env.locals/\(∀ x c,X.env.cells.lookup x=some c->c≠b)/\∀ p∈X.pn++pins,p.1≠b:=fun b hb=>by
   obtain⟨f0,f1,f2,f3,f4,f5⟩:=hf b hb
   exact⟨f3,f1,f4,f5⟩
  have I2:Inv X pins σ (upd H s.heap.objs.size (.tup [x,y])) { s with heap:=h4 }:=
   I.step (g':=s.gens) (d':=s.drawn) (t':=s.toks) (ch:=[z,TI,TO,i1,i2]) chs (fun b o _ _ hb x _=>kp b o hb x) (fun b o _ _ hb x _=>⟨o.slots,kp b o hb x⟩)
    (fun b o _ x n=>by rw[zc3 (nlt b o x)];exact n) (fun b o hb x=>⟨o,kp b o hb x⟩) (fun b ys q=>by rw[zc3 (za5 q hfr)];exact q) (fun b o v q=>by rw[zc3 (za5 q hfr)];exact q)
    (fun b ps q=>⟨#[],by rw[zc3 (za5 q hfr),q];simp⟩)
    (fun m hm=>by
     obtain⟨o,es,ep,ho,r⟩:=hm
     exact⟨o,es,ep,kp _ o (fun m=>(chs _ m).2.1 rfl) ho,r⟩) hok I.bare
  refine⟨.ref s.heap.objs.size,_,I2,rfl,⟨_,x,y,rfl,hfr,Same.upd hfr,zc2,fun ys hy'=>by rw[I.list_inj hy' hq1];exact hx,fun ys hy'=>by rw[I.list_inj hy' hq2];exact hy⟩,⟨z4,?_,⟨u,v,?_⟩,?_,?_⟩,fun b hb=>?_⟩
  ·exact (hs4.2 _ D.TIz).trans (kp3 _ _ D.TIz D.TITO D.TIi1 D.TIi2 hTI)
  ·exact (hs4.2 _ D.TOz).trans TO3
  ·exact j1.extBut hs4.extBut D.i1z
  ·exact j2.extBut hs4.extBut D.i2z
  ·have hb0:H b=none:=(hf b hb).1
   have hlt:b≠s.heap.objs.size:=by
    simp only[zcs2,zcu0,or_false] at hb
    rcases hb with rfl|rfl|rfl|rfl|rfl
    ·exact nlt _ _ hz
    ·exact nlt _ _ hTI
    ·exact nlt _ _ hTO
    ·obtain⟨o,ho,_⟩:=h1;exact nlt _ _ ho
    ·obtain⟨o,ho,_⟩:=h2;exact nlt _ _ ho
   rw[zc3 hlt];exact hb0
 done:=by
  intro X hP hw hK hc i pins s σ H E I hf st hg
  subst hP hw hK
  obtain⟨hz,hTI,⟨a0,b0,hTO⟩,h1,h2⟩:=st
  obtain⟨xs,ys,hq1,hq2,hx⟩:=hg
  obtain⟨its1,rv1,p1,_⟩:=I.list hq1
  obtain⟨its2,rv2,p2,_⟩:=I.list hq2
  have hl1:=rv1.length
  have hl2:=rv2.length
  have nof:∀ b v,H b=some v->b ∉ [z,TI,TO,i1,i2]:=fun b v hb m=>by
   have:=(hf b m).1
   rw[this] at hb
   cases hb
  have chs:∀ b∈[z,TI,TO,i1,i2],(b∈X.ex∨X.s₀.heap.objs.size<=b)/\b≠X.env.locals/\(∀ x c,X.env.cells.lookup x=some c->c≠b)/\∀ p∈X.pn++pins,p.1≠b:=fun b hb=>by
   obtain⟨f0,f1,f2,f3,f4,f5⟩:=hf b hb
   exact⟨f3,f1,f4,f5⟩
  refine wpAny_pyNext_zip_end (I.ok.hd hc) D hz hTI hTO h1 h2 p1.isList p2.isList ?_ fun h' kp3=>⟨rfl,?_⟩
  ·rcases hx with hx|hx
   ·exact .inl (by simp;omega)
   ·exact .inr (by simp;omega)
  ·have kp:∀ b o,b ∉ [z,TI,TO,i1,i2]->s.heap.get? b=some o->h'.get? b=some o:=fun b o hb x=>by
    simp only[zcs2,zcu0,or_false,not_or] at hb
    obtain⟨b1,b2,b3,b4,b5⟩:=hb
    exact kp3 b o b1 b3 b4 b5 x
   have hok:HOk X.prog X.w H h':=fun b v' hb=>by
    refine (I.hok b v' hb).stay (fun c w' hc q=>?_) (fun c q=>q) (fun c ys q=>q)
    rcases hc with rfl|hc
    ·exact kp _ _ (nof _ _ hb) q
    ·exact kp _ _ (nof _ _ hc) q
   exact I.step (g':=s.gens) (d':=s.drawn) (t':=s.toks) (ch:=[z,TI,TO,i1,i2]) chs (fun b o _ _ hb x _=>kp b o hb x) (fun b o _ _ hb x _=>⟨o.slots,kp b o hb x⟩)
    (fun b o _ x n=>n) (fun b o hb x=>⟨o,kp b o hb x⟩) (fun b ys q=>q) (fun b o v q=>q)
    (fun b ps q=>⟨#[],by rw[q];simp⟩)
    (fun m hm=>by
     obtain⟨o,es,ep,ho,r⟩:=hm
     exact⟨o,es,ep,kp _ o (fun m=>(chs _ m).2.1 rfl) ho,r⟩) hok I.bare
 self:=fun _ _ _ _ _ st h=>wpAny_pyIter_zip st.1 h
section
variable {X:Cx}{K:zcq5}
theorem zca6:bootBuiltins "zip"=some (.type "zip"):=by decide +kernel
@[irreducible] def rZip (K:zcq5) (a b:Addr) (H:Hp) (R:It->Hp->Prop):Prop:=(∃ xs,SqL K H a xs)/\(∃ ys,SqL K H b ys)/\R (Itz K a b) H
def qiZip (K:zcq5) (ta:TA):TI:=fun σ H R=>ta σ H fun vs H1=>match vs with
 | [.ref a,.ref b]=>rZip K a b H1 R
 | _=>False
theorem zbi6 {elts:List Expr}{k:Nat}{pt:Pos}{a b:Expr}{ta:TA}{p pos:Pos}(hK:X.K=K) (hm:X.mg "zip"=none) (ha:PA X [a,b] ta) (hg:Gl X "zip":=by rfl) (hs:starEach [a,b] X.env=(false,eval a X.env) :: starEach [b] X.env:=by rfl)
  (hpl:(backTo pos (starEach [b] X.env)).any (·.1)=false:=by rfl) :
  PI X (.Tuple elts k pt) (.Call (.Name "zip" p) [a,b] [] pos) (qiZip K ta):=by
 subst hK
 intro pins s σ H R I h
 refine Call_ (zy6 I hg hm zca6 (PyProof.Rows.callWith_type1 (thn (ha pos pins s σ H _ I h) fun us s1 ⟨vs,H1,I1,r1,q1⟩=>?_) hs hpl))
 dsimp only at q1
 split at q1
 ·rename_i l m
  unfold rZip at q1
  obtain⟨⟨xs,hq1⟩,⟨ys,hq2⟩,q⟩:=q1
  obtain⟨u1,u2,rfl,rx,ry⟩:=zbo1 r1
  cases rx
  cases ry
  obtain⟨its1,rv1,p1,_⟩:=I1.list hq1
  obtain⟨its2,rv2,p2,_⟩:=I1.list hq2
  have l1:@LT.lt Nat _ l s1.heap.objs.size:=by obtain⟨o,ho,_⟩:=p1.isList;exact zcs0 ho
  have l2:@LT.lt Nat _ m s1.heap.objs.size:=by obtain⟨o,ho,_⟩:=p2.isList;exact zcs0 ho
  refine call_zip_2 p1.isList p2.isList fun h' hz hTI hTO j1 j2 hsz hk=>?_
  refine wpAny_pyIter_zip hz ?_
  have I2:Inv X pins σ H1 { s1 with heap:=h' }:=I1.kept (t':=s1.toks) hk
  have D:ZipApart (s1.heap.objs.size+4) (s1.heap.objs.size+2) (s1.heap.objs.size+3) s1.heap.objs.size (s1.heap.objs.size+1) l m:=by
   constructor<;>(intro z;have z:(_:Nat)=_:=z;omega)
  refine⟨_,_,_,Itz X.K l m,H1,rfl,I2,zbx5 l m _ _ _ _ _ D,⟨hz,hTI,⟨_,_,hTO⟩,j1,j2⟩,fun b hb=>?_,q⟩
  have hb':s1.heap.objs.size<=b:=by
   simp only[zcs2,zcu0,or_false] at hb
   rcases hb with rfl|rfl|rfl|rfl|rfl
   ·exact zcv5 _ _
   ·exact zcv5 _ _
   ·exact zcv5 _ _
   ·exact zcr9 _
   ·exact zcv5 _ _
  exact I1.fpOk hb' (I1.hok.fresh hb')
 ·exact q1.elim
end
section
variable {K:zcq5}{g:TG}{tb:TS}{D:Ends}{σ:St}{H:Hp}{R:It->Hp->Prop}
theorem zbq5 {a b:Addr}{xs ys:List V}(h:SqL K H a xs) (h':SqL K H b ys) (q:R (Itz K a b) H):rZip K a b H R:=by unfold rZip;exact⟨⟨xs,h⟩,⟨ys,h'⟩,q⟩
theorem Wk.zip {a b:Addr}{xs ys:List V}{n:Nat}{H1:Hp}(h:SqL K H1 a xs) (h':SqL K H1 b ys) (hx:xs.length=n) (hy:ys.length=n):Wk (Itz K a b) n H1 fun i v H=>∃ p x y,v=.ref p/\H p=some (.tup [x,y])/\xs[i]?=some x/\ys[i]?=some y:=
 ⟨fun i H s hi=>⟨xs,ys,xs[i],ys[i],s.seq h,s.seq h',by simp,by simp⟩,fun H s=>⟨xs,ys,s.seq h,s.seq h',.inl (Nat.le_of_eq hx)⟩,fun i H v H' s _ y=>by
  obtain⟨p,x,y,rfl,y1,y2,y3,y4,y5⟩:=y
  exact⟨y2,p,x,y,rfl,y3,y4 xs (s.seq h),y5 ys (s.seq h')⟩⟩
end
end L2
set_option maxHeartbeats 2000000
namespace L2
open PySem PySem.Spec PyProof.Rows
section
variable {X:Cx}{K:zcq5}
end
section
variable {J:It}{n:Nat}{H1:Hp}{X:Nat->V->Hp->Prop}{g:TG}{tt:TT}{te:TE}{σ0:St}{Q:VK}
theorem comp_A (w:Wk J n H1 X) (hn:n<sizeLine) (Pv:Addr->Nat->List V->St->Hp->Prop) (h0:∀ acc H,H1 acc=none->Same H1 H->H acc=some (.lst [])->Pv acc 0 [] σ0 H)
  (hP:∀ acc i ys σ H H',Same H H'->Pv acc i ys σ H->Pv acc i ys σ H')
  (turn:∀ acc i x ys σ H (R:St->V->Hp->Prop) (S:St->Hp->Prop),i<n->H1 acc=none->Same H1 H->H acc=some (.lst ys)->X i x H->Pv acc i ys σ H ->
   (∀ σ2 v H5,Same H H5->(∀ H6,Chg acc H5 H6->Pv acc (i+1) (ys++[v]) σ2 H6)->R σ2 v H5)->(∀ σ2 H5,Same H H5->Pv acc (i+1) ys σ2 H5->S σ2 H5) ->
   g x σ H fun σ2 H3=>tt σ2 H3 fun b H4=>br b (te σ2 H4 fun v H5=>R σ2 v H5) (S σ2 H4))
  (fin:∀ acc ys σ H,H1 acc=none->Same H1 H->H acc=some (.lst ys)->Pv acc n ys σ H->Q (.ref acc) H):zx5 J g tt te σ0 H1 Q:=by
 unfold zx5
 intro acc H2 hf hs ha
 refine⟨fun i m ys σ H=>m=n - i/\i<=n/\ys.length<=i/\Same H1 H/\H acc=some (.lst ys)/\Pv acc i ys σ H,⟨n,by simp,zcu4 _,zcr9 _,hs,ha,h0 acc H2 hf hs ha⟩,?_⟩
 rintro i m ys σ H ⟨rfl,hi,hl,s,hy,P⟩
 refine⟨hy,by omega,?_⟩
 by_cases hlt:i<n
 ·refine .inr ⟨w.go i H s hlt,fun x H' y=>?_⟩
  obtain⟨s1,x1⟩:=w.yld i H x H' s hlt y
  refine turn acc i x ys σ H' (fun σ2 v H5=>cPut _ acc ys i (n - i) σ2 v H5) (fun σ2 H4=>zah9 _ ys i (n - i) σ2 H4) hlt hf (s.trans s1) (s1 _ _ hy) x1 (hP _ _ _ _ _ _ s1 P) ?_ ?_
  ·intro σ2 v H5 s5 q
   have s15:=s1.trans s5
   unfold cPut
   refine⟨s15 _ _ hy,fun H6 c6 h6=>⟨n - (i+1),by omega,rfl,hlt,by rw[zcr6];simp;omega,(s.trans s15).chg hf c6,h6,q H6 c6⟩⟩
  ·intro σ2 H5 s5 q
   have s15:=s1.trans s5
   unfold zah9
   exact⟨n - (i+1),by omega,rfl,hlt,by omega,s.trans s15,s15 _ _ hy,q⟩
 ·have e:i=n:=by omega
  subst e
  exact .inl ⟨w.stop H s,fin acc ys σ H hf s hy P⟩
end
end L2
set_option maxHeartbeats 2000000
namespace PySem
open Sem (wp)
namespace F
theorem zip3_typeCall (a b c:Value):checkTypeCall "zip" ⟨[a,b,c],[]⟩=pure ():=by kernel_rfl
theorem zip3_newCall (a b c:Value):checkBuiltinCall "zip.__new__" ⟨[.type "zip",a,b,c],[]⟩=pure ():=by kernel_rfl
theorem init_four (a b c d:Value):argsOk "object.__init__" ⟨[a,b,c,d],[]⟩:=by
 unfold argsOk;rw[signature?_of (id:="object.__init__") (n:=['_','_','t','i','n','i','_','_']) (o:=['t','c','e','j','b','o']) (by kernel_rfl) owner_object];kernel_rfl
end F
abbrev zr6 (h:Heap) (T:Addr) (a b c:Value):Prop:=h.get? T=some { cls:=.type "tuple",data:=.seq #[a,b,c] }
theorem zbo4 {a b:Nat}(h:a<b∨b<a):(a:Addr)≠(b:Addr):=fun z=>by have z:(a:Nat)=b:=z;omega
section
variable {prog:Program}{w:World}{A:Around}{E:Value->Shared->Prop}{s:Shared}
theorem zaz7 {T:Addr}{a b c x:Value}{k:Nat}{Q:Unit->Shared->Prop}(gT:zr6 s.heap T a b c)
  (h:∀ h',h'.get? T=some { cls:=.type "tuple",data:=.seq ((#[a,b,c]:Array Value).setIfInBounds k x) }->Heap.SameBut T s.heap h'->Q () { s with heap:=h' }) :
  wpAny (model prog w) A (updateSeq T (·.setIfInBounds k x)) Q E s:=by
 refine wpAny_updateSeq gT rfl (h _ ?_ (Heap.SameBut.update ..));rw[zcv2 _ gT rfl];simp[Obj.mapSeq]
theorem zbj2 {n l1 l2 l3:Nat}{k:Nat}{xs ys us:Array Value}{x y u a b c:Value}{Q:Value->Shared->Prop}(L1:l1<n) (L2:l2<n) (L3:l3<n)
  (gz:IsZip s.heap (n+5) (n+3) (n+4) .none) (gI:zr6 s.heap (n+3) (.ref n) (.ref (n+1)) (.ref (n+2))) (gO:zr6 s.heap (n+4) a b c)
  (j1:s.heap.IsListIter n l1 k) (j2:s.heap.IsListIter (n+1) l2 k) (j3:s.heap.IsListIter (n+2) l3 k) (q1:s.heap.IsList l1 xs) (q2:s.heap.IsList l2 ys) (q3:s.heap.IsList l3 us) (hx:xs[k]?=some x) (hy:ys[k]?=some y) (hv:us[k]?=some u)
  (hQ:∀ h',IsZip h' (n+5) (n+3) (n+4) (rawInt s.heap.objs.size)->zr6 h' (n+4) x y u->h'.IsListIter n l1 (k+1)->h'.IsListIter (n+1) l2 (k+1)->h'.IsListIter (n+2) l3 (k+1)->zr6 h' s.heap.objs.size x y u->h'.objs.size=s.heap.objs.size+1 ->
   (∀ c o,c≠n+5->c≠n+4->c≠n->c≠n+1->c≠n+2->s.heap.get? c=some o->h'.get? c=some o)->Q (.ref s.heap.objs.size) { s with heap:=h' }) :
  wpAny (model prog w) A (Builtin.«zip.__next__» ⟨[.ref (n+5)],[]⟩) (fun fin s'=>∃ v,fin=.done (.ret v)/\Q v s') E s:=by
 show wpAny _ _ (field (.ref (n+5)) 2 >>= _) _ _ _
 refine wpAny_bind (wpAny_field gz rfl (x:=.bool false) rfl ?_)
 show wpAny _ _ (field (.ref (n+5)) 3 >>= _) _ _ _
 refine wpAny_bind (wpAny_field gz rfl (x:=.ref (n+3)) rfl (wpAny_bind (wpAny_seqItems gI rfl ?_)))
 show wpAny _ _ (Builtin.SmallTypes.ownedTupleIsFree (.ref (n+5)) >>= _) _ _ _
 refine wpAny_bind ?_;unfold Builtin.SmallTypes.ownedTupleIsFree
 refine wpAny_bind (wpAny_field gz rfl (x:=.none) rfl (wpAny_pure ?_));simp only[if_true]
 refine wpAny_bind (wpAny_rule (wpAny_bind (wpAny_field gz rfl (x:=.ref (n+4)) rfl ?_)))
 refine wpAny_bind (wpAny_setField_rec gz (by simp) fun h1 gz1 b1=>?_)
 replace gz1:IsZip h1 (n+5) (n+3) (n+4) .ellipsis:=gz1
 refine wpAny_bind ?_;simp only[List.zipIdx_nil,List.zipIdx_cons,List.forIn_nil,List.forIn_cons]
 have D (p q:Nat) (h:p<q∨q<p):(p:Addr)≠(q:Addr):=zbo4 h
 refine wpAny_bind (wpAny_bind (wpAny_onRaise ?_));show wpAny _ _ (Builtin.SmallTypes.nextOf (.ref n) >>= _) _ _ _
 refine wpAny_bind (wpAny_nextOf_list_item (j1.extBut b1.extBut (D _ _ (by omega))) (q1.extBut b1.extBut (D _ _ (by omega))) hx fun h2 j12 b2=>wpAny_pure ?_)
 have gO2:zr6 h2 (n+4) a b c:=b2.extBut _ _ (D _ _ (by omega)) (b1.extBut _ _ (D _ _ (by omega)) gO)
 refine wpAny_bind (wpAny_seqItems gO2 rfl (wpAny_bind (zaz7 gO2 fun h3 gO3 b3=>?_)))
 replace gO3:zr6 h3 (n+4) x b c:=gO3
 refine wpAny_bind (wpAny_letGo (wpAny_pure ?_))
 refine wpAny_bind (wpAny_bind (wpAny_onRaise ?_));show wpAny _ _ (Builtin.SmallTypes.nextOf (.ref (n+1)) >>= _) _ _ _
 have j23:h3.IsListIter (n+1) l2 k:=((j2.extBut b1.extBut (D _ _ (by omega))).extBut b2.extBut (D _ _ (by omega))).extBut b3.extBut (D _ _ (by omega))
 have q23:h3.IsList l2 ys:=((q2.extBut b1.extBut (D _ _ (by omega))).extBut b2.extBut (D _ _ (by omega))).extBut b3.extBut (D _ _ (by omega))
 refine wpAny_bind (wpAny_nextOf_list_item j23 q23 hy fun h4 j24 b4=>wpAny_pure ?_)
 have gO4:zr6 h4 (n+4) x b c:=b4.extBut _ _ (D _ _ (by omega)) gO3
 refine wpAny_bind (wpAny_seqItems gO4 rfl (wpAny_bind (zaz7 gO4 fun h5 gO5 b5=>?_)))
 replace gO5:zr6 h5 (n+4) x y c:=gO5
 refine wpAny_bind (wpAny_letGo (wpAny_pure ?_))
 refine wpAny_bind (wpAny_bind (wpAny_onRaise ?_));show wpAny _ _ (Builtin.SmallTypes.nextOf (.ref (n+2)) >>= _) _ _ _
 have up5:∀ c o,c≠n+5->c≠n+4->c≠n->c≠n+1->s.heap.get? c=some o->h5.get? c=some o:=fun c o c1 c2 c3 c4 e=>
  b5.extBut _ _ c2 (b4.extBut _ _ c4 (b3.extBut _ _ c2 (b2.extBut _ _ c3 (b1.extBut _ _ c1 e))))
 have j35:h5.IsListIter (n+2) l3 k:=j3.at fun o e=>up5 _ o (D _ _ (by omega)) (D _ _ (by omega)) (D _ _ (by omega)) (D _ _ (by omega)) e
 have q35:h5.IsList l3 us:=q3.at fun o e=>up5 _ o (D _ _ (by omega)) (D _ _ (by omega)) (D _ _ (by omega)) (D _ _ (by omega)) e
 refine wpAny_bind (wpAny_nextOf_list_item j35 q35 hv fun h6 j36 b6=>wpAny_pure ?_)
 have gO6:zr6 h6 (n+4) x y c:=b6.extBut _ _ (D _ _ (by omega)) gO5
 refine wpAny_bind (wpAny_seqItems gO6 rfl (wpAny_bind (zaz7 gO6 fun h7 gO7 b7=>?_)))
 replace gO7:zr6 h7 (n+4) x y u:=gO7
 refine wpAny_bind (wpAny_letGo (wpAny_pure (wpAny_pure ?_)))
 refine wpAny_bind (wpAny_seqItems gO7 rfl (wpAny_bind (wpAny_newTuple ?_)))
 have sz:h7.objs.size=s.heap.objs.size:=by rw[b7.1,b6.1,b5.1,b4.1,b3.1,b2.1,b1.1]
 have up7:∀ c o,c≠n+5->c≠n+4->c≠n->c≠n+1->c≠n+2->s.heap.get? c=some o->h7.get? c=some o:=fun c o c1 c2 c3 c4 c5 e=>b7.extBut _ _ c2 (b6.extBut _ _ c5 (up5 c o c1 c2 c3 c4 e))
 have gz7:IsZip h7 (n+5) (n+3) (n+4) .ellipsis:=
  b7.extBut _ _ (D _ _ (by omega)) (b6.extBut _ _ (D _ _ (by omega)) (b5.extBut _ _ (D _ _ (by omega)) (b4.extBut _ _ (D _ _ (by omega)) (b3.extBut _ _ (D _ _ (by omega)) (b2.extBut _ _ (D _ _ (by omega)) gz1)))))
 have j17:h7.IsListIter n l1 (k+1):=((((j12.extBut b3.extBut (D _ _ (by omega))).extBut b4.extBut (D _ _ (by omega))).extBut b5.extBut (D _ _ (by omega))).extBut b6.extBut (D _ _ (by omega))).extBut b7.extBut (D _ _ (by omega))
 have j27:h7.IsListIter (n+1) l2 (k+1):=((j24.extBut b5.extBut (D _ _ (by omega))).extBut b6.extBut (D _ _ (by omega))).extBut b7.extBut (D _ _ (by omega))
 have j37:h7.IsListIter (n+2) l3 (k+1):=j36.extBut b7.extBut (D _ _ (by omega))
 have lz:n+5<h7.objs.size:=zcs0 gz7
 show wpAny _ _ (Builtin.SmallTypes.ownedTupleHandOut (.ref (n+5)) (.ref h7.objs.size) >>= _) _ _ _
 refine wpAny_bind ?_;unfold Builtin.SmallTypes.ownedTupleHandOut
 have gz8:IsZip (h7.push { cls:=.type "tuple",data:=.seq #[x,y,u] }) (n+5) (n+3) (n+4) .ellipsis:=zcq9 _ gz7
 refine wpAny_bind (wpAny_setField_rec gz8 (by simp) fun h9 gz9 b9=>?_)
 replace gz9:IsZip h9 (n+5) (n+3) (n+4) (rawInt h7.objs.size):=gz9
 refine wpAny_setField_rec gz9 (by simp) fun ha gza ba=>?_
 replace gza:IsZip ha (n+5) (n+3) (n+4) (rawInt h7.objs.size):=gza
 have up:∀ c o,c≠n+5->h7.get? c=some o->ha.get? c=some o:=fun c o c1 e=>ba.extBut _ _ c1 (b9.extBut _ _ c1 (zcq9 _ e))
 have gT:zr6 ha h7.objs.size x y u:=ba.extBut _ _ (zcw6 lz) (b9.extBut _ _ (zcw6 lz) (zcs4 _ rfl))
 have sa:ha.objs.size=h7.objs.size+1:=by rw[ba.1,b9.1,zcw8]
 rw[sz] at gza gT sa
 refine wpAny_pure ⟨_,rfl,?_⟩
 show Q (.ref h7.objs.size) _
 rw[sz]
 exact hQ ha gza (up _ _ (D _ _ (by omega)) gO7) (j17.at fun o e=>up _ o (D _ _ (by omega)) e) (j27.at fun o e=>up _ o (D _ _ (by omega)) e) (j37.at fun o e=>up _ o (D _ _ (by omega)) e) gT sa fun c o c1 c2 c3 c4 c5 e=>up c o c1 (up7 c o c1 c2 c3 c4 c5 e)
theorem zbx3 {n l1:Nat}{k:Nat}{xs:Array Value}{a b c:Value}{Q:Fin->Shared->Prop}(hh:A.handled=none) (L1:l1<n)
  (gz:IsZip s.heap (n+5) (n+3) (n+4) .none) (gI:zr6 s.heap (n+3) (.ref n) (.ref (n+1)) (.ref (n+2))) (j1:s.heap.IsListIter n l1 k) (q1:s.heap.IsList l1 xs) (hx:xs[k]?=none)
  (hE:∀ h' e,(∀ c o,c≠n+5->c≠n->s.heap.get? c=some o->h'.get? c=some o)->(∃ o,h'.get? e=some o/\o.cls=.type "StopIteration")->E (.ref e) { s with heap:=h' }) :
  wpAny (model prog w) A (Builtin.«zip.__next__» ⟨[.ref (n+5)],[]⟩) Q E s:=by
 show wpAny _ _ (field (.ref (n+5)) 2 >>= _) _ _ _
 refine wpAny_bind (wpAny_field gz rfl (x:=.bool false) rfl ?_)
 show wpAny _ _ (field (.ref (n+5)) 3 >>= _) _ _ _
 refine wpAny_bind (wpAny_field gz rfl (x:=.ref (n+3)) rfl (wpAny_bind (wpAny_seqItems gI rfl ?_)))
 show wpAny _ _ (Builtin.SmallTypes.ownedTupleIsFree (.ref (n+5)) >>= _) _ _ _
 refine wpAny_bind ?_;unfold Builtin.SmallTypes.ownedTupleIsFree
 refine wpAny_bind (wpAny_field gz rfl (x:=.none) rfl (wpAny_pure ?_));simp only[if_true]
 refine wpAny_bind (wpAny_rule (wpAny_bind (wpAny_field gz rfl (x:=.ref (n+4)) rfl ?_)))
 refine wpAny_bind (wpAny_setField_rec gz (by simp) fun h1 gz1 b1=>?_)
 replace gz1:IsZip h1 (n+5) (n+3) (n+4) .ellipsis:=gz1
 refine wpAny_bind ?_;simp only[List.zipIdx_nil,List.zipIdx_cons,List.forIn_nil,List.forIn_cons]
 refine wpAny_bind (wpAny_bind (wpAny_onRaise ?_));show wpAny _ _ (Builtin.SmallTypes.nextOf (.ref n) >>= _) _ _ _
 refine wpAny_bind (wpAny_nextOf_list_end hh (j1.extBut b1.extBut (zbo4 (by omega))) (q1.extBut b1.extBut (zbo4 (by omega))) hx fun h2 e b2 he=>?_)
 obtain⟨oe,ge,ce⟩:=he
 have gz2:IsZip h2 (n+5) (n+3) (n+4) .ellipsis:=b2 _ _ (zbo4 (by omega)) gz1
 have ez:e≠n+5:=fun x=>by subst x;rw[gz2] at ge;cases ge;simp at ce
 refine wpAny_setField_rec gz2 (by simp) fun h3 _ b3=>hE h3 e (fun c o c1 c3 x=>b3.extBut _ _ c1 (b2 _ _ c3 (b1.extBut _ _ c1 x))) ⟨oe,b3.extBut _ _ ez ge,ce⟩
theorem zbp7 {n l1 l2 l3:Nat}{k:Nat}{xs ys us:Array Value}{x y u a b c:Value}{Q:Option Value->Shared->Prop}(L1:l1<n) (L2:l2<n) (L3:l3<n)
  (gz:IsZip s.heap (n+5) (n+3) (n+4) .none) (gI:zr6 s.heap (n+3) (.ref n) (.ref (n+1)) (.ref (n+2))) (gO:zr6 s.heap (n+4) a b c)
  (j1:s.heap.IsListIter n l1 k) (j2:s.heap.IsListIter (n+1) l2 k) (j3:s.heap.IsListIter (n+2) l3 k) (q1:s.heap.IsList l1 xs) (q2:s.heap.IsList l2 ys) (q3:s.heap.IsList l3 us) (hx:xs[k]?=some x) (hy:ys[k]?=some y) (hv:us[k]?=some u)
  (hQ:∀ h',IsZip h' (n+5) (n+3) (n+4) (rawInt s.heap.objs.size)->zr6 h' (n+4) x y u->h'.IsListIter n l1 (k+1)->h'.IsListIter (n+1) l2 (k+1)->h'.IsListIter (n+2) l3 (k+1)->zr6 h' s.heap.objs.size x y u->h'.objs.size=s.heap.objs.size+1 ->
   (∀ c o,c≠n+5->c≠n+4->c≠n->c≠n+1->c≠n+2->s.heap.get? c=some o->h'.get? c=some o)->Q (some (.ref s.heap.objs.size)) { s with heap:=h' }) :
  wpAny (model prog w) A (pyNext (.ref (n+5))) Q E s:=by
 have gT:s.TypeIs (.ref (n+5)) "zip":=⟨_,gz,rfl⟩
 unfold pyNext
 exact wpAny_bind (wpAny_attempt (wpAny_callSpecial?_slot (name:=Str.ofString "__next__") gT F.slot_zip_next (wpAny_call_entry F.slot_zip_next gT F.entry_zip_next
  (zbj2 L1 L2 L3 gz gI gO j1 j2 j3 q1 q2 q3 hx hy hv fun h' a1 a2 a3 a4 a5 a6 a7 a8=>wpAny_pure (hQ h' a1 a2 a3 a4 a5 a6 a7 a8)) (F.args_zip_next_1 _))))
theorem zbr3 {n l1:Nat}{k:Nat}{xs:Array Value}{Q:Option Value->Shared->Prop}(hh:A.handled=none) (L1:l1<n)
  (gz:IsZip s.heap (n+5) (n+3) (n+4) .none) (gI:zr6 s.heap (n+3) (.ref n) (.ref (n+1)) (.ref (n+2))) (j1:s.heap.IsListIter n l1 k) (q1:s.heap.IsList l1 xs) (hx:xs[k]?=none)
  (hQ:∀ h',(∀ c o,c≠n+5->c≠n->s.heap.get? c=some o->h'.get? c=some o)->Q none { s with heap:=h' }):wpAny (model prog w) A (pyNext (.ref (n+5))) Q E s:=by
 have gT:s.TypeIs (.ref (n+5)) "zip":=⟨_,gz,rfl⟩
 unfold pyNext
 refine wpAny_bind (wpAny_attempt (wpAny_callSpecial?_slot (name:=Str.ofString "__next__") gT F.slot_zip_next (wpAny_call_entry F.slot_zip_next gT F.entry_zip_next
  (zbx3 (a:=.none) (b:=.none) (c:=.none) hh L1 gz gI j1 q1 hx fun h' e up he=>?_) (F.args_zip_next_1 _))))
 obtain⟨o,ho,hc⟩:=he;refine wpAny_bind (wpAny_isInstance (T:="StopIteration") (b:=true) ⟨o,ho,hc⟩ isSubtype_stop (wpAny_pure (hQ _ up)))
end
abbrev itO (l:Addr):Obj:={ cls:=.type "list_iterator",data:=.fields #[.ref l,.int 0 0] }
abbrev z3a (h:Heap) (l1 l2 l3:Addr):Heap:=((h.push (itO l1)).push (itO l2)).push (itO l3)
abbrev z3b (h:Heap) (l1 l2 l3:Addr):Heap:=(z3a h l1 l2 l3).push { cls:=.type "tuple",data:=.seq #[.ref h.objs.size,.ref (h.push (itO l1)).objs.size,.ref ((h.push (itO l1)).push (itO l2)).objs.size] }
abbrev z3c (h:Heap) (l1 l2 l3:Addr):Heap:=(z3b h l1 l2 l3).push { cls:=.type "tuple",data:=.seq #[.none,.none,.none] }
abbrev z3d (h:Heap) (l1 l2 l3:Addr):Heap:=(z3c h l1 l2 l3).push { cls:=.type "zip",data:=.fields #[.none,.bool false,.bool false,.ref (z3a h l1 l2 l3).objs.size,.ref (z3b h l1 l2 l3).objs.size] }
theorem zbt3 (l1 l2 l3:Addr) (xs ys us:Array Value):Meets (Builtin.«zip.__new__» ⟨[.type "zip",.ref l1,.ref l2,.ref l3],[]⟩) (fun _ R s=>s.heap.IsList l1 xs/\s.heap.IsList l2 ys/\s.heap.IsList l3 us /\
   R (.ok (.ret (.ref (z3c s.heap l1 l2 l3).objs.size))) { s with heap:=z3d s.heap l1 l2 l3 }):=
 .of_wp fun prog w A R s h=>by
  obtain⟨hp,g,d,tk,os⟩:=s;obtain⟨q1,q2,q3,h⟩:=h;have sub:=sub_zip
  have g1:Heap.IsList (Shared.heap ⟨hp,g,d,tk,os⟩) l1 xs:=q1
  have g2:Heap.IsList (Shared.heap ⟨hp.push (itO l1),g,d,tk,os⟩) l2 ys:=Heap.IsList.push q2 _
  have g3:Heap.IsList (Shared.heap ⟨(hp.push (itO l1)).push (itO l2),g,d,tk,os⟩) l3 us:=Heap.IsList.push (Heap.IsList.push q3 _) _
  wp_walk using wpAny_pyIter_list g1,wpAny_pyIter_list g2,wpAny_pyIter_list g3
  exact⟨_,rfl,h⟩
section
variable {prog:Program}{w:World}{A:Around}{E:Value->Shared->Prop}{s:Shared}
theorem zbr2 {l1 l2 l3:Addr}{xs ys us:Array Value}{Q:Value->Shared->Prop}(q1:s.heap.IsList l1 xs) (q2:s.heap.IsList l2 ys) (q3:s.heap.IsList l3 us)
  (h:∀ h' (n:Nat),n=s.heap.objs.size->IsZip h' (n+5) (n+3) (n+4) .none->zr6 h' (n+3) (.ref n) (.ref (n+1)) (.ref (n+2))->zr6 h' (n+4) .none .none .none->h'.IsListIter n l1 0->h'.IsListIter (n+1) l2 0->h'.IsListIter (n+2) l3 0 ->
   (∀ c o,s.heap.get? c=some o->h'.get? c=some o)->Q (.ref (n+5)) { s with heap:=h' }):wpAny (model prog w) A (call (.type "zip") [.ref l1,.ref l2,.ref l3]) Q E s:=by
 refine callType_new F.called_zip (by decide) (F.zip3_typeCall _ _ _) (F.zip3_newCall _ _ _) (fun obj=>F.init_four obj _ _ _) F.entry_zip_new (zbt3 l1 l2 l3 xs ys us) ⟨q1,q2,q3,?_⟩
 have e1:(s.heap.push (itO l1)).objs.size=s.heap.objs.size+1:=zcw8 ..
 have e2:((s.heap.push (itO l1)).push (itO l2)).objs.size=s.heap.objs.size+2:=by rw[zcw8,e1]
 have e3:(z3a s.heap l1 l2 l3).objs.size=s.heap.objs.size+3:=by rw[zcw8,e2]
 have e4:(z3b s.heap l1 l2 l3).objs.size=s.heap.objs.size+4:=by rw[zcw8,e3]
 have e5:(z3c s.heap l1 l2 l3).objs.size=s.heap.objs.size+5:=by rw[zcw8,e4]
 have g6:(z3d s.heap l1 l2 l3).get? (z3c s.heap l1 l2 l3).objs.size=some _:=zcs4 _ rfl
 have g5:(z3d s.heap l1 l2 l3).get? (z3b s.heap l1 l2 l3).objs.size=some _:=zcq9 _ (zcs4 _ rfl)
 have g4:(z3d s.heap l1 l2 l3).get? (z3a s.heap l1 l2 l3).objs.size=some _:=zcq9 _ (zcq9 _ (zcs4 _ rfl))
 have g3:(z3d s.heap l1 l2 l3).get? ((s.heap.push (itO l1)).push (itO l2)).objs.size=some _:=zcq9 _ (zcq9 _ (zcq9 _ (zcs4 _ rfl)))
 have g2:(z3d s.heap l1 l2 l3).get? (s.heap.push (itO l1)).objs.size=some _:=zcq9 _ (zcq9 _ (zcq9 _ (zcq9 _ (zcs4 _ rfl))))
 have g1:(z3d s.heap l1 l2 l3).get? s.heap.objs.size=some _:=zcq9 _ (zcq9 _ (zcq9 _ (zcq9 _ (zcq9 _ (zcs4 _ rfl)))))
 show _/\_
 rw[e3,e4,e5] at g6
 rw[e1,e2,e3] at g4
 rw[e4] at g5
 rw[e2] at g3
 rw[e1] at g2
 rw[e5]
 exact⟨⟨_,g6,rfl⟩,h _ _ rfl g6 g4 g5 ⟨_,g1,rfl,rfl⟩ ⟨_,g2,rfl,rfl⟩ ⟨_,g3,rfl,rfl⟩ fun c o x=>
  zcq9 _ (zcq9 _ (zcq9 _ (zcq9 _ (zcq9 _ (zcq9 _ x)))))⟩
end
end PySem
set_option maxHeartbeats 2000000
namespace L2
open PySem PySem.Spec PyProof.Rows
def Itz3 (K:zcq5) (a b c:Addr):It:=
 ⟨fun i H=>∃ xs ys us x y u,SqL K H a xs/\SqL K H b ys/\SqL K H c us/\xs[i]?=some x/\ys[i]?=some y/\us[i]?=some u,
  fun i H v H'=>∃ p x y u,v=.ref p/\H p=none/\Same H H'/\H' p=some (.tup [x,y,u])/\(∀ xs,SqL K H a xs->xs[i]?=some x)/\(∀ ys,SqL K H b ys->ys[i]?=some y)/\∀ us,SqL K H c us->us[i]?=some u,
  fun i H=>∃ xs,SqL K H a xs/\xs.length<=i⟩
theorem zbl3 {P:Program}{w:World}{K:zcq5}{elts:List Expr}{k:Nat}{pos:Pos}(l1 l2 l3 n:Nat) (L1:l1<n) (L2:l2<n) (L3:l3<n) :
  Turn P w K (.Tuple elts k pos) (Itz3 K l1 l2 l3) [n+5,n+3,n+4,n,n+1,n+2] (n+5) (fun i h=>IsZip h (n+5) (n+3) (n+4) .none/\zr6 h (n+3) (.ref n) (.ref (n+1)) (.ref (n+2))/\(∃ a b c,zr6 h (n+4) a b c)/\h.IsListIter n l1 i/\h.IsListIter (n+1) l2 i/\h.IsListIter (n+2) l3 i) where
 mem:=by simp
 obj:=fun i h st b hb=>by
  obtain⟨hz,hTI,⟨a,b',c',hTO⟩,⟨o1,e1,c1,d1⟩,⟨o2,e2,c2,d2⟩,⟨o3,e3,c3,d3⟩⟩:=st
  simp only[zcs2,zcu0,or_false] at hb
  rcases hb with rfl|rfl|rfl|rfl|rfl|rfl
  ·exact⟨_,hz,fun v z=>by cases z⟩
  ·exact⟨_,hTI,fun v z=>by cases z⟩
  ·exact⟨_,hTO,fun v z=>by cases z⟩
  ·exact⟨o1,e1,fun v z=>by rw[d1] at z;cases z⟩
  ·exact⟨o2,e2,fun v z=>by rw[d2] at z;cases z⟩
  ·exact⟨o3,e3,fun v z=>by rw[d3] at z;cases z⟩
 keep:=fun i h h' st kp=>by
  obtain⟨hz,hTI,⟨a,b',c',hTO⟩,h1,h2,h3⟩:=st
  exact⟨kp _ (by simp) _ hz,kp _ (by simp) _ hTI,⟨a,b',c',kp _ (by simp) _ hTO⟩,h1.at fun o x=>kp _ (by simp) o x,h2.at fun o x=>kp _ (by simp) o x,h3.at fun o x=>kp _ (by simp) o x⟩
 item:=by
  intro X hP hw hK hc i pins s σ H E I hf st hg
  subst hP hw hK
  obtain⟨hz,hTI,⟨a0,b0,c0,hTO⟩,h1,h2,h3⟩:=st
  obtain⟨xs,ys,us,x,y,u',hq1,hq2,hq3,hx,hy,hu'⟩:=hg
  obtain⟨its1,rv1,p1,_⟩:=I.list hq1
  obtain⟨its2,rv2,p2,_⟩:=I.list hq2
  obtain⟨its3,rv3,p3,_⟩:=I.list hq3
  obtain⟨u,hu,ru⟩:=rv1.get hx
  obtain⟨v,hv,rv⟩:=rv2.get hy
  obtain⟨t,ht,rt⟩:=rv3.get hu'
  have hzl:n+5<s.heap.objs.size:=zcs0 hz
  refine zbp7 L1 L2 L3 hz hTI hTO h1 h2 h3 p1.isList p2.isList p3.isList (x:=u) (y:=v) (u:=t) (by simpa using hu) (by simpa using hv) (by simpa using ht) fun h3' z3 TO3 j1 j2 j3 T3 sz3 kp3=>?_
  refine⟨_,rfl,wpAny_letOwnedTupleGo_zip z3 fun h4 z4 hs4=>?_⟩
  replace hs4:Heap.SameBut (n+5) h3' h4:=hs4
  have D (p q:Nat) (h:p<q∨q<p):(p:Addr)≠(q:Addr):=zbo4 h
  have kp:∀ b o,b ∉ [n+5,n+3,n+4,n,n+1,n+2]->s.heap.get? b=some o->h4.get? b=some o:=fun b o hb x=>by
   simp only[zcs2,zcu0,or_false,not_or] at hb
   obtain⟨b1,b2,b3,b4,b5,b6⟩:=hb
   exact (hs4.2 b b1).trans (kp3 b o b1 b3 b4 b5 b6 x)
  have ht4:h4.get? s.heap.objs.size=some { cls:=.type "tuple",data:=.seq #[u,v,t] }:=(hs4.2 _ (zcw6 hzl)).trans T3
  have hfr:H s.heap.objs.size=none:=I.fresh
  have nof:∀ b v,H b=some v->b ∉ [n+5,n+3,n+4,n,n+1,n+2]:=fun b v hb m=>by
   have:=(hf b m).1
   rw[this] at hb
   cases hb
  have nlt:∀ b o,s.heap.get? b=some o->b≠s.heap.objs.size:=fun b o x=>zct6 (zcs0 x)
  have hok:HOk X.prog X.w (upd H s.heap.objs.size (.tup [x,y,u'])) h4:=fun b v' hb=>by
   by_cases e1:b=s.heap.objs.size
   ·subst e1
    rw[zc2] at hb
    cases hb
    exact⟨by show 3<=sizeLine;decide,[u,v,t],.cons ru (.cons rv (.cons rt .nil)),⟨_,ht4,rfl,_,rfl⟩⟩
   ·rw[zc3 e1] at hb
    refine (I.hok b v' hb).stay (fun c w' hc q=>?_) (fun c q=>?_) (fun c ys q=>?_)
    ·rcases hc with rfl|hc
     ·exact kp _ _ (nof _ _ hb) q
     ·exact kp _ _ (nof _ _ hc) q
    ·rw[zc3 (za5 q hfr)];exact q
    ·rw[zc3 (za5 q hfr)];exact q
  have chs:∀ b∈[n+5,n+3,n+4,n,n+1,n+2],(b∈X.ex∨X.s₀.heap.objs.size<=b)/\b≠X.env.locals/\(∀ x c,X.env.cells.lookup x=some c->c≠b)/\∀ p∈X.pn++pins,p.1≠b:=fun b hb=>by
   obtain⟨f0,f1,f2,f3,f4,f5⟩:=hf b hb
   exact⟨f3,f1,f4,f5⟩
  have I2:Inv X pins σ (upd H s.heap.objs.size (.tup [x,y,u'])) { s with heap:=h4 }:=
   I.step (g':=s.gens) (d':=s.drawn) (t':=s.toks) (ch:=[n+5,n+3,n+4,n,n+1,n+2]) chs (fun b o _ _ hb x _=>kp b o hb x) (fun b o _ _ hb x _=>⟨o.slots,kp b o hb x⟩)
    (fun b o _ x n=>by rw[zc3 (nlt b o x)];exact n) (fun b o hb x=>⟨o,kp b o hb x⟩) (fun b ys q=>by rw[zc3 (za5 q hfr)];exact q) (fun b o v q=>by rw[zc3 (za5 q hfr)];exact q)
    (fun b ps q=>⟨#[],by rw[zc3 (za5 q hfr),q];simp⟩)
    (fun m hm=>by
     obtain⟨o,es,ep,ho,r⟩:=hm
     exact⟨o,es,ep,kp _ o (fun m=>(chs _ m).2.1 rfl) ho,r⟩) hok I.bare
  refine⟨.ref s.heap.objs.size,_,I2,rfl,⟨_,x,y,u',rfl,hfr,Same.upd hfr,zc2,fun ys hy'=>by rw[I.list_inj hy' hq1];exact hx,fun ys hy'=>by rw[I.list_inj hy' hq2];exact hy,fun ys hy'=>by rw[I.list_inj hy' hq3];exact hu'⟩,⟨z4,?_,⟨u,v,t,?_⟩,?_,?_,?_⟩,fun b hb=>?_⟩
  ·exact (hs4.2 _ (D _ _ (by omega))).trans (kp3 _ _ (D _ _ (by omega)) (D _ _ (by omega)) (D _ _ (by omega)) (D _ _ (by omega)) (D _ _ (by omega)) hTI)
  ·exact (hs4.2 _ (D _ _ (by omega))).trans TO3
  ·exact j1.extBut hs4.extBut (D _ _ (by omega))
  ·exact j2.extBut hs4.extBut (D _ _ (by omega))
  ·exact j3.extBut hs4.extBut (D _ _ (by omega))
  ·have hb0:H b=none:=(hf b hb).1
   have hlt:b≠s.heap.objs.size:=by
    simp only[zcs2,zcu0,or_false] at hb
    rcases hb with rfl|rfl|rfl|rfl|rfl|rfl
    ·exact nlt _ _ hz
    ·exact nlt _ _ hTI
    ·exact nlt _ _ hTO
    ·obtain⟨o,ho,_⟩:=h1;exact nlt _ _ ho
    ·obtain⟨o,ho,_⟩:=h2;exact nlt _ _ ho
    ·obtain⟨o,ho,_⟩:=h3;exact nlt _ _ ho
   rw[zc3 hlt];exact hb0
 done:=by
  intro X hP hw hK hc i pins s σ H E I hf st hg
  subst hP hw hK
  obtain⟨hz,hTI,⟨a0,b0,c0,hTO⟩,h1,h2,h3⟩:=st
  obtain⟨xs,hq1,hx⟩:=hg
  obtain⟨its1,rv1,p1,_⟩:=I.list hq1
  have hl1:=rv1.length
  have nof:∀ b v,H b=some v->b ∉ [n+5,n+3,n+4,n,n+1,n+2]:=fun b v hb m=>by
   have:=(hf b m).1
   rw[this] at hb
   cases hb
  have chs:∀ b∈[n+5,n+3,n+4,n,n+1,n+2],(b∈X.ex∨X.s₀.heap.objs.size<=b)/\b≠X.env.locals/\(∀ x c,X.env.cells.lookup x=some c->c≠b)/\∀ p∈X.pn++pins,p.1≠b:=fun b hb=>by
   obtain⟨f0,f1,f2,f3,f4,f5⟩:=hf b hb
   exact⟨f3,f1,f4,f5⟩
  refine zbr3 (I.ok.hd hc) L1 hz hTI h1 p1.isList (by simp;omega) fun h' kp3=>⟨rfl,?_⟩
  have kp:∀ b o,b ∉ [n+5,n+3,n+4,n,n+1,n+2]->s.heap.get? b=some o->h'.get? b=some o:=fun b o hb x=>by
   simp only[zcs2,zcu0,or_false,not_or] at hb
   obtain⟨b1,b2,b3,b4,b5,b6⟩:=hb
   exact kp3 b o b1 b4 x
  have hok:HOk X.prog X.w H h':=fun b v' hb=>by
   refine (I.hok b v' hb).stay (fun c w' hc q=>?_) (fun c q=>q) (fun c ys q=>q)
   rcases hc with rfl|hc
   ·exact kp _ _ (nof _ _ hb) q
   ·exact kp _ _ (nof _ _ hc) q
  exact I.step (g':=s.gens) (d':=s.drawn) (t':=s.toks) (ch:=[n+5,n+3,n+4,n,n+1,n+2]) chs (fun b o _ _ hb x _=>kp b o hb x) (fun b o _ _ hb x _=>⟨o.slots,kp b o hb x⟩)
    (fun b o _ x n=>n) (fun b o hb x=>⟨o,kp b o hb x⟩) (fun b ys q=>q) (fun b o v q=>q)
    (fun b ps q=>⟨#[],by rw[q];simp⟩)
    (fun m hm=>by
     obtain⟨o,es,ep,ho,r⟩:=hm
     exact⟨o,es,ep,kp _ o (fun m=>(chs _ m).2.1 rfl) ho,r⟩) hok I.bare
 self:=fun _ _ _ _ _ st h=>wpAny_pyIter_zip st.1 h
section
variable {X:Cx}{K:zcq5}
@[irreducible] def rZip3 (K:zcq5) (a b c:Addr) (H:Hp) (R:It->Hp->Prop):Prop:=(∃ xs,SqL K H a xs)/\(∃ ys,SqL K H b ys)/\(∃ us,SqL K H c us)/\R (Itz3 K a b c) H
def qiZip3 (K:zcq5) (ta:TA):TI:=fun σ H R=>ta σ H fun vs H1=>match vs with
 | [.ref a,.ref b,.ref c]=>rZip3 K a b c H1 R
 | _=>False
theorem vals3 {x y z:V}{us:List Value}(r:Vals [x,y,z] us):∃ u v t,us=[u,v,t]/\RelV x u/\RelV y v/\RelV z t:=by
 cases r with
 | cons r1 r=>
  cases r with
  | cons r2 r=>
   cases r with
   | cons r3 r=>
    cases r
    exact⟨_,_,_,rfl,r1,r2,r3⟩
theorem zch2 {elts:List Expr}{k:Nat}{pt:Pos}{a b c:Expr}{ta:TA}{p pos:Pos}(hK:X.K=K) (hm:X.mg "zip"=none) (ha:PA X [a,b,c] ta) (hg:Gl X "zip":=by rfl) (hs:starEach [a,b,c] X.env=(false,eval a X.env) :: starEach [b,c] X.env:=by rfl)
  (hpl:(backTo pos (starEach [b,c] X.env)).any (·.1)=false:=by rfl) :
  PI X (.Tuple elts k pt) (.Call (.Name "zip" p) [a,b,c] [] pos) (qiZip3 K ta):=by
 subst hK
 intro pins s σ H R I h
 refine Call_ (zy6 I hg hm zca6 (PyProof.Rows.callWith_type1 (thn (ha pos pins s σ H _ I h) fun us s1 ⟨vs,H1,I1,r1,q1⟩=>?_) hs hpl))
 dsimp only at q1
 split at q1
 ·rename_i l m o
  unfold rZip3 at q1
  obtain⟨⟨xs,hq1⟩,⟨ys,hq2⟩,⟨zs,hq3⟩,q⟩:=q1
  obtain⟨u1,u2,u3,rfl,rx,ry,rz⟩:=vals3 r1
  cases rx
  cases ry
  cases rz
  obtain⟨its1,rv1,p1,_⟩:=I1.list hq1
  obtain⟨its2,rv2,p2,_⟩:=I1.list hq2
  obtain⟨its3,rv3,p3,_⟩:=I1.list hq3
  have l1:@LT.lt Nat _ l s1.heap.objs.size:=by obtain⟨o,ho,_⟩:=p1.isList;exact zcs0 ho
  have l2:@LT.lt Nat _ m s1.heap.objs.size:=by obtain⟨o,ho,_⟩:=p2.isList;exact zcs0 ho
  have l3:@LT.lt Nat _ o s1.heap.objs.size:=by obtain⟨o,ho,_⟩:=p3.isList;exact zcs0 ho
  refine zbr2 p1.isList p2.isList p3.isList fun h' n hn hz hTI hTO j1 j2 j3 hk=>?_
  refine wpAny_pyIter_zip hz ?_
  have I2:Inv X pins σ H1 { s1 with heap:=h' }:=I1.kept (t':=s1.toks) hk
  rw[← hn] at l1 l2 l3
  refine⟨_,_,_,Itz3 X.K l m o,H1,rfl,I2,zbl3 l m o n l1 l2 l3,⟨hz,hTI,⟨_,_,_,hTO⟩,j1,j2,j3⟩,fun b hb=>?_,q⟩
  have hb':s1.heap.objs.size<=b:=by
   rw[← hn]
   simp only[zcs2,zcu0,or_false] at hb
   rcases hb with rfl|rfl|rfl|rfl|rfl|rfl
   ·exact zcv5 _ _
   ·exact zcv5 _ _
   ·exact zcv5 _ _
   ·exact zcr9 _
   ·exact zcv5 _ _
   ·exact zcv5 _ _
  exact I1.fpOk hb' (I1.hok.fresh hb')
 ·exact q1.elim
end
section
variable {K:zcq5}{H:Hp}{R:It->Hp->Prop}
theorem zcg1 {a b c:Addr}{xs ys us:List V}(h:SqL K H a xs) (h':SqL K H b ys) (h'':SqL K H c us) (q:R (Itz3 K a b c) H):rZip3 K a b c H R:=by unfold rZip3;exact⟨⟨xs,h⟩,⟨ys,h'⟩,⟨us,h''⟩,q⟩
theorem Wk.zip3 {a b c:Addr}{xs ys us:List V}{n:Nat}{H1:Hp}(h:SqL K H1 a xs) (h':SqL K H1 b ys) (h'':SqL K H1 c us) (hx:xs.length=n) (hy:ys.length=n) (hu:us.length=n):Wk (Itz3 K a b c) n H1 fun i v H=>∃ p x y u,v=.ref p/\H p=some (.tup [x,y,u])/\xs[i]?=some x/\ys[i]?=some y/\us[i]?=some u:=
 ⟨fun i H s hi=>⟨xs,ys,us,xs[i],ys[i],us[i],s.seq h,s.seq h',s.seq h'',by simp,by simp,by simp⟩,fun H s=>⟨xs,s.seq h,Nat.le_of_eq hx⟩,fun i H v H' s _ y=>by
  obtain⟨p,x,y,u,rfl,y1,y2,y3,y4,y5,y6⟩:=y
  exact⟨y2,p,x,y,u,rfl,y3,y4 xs (s.seq h),y5 ys (s.seq h'),y6 us (s.seq h'')⟩⟩
end
end L2
set_option maxHeartbeats 2000000
namespace L2
open PySem PySem.Spec PyProof.Rows
section
variable {X:Cx}{K:zcq5}
end
end L2
set_option maxHeartbeats 2000000
namespace L2
open PySem PySem.Spec PyProof.Rows
section
variable {X:Cx}{K:zcq5}
end
end L2
set_option maxHeartbeats 2000000
namespace L2
open PySem PySem.Spec PyProof.Rows
section
variable {X:Cx}{K:zcq5}
end
theorem Same.seqT {K:zcq5}{H H':Hp}{a:Addr}{xs:List V}(e:Same H H') (h:H a=some (.tup xs)):SqT K H' a xs:=SqT.of (e _ _ h)
theorem Wk.tup {K:zcq5}{a:Addr}{xs:List V}{H1:Hp}(h:H1 a=some (.tup xs)):Wk (Itt K a) xs.length H1 fun i x _=>xs[i]?=some x:=
 ⟨fun i H s hi=>⟨xs,xs[i],Same.seqT s h,by simp[hi]⟩,fun H s=>⟨xs,Same.seqT s h,zcr9 _⟩,fun i H x H' s _ y=>by
  obtain⟨e,y⟩:=y
  subst e
  exact⟨Same.refl _,y xs (Same.seqT s h)⟩⟩
end L2
set_option maxHeartbeats 4000000
namespace L2
open PySem PySem.Spec PyProof.Rows
section
variable {X:Cx}{K:zcq5}{H:Hp}{Q:VK}
end
section
variable {X:Cx}{K:zcq5}
end
end L2
set_option maxHeartbeats 4000000
namespace L2
open PySem PySem.Spec PyProof.Rows
section
variable {prog:Program}{w:World}{A:Around}{E:Value->Shared->Prop}{h:Heap}{g:Array GenState}{d:Drawn}{t:Nat}{os:OsState}
variable {nm q:Str}{C N:Addr}{bs bm bmB:List Value}{hdct:Bool}{sn:List Str}{sub:List Value}{ab:Bool}{col:Option Bool}{dd:Option Addr}{k0 k1 k2 k3 k5:Option Value}{B newId initId:String}{K:zcq5}
theorem zai6 (F:ExcBaseFacts B newId initId bmB) (T:OwnTail h bmB bm) (X:K.In h) {rest:List Value}{fI:Addr}{Q:Fin->Shared->Prop}
  (hC:h.get? C=some (excClassObj nm q C N bs bm hdct sn sub ab col dd k0 k1 k2 k3 k5 newId)) (hi:zcu5 K (.ref C) "__init__"=some (some (.ref fI))) (hf:zcx5 K (.ref fI)=some (.type "function"))
  (hq:∀ h' e,Heap.MadeExcOf h h' e (.ref C) rest->h.objs.size<=e->wpAny (model prog w) A (call (.ref fI) (.ref e :: rest)) (fun r s'=>r=.none/\Q (.done (.ret (.ref e))) s') E ⟨h',g,d,t,os⟩) (hrest:rest.length<=sizeLine) :
  wpAny (model prog w) A (Builtin.«type.__call__» ⟨.ref C :: rest,[]⟩) Q E ⟨h,g,d,t,os⟩:=by
 repeat (first|with_reducible refine wpAny_loadPart_at hC ?_|with_reducible refine wpAny_madeBy_exc hC ?_|wp_step)
 refine codeAny_call_builtin_code (Code.quiet_builtin _ F.quiet) (wpAny_check_new_subT F T hC ?_)
 refine codeAny_exc_new_subT F T hC ?_ hrest
 show wpAny _ _ _ _ _ _
 have kp:∀ b o,h.get? b=some o->((h.push { cls:=.type "tuple",data:=.seq rest.toArray }).push { cls:=.ref C,data:=.fields #[.ref h.objs.size,.none,.none,.none,.bool false,.none] }).get? b=some o:=fun b o e=>zcq9 _ (zcq9 _ e)
 have hC₁:=kp _ _ hC
 have X₁:=X.keeps kp
 have hget:((h.push { cls:=.type "tuple",data:=.seq rest.toArray }).push
   { cls:=.ref C,data:=.fields #[.ref h.objs.size,.none,.none,.none,.bool false,.none] }).get? (h.objs.size+1)=some
   { cls:=.ref C,data:=.fields #[.ref h.objs.size,.none,.none,.none,.bool false,.none] }:=by heap_get
 have hcC:(Value.ref C :: bm).contains (.ref C)=true:=by simp
 unfold isInstance
 repeat (first|with_reducible refine wpAny_loadPart_at hget ?_|(with_reducible refine wpAny_isSubtype_exc hC₁ ?_;rw[hcC])|wp_step)
 show wpAny _ _ (typeLookup (.ref C) _) _ _ _
 refine (PySem.W.looks_findIn X₁ hi).at ?_
 refine wpAny_holding (wpAny_bind ((PySem.W.bind_fn X₁ _ hf).at ?_))
 refine wpAny_bind (wpAny_mono (hq _ (h.objs.size+1) ⟨kp,Heap.get?_none_of_le (zcx0 _),h.objs.size,hget,Heap.get?_none_of_le (zcr9 _),?_⟩ (zcx0 _)) (fun r s' hr=>?_) fun _ _ x=>x)
 ·exact zcq9 _ (Heap.get?_push_at rfl rfl)
 ·obtain⟨rfl,hQ⟩:=hr
  wp_walk
  exact hQ
theorem zbl0 (F:ExcBaseFacts B newId initId bmB) (T:OwnTail h bmB bm) (X:K.In h) {rest:List Value}{fI:Addr}{Q:Value->Shared->Prop}
  (hC:h.get? C=some (excClassObj nm q C N bs bm hdct sn sub ab col dd k0 k1 k2 k3 k5 newId)) (hi:zcu5 K (.ref C) "__init__"=some (some (.ref fI))) (hf:zcx5 K (.ref fI)=some (.type "function"))
  (hq:∀ h' e,Heap.MadeExcOf h h' e (.ref C) rest->h.objs.size<=e ->
   wpAny (model prog w) (A.under (.builtin "type.__call__" ⟨.ref C :: rest,[]⟩)) (call (.ref fI) (.ref e :: rest)) (fun r s'=>r=.none/\Q (.ref e) s') E ⟨h',g,d,t,os⟩) (hrest:rest.length<=sizeLine) :
  wpAny (model prog w) A (call (.ref C) rest) Q E ⟨h,g,d,t,os⟩:=by
 have f1:=tc_lookup
 have f2:=tc_bind (.ref C)
 have hT:(⟨h,g,d,t,os⟩:Shared).TypeIs (.ref C) "type":=⟨_,hC,rfl⟩
 refine wpAny_call (codeAny_of_tree ?_)
 show wpAny _ _ (callAny (.ref C) _) _ _ _
 repeat (any_goals (first|assumption|with_reducible refine wpAny_loadPart_at hC ?_|wp_step))
 refine⟨rfl,?_⟩
 refine codeAny_call_builtin_at (Code.quiet_builtin _ (by decide +kernel)) entry_typeCall (wpAny_check_type_call_sub hC (zai6 (hrest:=hrest) F T X hC hi hf fun h' e hm hz=>?_))
 exact hq h' e hm hz
end
section
variable {prog:Program}{w:World}{A:Around}{E:Value->Shared->Prop}{s:Shared}{env:Env}
variable {nm q:Str}{C N:Addr}{bs bm bmB:List Value}{hdct:Bool}{sn:List Str}{sub:List Value}{ab:Bool}{col:Option Bool}{dd:Option Addr}{k0 k1 k2 k3 k5:Option Value}{B newId initId:String}{K:zcq5}
theorem zv1 {M:Model}{x:Sem Value}{Q:Flow->Shared->Prop}(hbase:bm.contains (.type "BaseException")=true) (hh:A.handled=none)
  (h:wpAny M A x (fun v s₁=>∃ (e t:Addr) (dx:Option Addr),v=.ref e/\s₁.heap.get? C=some (excClassObj nm q C N bs bm hdct sn sub ab col dd k0 k1 k2 k3 k5 newId)/\s₁.heap.get? e=some { cls:=.ref C,dict:=dx,data:=.fields #[.ref t,.none,.none,.none,.bool false,.none] }/\E (.ref e) s₁) E s) :
  wpAny M A (raiseStmt env (some x) none) Q E s:=by
 have hcB:(Value.ref C :: bm).contains (.type "BaseException")=true:=by rw[List.contains_cons,hbase,Bool.or_true]
 unfold raiseStmt
 refine wpAny_bind (wpAny_mono h (fun v s₁ h₁=>?_) fun _ _ x=>x)
 obtain⟨e,t,dx,rfl,hC,he,hE⟩:=h₁
 obtain⟨hp,g,d,tk,os⟩:=s₁
 repeat (first|with_reducible refine wpAny_loadPart_at he ?_|with_reducible refine wpAny_loadPart_at hC ?_|(with_reducible refine wpAny_isSubtype_exc hC ?_;rw[hcB])|wp_step)
 exact wpAny_raiseNew_none hh hE
theorem zbh3 (F:ExcBaseFacts B newId initId bmB) {x:Str}{np cpos pos:Pos}{args:List Expr}{fI:Addr}{Q:Flow->Shared->Prop}
  (hbase:bm.contains (.type "BaseException")=true) (hh:A.handled=none) (hplain:(backTo cpos (starEach args env)).any (·.1)=false) (hi:zcu5 K (.ref C) "__init__"=some (some (.ref fI))) (hf:zcx5 K (.ref fI)=some (.type "function"))
  (h:wpAny (model prog w) A (eval (.Name x np) env) (fun f s₁=>f=.ref C/\wpAny (model prog w) A (evalArgs (.ref C) true (backTo cpos (starEach args env)) [])
   (fun a s₂=>a.kw=[]/\a.pos.length<=sizeLine/\s₂.heap.get? C=some (excClassObj nm q C N bs bm hdct sn sub ab col dd k0 k1 k2 k3 k5 newId)/\K.In s₂.heap/\OwnTail s₂.heap bmB bm /\
    ∀ h' e,Heap.MadeExcOf s₂.heap h' e (.ref C) a.pos->s₂.heap.objs.size<=e->wpAny (model prog w) (A.under (.builtin "type.__call__" ⟨.ref C :: a.pos,[]⟩)) (call (.ref fI) (.ref e :: a.pos))
     (fun r s'=>r=.none/\(∃ (t:Addr) (dx:Option Addr),s'.heap.get? e=some { cls:=.ref C,dict:=dx,data:=.fields #[.ref t,.none,.none,.none,.bool false,.none] })/\s'.heap.get? C=some (excClassObj nm q C N bs bm hdct sn sub ab col dd k0 k1 k2 k3 k5 newId)/\E (.ref e) s') E { s₂ with heap:=h' }) E s₁) E s) :
  wpAny (model prog w) A (exec (.Raise (some (.Call (.Name x np) args [] cpos)) none pos) env) Q E s:=by
 rw[arm_exec_Raise]
 first
  | refine wpAny_bind (wpAny_standAt (zv1 (C:=C) (nm:=nm) (q:=q) (N:=N) (bs:=bs) (bm:=bm) (hdct:=hdct) (sn:=sn) (sub:=sub) (ab:=ab) (col:=col) (dd:=dd) (k0:=k0) (k1:=k1) (k2:=k2) (k3:=k3) (k5:=k5) (newId:=newId) hbase hh (wpAny_bind (wpAny_mono (wpAny_Call_ofName (wpAny_mono h (fun f s₁ h₁=>?_) fun _ _ x=>x)) (fun v s₃ h₃=>wpAny_bind (wpAny_standAt (wpAny_pure h₃))) fun _ _ x=>x))))
  | (simp only[evalOpt,Option.map];refine wpAny_bind (wpAny_standAt (zv1 (C:=C) (nm:=nm) (q:=q) (N:=N) (bs:=bs) (bm:=bm) (hdct:=hdct) (sn:=sn) (sub:=sub) (ab:=ab) (col:=col) (dd:=dd) (k0:=k0) (k1:=k1) (k2:=k2) (k3:=k3) (k5:=k5) (newId:=newId) hbase hh (wpAny_bind (wpAny_mono (wpAny_Call_ofName (wpAny_mono h (fun f s₁ h₁=>?_) fun _ _ x=>x)) (fun v s₃ h₃=>wpAny_bind (wpAny_standAt (wpAny_pure h₃))) fun _ _ x=>x)))))
 obtain⟨rfl,h₁⟩:=h₁
 unfold callWith
 refine wpAny_bind (wpAny_holding (wpAny_mono h₁ (fun a s₂ h₂=>wpAny_bind (wpAny_standAt ?_)) fun _ _ x=>x))
 obtain⟨apos,akw⟩:=a
 obtain⟨hkw,hlen,hC,hX,T,h₂⟩:=h₂
 obtain rfl:akw=[]:=hkw
 obtain⟨hp,g,d,tk,os⟩:=s₂
 simp only[hplain]
 refine wpAny_bind (wpAny_keeperOf_exc hC ?_)
 refine wpAny_bind (zbl0 (hrest:=hlen) F T hX hC hi hf fun h' e hm hz=>wpAny_mono (h₂ h' e hm hz) (fun r s' hr=>⟨hr.1,wpAny_bind (wpAny_holding (wpAny_point (wpAny_pure ?_)))⟩) fun _ _ z=>z)
 obtain⟨_,⟨t,dx,ho⟩,hC',hE⟩:=hr
 exact⟨e,t,dx,rfl,hC',ho,hE⟩
end
section
open PySem.W
variable {prog:Program}{w:World}{A:Around}{E:Value->Shared->Prop}{s:Shared}{K:Frag}
theorem zce1 {x C aH:Addr}{ox:Obj}{vs:Array Value}{name:Str}{v:Value}{cd:ClassData}{Q:Unit->Shared->Prop}(X:K.In s.heap) (hx:s.heap.get? x=some ox) (hc:ox.cls=.ref C) (hdx:ox.dict=none) (hd:ox.data=.fields vs)
  (hs:findIn K (.ref C) "__setattr__"=some (some (.builtin "object.__setattr__"))) (hcd:clsIn K C=some cd) (hmro:cd.mro=.ref C :: .ref aH :: bmV) (hh:cd.hasDict=true) (hn:findIn K (.ref C) name=some none)
  (hq:∀ h' tk',h'.get? x=some { ox with dict:=some s.heap.objs.size }->h'.Ns1 s.heap.objs.size (fun y=>if y=name then some v else none)->(∀ b o,b≠x->s.heap.get? b=some o->h'.get? b=some o)->Q () { s with heap:=h',toks:=tk' }) :
  wpAny (model prog w) A (setAttr (.ref x) name v) Q E s:=by
 have I:InstAt s.heap x ox C none:=⟨hx,hc,by unfold notCls;rw[hd],by rw[hdx];trivial⟩
 refine set_plain X I hs ?_
 have SF:=PySem.F.store_object
 have hm:Looks (model prog w) s.heap (mroOf (.ref C)) cd.mro:=(looks_clsIn X hcd).andThen .now
 have ty:=I.type (M:=model prog w)
 have sub:Looks (model prog w) s.heap (isInstance (.ref x) (.type "object")) true:=ty.andThen (looks_mroIn X (by unfold mroIn;rw[hcd,Option.bind_some,hmro];rfl))
 refine codeAny_call_builtin SF.slot.plain SF.entry (@check_slot (model prog w) _ _ { s with toks:=s.toks+1 } "object.__setattr__" "object" "__setattr__" (.ref x) [.str name s.toks,v] [] _ SF.kind SF.split sub (SF.args (.ref x) (.str name s.toks) v) ?_)
 rw[osa_eq,refuse_eq]
 refine wpAny_bind (wpAny_bind (ty.here (s:={ s with toks:=s.toks+1 }) (wpAny_bind (hm.here (s:={ s with toks:=s.toks+1 }) ?_))))
 rw[hmro,refuseLoop_ref,refuseLoop_ref,PySem.F.store_ValueError.passes]
 refine wpAny_pure (wpAny_bind (ty.here (s:={ s with toks:=s.toks+1 }) (wpAny_bind ((looks_findIn X hn).here (s:={ s with toks:=s.toks+1 }) (wpAny_bind (wpAny_pure ?_))))))
 have hxs:x≠s.heap.objs.size:=zct6 (zcs0 hx)
 have hx₁:(s.heap.push { cls:=.type "dict",data:=.dict #[] }).get? x=some ox:=zcq9 _ hx
 show wpAny _ _ (Builtin.ObjectAttr.storeInOwnDict (.ref x) (.ref C) (.str name s.toks) name v false) _ _ _
 unfold Builtin.ObjectAttr.storeInOwnDict Builtin.ObjectAttr.ownDictForStores instanceDict
 refine wpAny_bind (wpAny_pure (wpAny_bind (wpAny_bind (wpAny_loadPart (s:={ s with toks:=s.toks+1 }) hx ?_))))
 rw[hc]
 refine wpAny_bind ((looks_clsIn X hcd).here (s:={ s with toks:=s.toks+1 }) ?_)
 rw[hh]
 dsimp only
 rw[hdx,if_neg (by decide)]
 dsimp only
 rw[if_neg (by simp[typeHasDict]),hd]
 dsimp only
 refine wpAny_bind (wpAny_alloc' ?_)
 refine wpAny_bind (wpAny_update' hx₁ ?_)
 refine wpAny_pure ?_
 have hgd:((s.heap.push { cls:=.type "dict",data:=.dict #[] }).update x fun o=>{ cls:=o.cls,dict:=some s.heap.objs.size,data:=o.data,slots:=o.slots }).get? s.heap.objs.size=some { cls:=.type "dict",data:=.dict #[] }:=
  (Heap.get?_update_ne _ _ _ _ hxs.symm).trans (Heap.get?_push_at rfl rfl)
 have hnd:((s.heap.push { cls:=.type "dict",data:=.dict #[] }).update x fun o=>{ cls:=o.cls,dict:=some s.heap.objs.size,data:=o.data,slots:=o.slots }).Ns s.heap.objs.size (fun _=>none):=
  ⟨_,#[],_,hgd,rfl,fun e he=>absurd he (by simp),fun _=>rfl⟩
 show wpAny _ _ (Builtin.ObjectAttr.storeInDict s.heap.objs.size (.str name s.toks) name v) _ _ _
 unfold Builtin.ObjectAttr.storeInDict Builtin.ObjectAttr.newKeyGuard
 refine wpAny_bind (wpAny_pure (wpAny_bind (wpAny_nsSet1 (Heap.Ns1.of_empty hnd) fun h' hn' hs=>?_)))
 obtain⟨oD,esD,epD,hoD,hdD,hcD⟩:=hn'.count (Within.cons name v Within.nil)
 refine wpAny_bind (wpAny_lookBehind hoD (by rw[hdD];exact pastItsLine_dict (zcv1 hcD (by rw[zct0,zcw3,sizeLine_eq];omega))) ?_)
 refine wpAny_pure (hq h' _ ?_ hn' (fun b ob hbx hb=>?_))
 ·refine (hs.2 x hxs).trans (zcv2 _ hx₁ ?_)
  have hfr:=(Heap.get?_some_iff.mp hx).2
  obtain⟨oc,od,odt,osl⟩:=ox
  cases odt<;>first|rfl|exact hfr
 ·exact (hs.2 b (zct6 (zcs0 hb))).trans ((Heap.get?_update_ne _ _ _ _ hbx).trans (zcq9 _ hb))
end
end L2
set_option maxHeartbeats 4000000
namespace L2
open PySem PySem.Spec PyProof.Rows
def ExNew (e:Addr) (cls:Value) (dx:Option Addr) (h:Heap):Prop:=∃ t:Addr,h.get? e=some { cls:=cls,dict:=dx,data:=.fields #[.ref t,.none,.none,.none,.bool false,.none] }
abbrev exN (e:Addr) (cls:Value) (dx:Option Addr):HO:=.ext (ExNew e cls dx)
theorem zca8 {P:Program}{w:World}{H:Hp}{h:Heap}{e:Addr}{cls:Value}{dx:Option Addr}(x:ExNew e cls dx h):zi2 P w H h e (exN e cls dx):=by
 obtain⟨t,ht⟩:=id x
 exact⟨x,⟨_,ht⟩,fun h1 h2 ⟨t',e1⟩ k=>⟨t',k _ e1⟩⟩
structure IniK (K:zcq5) (C aH f:Addr) (fld:Str):Prop where
 ob:∃ (nm q:Str) (N:Addr) (bs:List Value) (sn:List Str) (sub:List Value) (ab:Bool) (col:Option Bool) (dd:Option Addr) (k0 k1 k2 k3 k5:Option Value),K.lookup C=some (excClassObj nm q C N bs (.ref aH :: bmV) true sn sub ab col dd k0 k1 k2 k3 k5 newV)
 tl:∀ h:Heap,K.In h->OwnTail h bmV (.ref aH :: bmV)
 init:zcu5 K (.ref C) "__init__"=some (some (.ref f))
 fn:zcx5 K (.ref f)=some (.type "function")
 sa:zcu5 K (.ref C) "__setattr__"=some (some (.builtin "object.__setattr__"))
 nf:zcu5 K (.ref C) fld=some none
section
variable {X:Cx}{K:zcq5}
@[irreducible] def rSetX (C:Addr) (fld:Str) (e:Addr) (y:V) (H:Hp) (R:Hp->Prop):Prop:=H e=some (exN e (.ref C) none)/\∀ d H',H d=none->d≠e->Chg e H H'->H' e=some (exN e (.ref C) (some d))->H' d=some (.xd [(fld,y)])->R H'
def sFldX (C:Addr) (fld:Str) (ta tv:TE):TS:=fun D σ H=>tv σ H fun y H1=>ta σ H1 fun x H2=>match x with
 | .ref e=>rSetX C fld e y H2 (fun H'=>D.nx σ H')
 | _=>False
theorem zcd4 {C:Addr}{fld:Str}{e:Addr}{y:V}{H:Hp}{R:Hp->Prop}(h:H e=some (exN e (.ref C) none)) (q:∀ d H',H d=none->d≠e->Chg e H H'->H' e=some (exN e (.ref C) (some d))->H' d=some (.xd [(fld,y)])->R H'):rSetX C fld e y H R:=by unfold rSetX;exact⟨h,q⟩
theorem psFldX {C aH f:Addr}{fld:Str}{o value:Expr}{ta tv:TE}{pos pos':Pos}(hK:X.K=K) (Z:IniK K C aH f fld) (ha:PE X o ta) (hv:PE X value tv) (hs:swapsWith value (some (.Attribute o fld pos')) pos.line X.env=pure false:=by rfl):PS X (.Assign [.Attribute o fld pos'] value pos) (sFldX C fld ta tv):=by
 subst hK
 intro pins s σ H D I h
 refine plainObj_wpAny_Assign_Attribute (thn (hv pins s σ H _ I h) fun u s1 ⟨y,H1,I1,ry,q⟩=>thn (ha pins s1 σ H1 _ I1 q) fun ov s2 ⟨x,H2,I2,rx,q2⟩=>?_) hs
 dsimp only at q2
 split at q2
 case h_2=>exact q2.elim
 rename_i e
 obtain rfl:ov=Value.ref e:=rx
 unfold rSetX at q2
 obtain⟨he,q2⟩:=q2
 obtain⟨⟨t,ht⟩,_,_⟩:=(show zi2 X.prog X.w H2 s2.heap e (exN e (.ref C) none) from I2.hok e _ he)
 obtain⟨nm,qn,N,bs,sn,sub,ab,col,dd,k0,k1,k2,k3,k5,lk⟩:=Z.ob
 have hcd:zcy1 X.K C=some { name:=nm,bases:=bs,mro:=Value.ref C :: .ref aH :: bmV,ns:=N,qualname:=qn,hasDict:=true,slotNames:=sn,subclasses:=sub,abstract:=ab,collection:=col }:=by
  unfold zcy1;rw[lk]
 refine zce1 I2.kIn ht rfl rfl rfl Z.sa hcd rfl rfl Z.nf fun h' tk' hx' hn' hk=>?_
 have hf:H2 s2.heap.objs.size=none:=I2.hok.fresh (zcr9 _)
 have hne:s2.heap.objs.size≠e:=zcw6 (zcs0 ht)
 have e1:(h'.update e fun _=>{ cls:=.ref C,data:=.fields #[.ref t,.none,.none,.none,.bool false,.none] }).get? e=some { cls:=.ref C,data:=.fields #[.ref t,.none,.none,.none,.bool false,.none] }:=zcv2 _ hx' rfl
 have k1:∀ b u,s2.heap.get? b=some u->(h'.update e fun _=>{ cls:=.ref C,data:=.fields #[.ref t,.none,.none,.none,.bool false,.none] }).get? b=some u:=fun b u hb=>by
  by_cases hbe:b=e
  ·subst hbe
   rw[e1];exact ht.symm.trans hb
  ·rw[zct3 _ _ (Ne.symm hbe)];exact hk b u hbe hb
 have I3:=I2.laid (a:=s2.heap.objs.size) (o:=.xd [(fld,y)]) (h':=h'.update e fun _=>{ cls:=.ref C,data:=.fields #[.ref t,.none,.none,.none,.bool false,.none] }) (t':=tk') k1 (zcr9 _)
  ⟨_,hn'.at (fun o q=>by rw[zct3 _ _ (Ne.symm hne)];exact q),fun g=>by
   by_cases hg:g=fld
   ·subst hg
    have hb:(g==g)=true:=by simp
    show RelO (List.lookup g [(g,y)]) (if g=g then some u else none)
    rw[if_pos rfl,show List.lookup g [(g,y)]=some y by simp only[List.lookup,hb]];exact ry
   ·have hb:(g==fld)=false:=beq_eq_false_iff_ne.mpr hg
    show RelO (List.lookup g [(fld,y)]) (if g=fld then some u else none)
    rw[if_neg hg,show List.lookup g [(fld,y)]=none by simp only[List.lookup,hb]];exact True.intro⟩
 have heu:upd H2 s2.heap.objs.size (.xd [(fld,y)]) e=some (exN e (.ref C) none):=by rw[zc3 (Ne.symm hne)];exact he
 have I4:=I3.write (x:=e) (e:=e) (o:=exN e (.ref C) (some s2.heap.objs.size)) (h':=h') (t':=tk') (by rw[heu];exact True.intro) (.inl rfl) (fun b u hb z=>by
  have z:(h'.update e fun _=>{ cls:=.ref C,data:=.fields #[.ref t,.none,.none,.none,.bool false,.none] }).get? b=some u:=z
  rw[zct3 _ _ (Ne.symm hb)] at z;exact z) ⟨_,hx'⟩ (zca8 ⟨t,hx'⟩)
 exact⟨σ,_,I4,q2 _ _ hf hne (fun b o hb z=>by rw[zc3 hb,zc3 (za5 z hf)];exact z) zc2 (by rw[zc3 hne,zc2])⟩
@[irreducible] def zab0 (C:Addr) (fld:Str):Sp:=fun vs H Q _=>∃ (e:Addr) (v:V),vs=[.ref e,v]/\H e=some (exN e (.ref C) none)/\∀ d H',H d=none->d≠e->Chg e H H'->H' e=some (exN e (.ref C) (some d))->H' d=some (.xd [(fld,v)])->Q .non H'
def hid (e:Addr) (H:Hp):Hp:=fun b=>if b=e then none else H b
theorem zz2 {e b:Addr}{H:Hp}(h:b≠e):hid e H b=H b:=by unfold hid;rw[if_neg h]
theorem zbz7 {e:Addr}{H:Hp}:hid e H e=none:=by unfold hid;rw[if_pos rfl]
theorem hid_of {e b:Addr}{H:Hp}{o:HO}(h:hid e H b=some o):b≠e/\H b=some o:=by
 by_cases z:b=e
 ·subst z;rw[zbz7] at h;cases h
 ·rw[zz2 z] at h;exact⟨z,h⟩
theorem zad1 {e b:Addr}{H:Hp}(h:H b=none):hid e H b=none:=by
 by_cases z:b=e
 ·subst z;exact zbz7
 ·rw[zz2 z];exact h
section
variable {pins:List (Addr×Obj)}{σ:St}{H:Hp}{s:Shared}{e:Addr}{φ:Heap->Prop}
theorem HOk.hid {P:Program}{w:World}{h h':Heap}(x:HOk P w H h) (he:H e=some (.ext φ)) (k:∀ b u,b≠e->(∃ o,H b=some o)->h.get? b=some u->h'.get? b=some u):HOk P w (L2.hid e H) h':=fun a o ha=>by
 obtain⟨hne,ha⟩:=hid_of ha
 have n1:∀ b,H b=some (.own a)->b≠e:=fun b hb z=>by rw[z,he] at hb;cases hb
 refine (x a o ha).stay (fun b u hb hu=>?_) (fun b hb=>by rw[zz2 (n1 b hb)];exact hb) fun b xs hb=>by
  rw[zz2 fun z=>by rw[z,he] at hb;cases hb];exact hb
 rcases hb with rfl|hb
 ·exact k _ _ hne ⟨_,ha⟩ hu
 ·exact k _ _ (n1 b hb) ⟨_,hb⟩ hu
theorem Inv.hid (I:Inv X pins σ H s) (he:H e=some (.ext φ)):Inv X pins σ (L2.hid e H) s:=by
 refine⟨I.ok,I.os,I.bare,⟨I.base.keep,I.base.slot,fun b o h1 h2 h3=>zad1 (I.base.free b o h1 h2 h3),I.base.there,fun b xs q=>?_,fun b o u q=>?_,fun b ps q=>?_⟩,I.loc,I.cell,zad1 I.free,fun x c h=>zad1 (I.freeC x c h),fun p hp=>?_,I.hok.hid he fun _ _ _ _ h=>h,I.len⟩
 ·have z:=I.base.tups b xs q
  rw[zz2 fun y=>by rw[y,he] at z;cases z];exact z
 ·have z:=I.base.frzs b o u q
  rw[zz2 fun y=>by rw[y,he] at z;cases z];exact z
 ·obtain⟨more,z⟩:=I.base.tbls b ps q
  exact⟨more,by rw[zz2 fun y=>by rw[y,he] at z;cases z];exact z⟩
 ·obtain⟨a1,a2,a3,a4,a5⟩:=I.pin p hp
  exact⟨a1,zad1 a2,a3,a4,a5⟩
theorem zba2.of_init {cls:Value}{dx:Option Addr}(I:Inv X pins σ H s) (he:H e=some (exN e cls dx)) (hen:∀ o,X.s₀.heap.get? e=some o->e∈X.ex):zba2 X pins σ (L2.hid e H) (PySem.W.hideAll s.heap (e :: frs X.stack)) e cls dx s:=by
 obtain⟨⟨t,ht⟩,_,_⟩:=(show zi2 X.prog X.w H s.heap e (exN e cls dx) from I.hok e _ he)
 refine⟨I.hid he,I.hok.hid he fun b u hb hh hu=>zcx9 _ hu ?_,⟨fun b o hb=>PySem.W.of_hideAll _ hb,?_,?_,?_⟩,fun b o e0 n h1 h2=>?_,hen⟩
 ·intro hm
  obtain⟨o,hh⟩:=hh
  rcases zcs2.mp hm with z|hm
  ·exact hb z
  ·rw[I.stkFree b hm] at hh;cases hh
 ·exact PySem.W.hideAll_none _ zcv7
 ·refine PySem.W.funFrames_hide I.stack fun env hv a hf=>?_
  exact zcu7 _ (List.mem_filterMap.mpr ⟨env,hv,hf⟩)
 ·exact⟨_,_,ht,rfl,rfl,rfl,by simp,.inl rfl⟩
 ·refine zcx9 _ (I.base.keep b o e0 n h1 h2) fun hm=>?_
  rcases zcs2.mp hm with rfl|hm
  ·exact h2 (hen _ e0)
  ·exact zaq1 I e0 h1 hm
end
@[irreducible] def zu3 (C:Addr) (fld:Str) (E:XK) (v:V) (H:Hp):Prop:=∀ d H',H d=none->Same H H'->H' d=some (.xd [(fld,v)])->E (.ref C) (some d) H'
def zbj3 (C:Addr) (fld:Str) (E:XK) (t:TE):TS:=fun _ σ H=>t σ H fun v H1=>zu3 C fld E v H1
theorem zat8 {C:Addr}{fld:Str}{E:XK}{v:V}{H:Hp}(q:∀ d H',H d=none->Same H H'->H' d=some (.xd [(fld,v)])->E (.ref C) (some d) H'):zu3 C fld E v H:=by unfold zu3;exact q
theorem zby8 {C aH f:Addr}{fld pn x:Str}{fd:FuncData}{k:Nat}{E:XK}{e₀:Expr}{te:TE}{np cpos pos:Pos}(Z:IniK X.K C aH f fld) (hm:X.mg x=some (.ref C)) (Fi:FnOk X.prog X.w X.K X.mg X.base CX0 k f fd ["self",pn] (zab0 C fld)) (hb:zai2 X.K fd ["self",pn] []) (hr:Room (k+1) X.A) (hc:X.calm=true) (hout:XOut X E) (he0:PE X e₀ te)
  (hg:Gl X x:=by rfl) (hd:(x==("__debug__":Str))=false:=by decide) (he:starEach [e₀] X.env=(false,eval e₀ X.env) :: starEach [] X.env:=by rfl) (hpl:(backTo cpos (starEach [] X.env)).any (·.1)=false:=by rfl) :
  PS X (.Raise (some (.Call (.Name x np) [e₀] [] cpos)) none pos) (zbj3 C fld E te):=by
 intro pins s σ H D I h
 obtain⟨nm,qn,N,bs,sn,sub,ab,col,dd,k0,k1,k2,k3,k5,lk⟩:=Z.ob
 refine zbh3 (K:=X.K) (C:=C) (nm:=nm) (q:=qn) (N:=N) (bs:=bs) (bm:=.ref aH :: bmV) (hdct:=true) (sn:=sn) (sub:=sub) (ab:=ab) (col:=col) (dd:=dd) (k0:=k0) (k1:=k1) (k2:=k2) (k3:=k3) (k5:=k5) PySem.F.excBase_ValueError
  (by rw[List.contains_cons,show List.contains bmV (Value.type "BaseException")=true by decide +kernel,Bool.or_true]) (I.ok.hd hc) (by rw[he];show (false || (backTo cpos (starEach [] X.env)).any (·.1))=false;rw[hpl];rfl) Z.init Z.fn (zap3 I hg hm ⟨rfl,?_⟩ hd)
 have hA:=za0 he0 (za1) he cpos pins s σ H (fun vs H1=>∃ v,vs=[v]/\zu3 C fld E v H1) I (by
  show te σ H fun v H1=>∃ v',[v]=[v']/\zu3 C fld E v' H1
  have e:(fun (v:V) (H1:Hp)=>∃ v',[v]=[v']/\zu3 C fld E v' H1)=fun v H1=>zu3 C fld E v H1:=by
   funext v H1
   apply propext
   exact⟨fun ⟨v',e1,e2⟩=>by cases e1;exact e2,fun e2=>⟨v,rfl,e2⟩⟩
  rw[e];exact h)
 rw[he] at hA ⊢
 refine Calls.evalArgs_plain (thn hA fun us s2 ⟨vs,H1,I1,r,v,ev,q⟩=>?_)
 subst ev
 obtain⟨u,rfl,ru⟩:=r.one
 refine⟨rfl,by show 1<=sizeLine;decide,I1.kIn _ _ lk,I1.kIn,Z.tl _ I1.kIn,fun h' e m hz=>?_⟩
 obtain⟨t,ht,_,_⟩:=m.there
 have hfe:H1 e=none:=I1.hok.fresh hz
 have I2:=I1.laid (a:=e) (o:=exN e (.ref C) none) (h':=h') (t':=s2.toks) m.keeps hz (zca8 ⟨t,ht⟩)
 have hsp:zab0 C fld [.ref e,v] (upd H1 e (exN e (.ref C) none)) (fun w H'=>w=.non/\∃ d,H1 d=none/\d≠e/\Chg e (upd H1 e (exN e (.ref C) none)) H'/\H' e=some (exN e (.ref C) (some d))/\H' d=some (.xd [(fld,v)])) E:=by
  unfold zab0
  refine⟨e,v,rfl,zc2,fun d H' hd hne hch h1 h2=>⟨rfl,d,?_,hne,hch,h1,h2⟩⟩
  rw[zc3 hne] at hd;exact hd
 refine wpAny_call (codeAny_mono (Fi.run _ X.stack _ _ ⟨[.ref e,u],[]⟩ [.ref e,u] [.ref e,v] _ _ (hr.make C [u] []) (I2.env0.make C [u] []) (hb _ [.ref e,u] I2.kIn rfl) (.cons rfl (.cons ru .nil)) hsp) fun r s' hq'=>?_)
 cases r with
 | error e=>exact False.elim hq'
 | ok fl=>
  cases fl with
  | ret u'=>
   obtain⟨v',H3,I3,rv,rfl,d,hd1,hd2,hch,h3,h4⟩:=I2.after hq'
   cases (show u'=Value.none from rv)
   obtain⟨⟨t',ht'⟩,_,_⟩:=(show zi2 X.prog X.w H3 s'.heap e (exN e (.ref C) (some d)) from I3.hok e _ h3)
   refine⟨rfl,⟨t',some d,ht'⟩,I3.kIn _ _ lk,?_⟩
   have hen:∀ o,X.s₀.heap.get? e=some o->e∈X.ex:=fun o z=>by
    apply Classical.byContradiction
    intro hx
    obtain⟨o',k⟩:=I1.base.there e o z hx
    rw[m.new] at k
    cases k
   unfold zu3 at q
   refine hout _ _ _ _ _ _ _ _ (zba2.of_init I3 h3 hen) (q d _ hd1 (fun b o hb=>?_) (by rw[zz2 hd2];exact h4))
   have nb:=za5 hb hfe
   rw[zz2 nb]
   exact hch b o nb (by rw[zc3 nb];exact hb)
  | next=>exact False.elim hq'
  | brk=>exact False.elim hq'
  | cont=>exact False.elim hq'
end
end L2
set_option maxHeartbeats 4000000
namespace L2
open PySem PySem.Spec PyProof.Rows
section
open PySem.W PySem.Calls
end
section
variable {X:Cx}{K:zcq5}{H:Hp}{Q:VK}
end
end L2
namespace L2
open PySem PySem.Spec PyProof.Rows
def IniF (K:zcq5) (qual:Str) (st:Stmt) (f:Addr) (pn:Str):Prop:=∃ fd,Fun K "__init__" qual st f fd/\zai2 K fd ["self",pn] []
def IniOk (P:Program) (w:World) (K:zcq5) (mg:Str->Option Value) (base:Heap) (C f:Addr) (fld:Str):Prop:=∃ pn fd,FnOk P w K mg base CX0 1 f fd ["self",pn] (zab0 C fld)/\zai2 K fd ["self",pn] []
theorem zbj0 {K:zcq5}{aH:Addr}{h:Heap}(X:K.In h) (q:PySem.W.excIn K aH bmV newV=true):OwnTail h bmV (.ref aH :: bmV):=by
 refine PySem.W.tail_of_in X ?_
 unfold PySem.W.excIn at q
 split at q
 case h_2=>cases q
 rename_i dd cd sl ho
 split at q
 case h_2=>cases q
 simp only[zcs9,beq_iff_eq,Bool.not_eq_true'] at q
 obtain⟨⟨⟨⟨⟨q1,q2⟩,q3⟩,q4⟩,q5⟩,q6⟩:=q
 unfold PySem.W.tailIn
 dsimp only
 rw[ho]
 dsimp only
 rw[q5,q6]
 have e:PySem.W.tailIn K bmV bmV=true:=by unfold PySem.W.tailIn;rw[Bool.or_eq_true];exact .inl (by simp)
 rw[e]
 simp
theorem zbf0 {X:Cx}{C aH f:Addr}{fld x:Str}{E:XK}{e₀:Expr}{te:TE}{np cpos pos:Pos}(Z:IniK X.K C aH f fld) (hm:X.mg x=some (.ref C)) (O:IniOk X.prog X.w X.K X.mg X.base C f fld) (hr:Room 2 X.A) (hc:X.calm=true) (hout:XOut X E) (he0:PE X e₀ te)
  (hg:Gl X x:=by rfl) (hd:(x==("__debug__":Str))=false:=by decide) (he:starEach [e₀] X.env=(false,eval e₀ X.env) :: starEach [] X.env:=by rfl) (hpl:(backTo cpos (starEach [] X.env)).any (·.1)=false:=by rfl) :
  PS X (.Raise (some (.Call (.Name x np) [e₀] [] cpos)) none pos) (zbj3 C fld E te):=by
 obtain⟨pn,fd,Fi,hb⟩:=O
 exact zby8 Z hm Fi hb hr hc hout he0 hg hd he hpl
end L2
set_option maxHeartbeats 2000000
namespace L2
open PySem PySem.Spec PyProof.Rows
def zaa4 (x0:Str) (names:List (Str×NameKind)):Prop:=names.filter (fun y=>y.2==.cell)=[(x0,.cell)]/\names.lookup x0=some .cell
theorem zaj9 {x0:Str}:∀ {names:List (Str×NameKind)},names.filter (fun y=>y.2==.cell)=[(x0,.cell)]->∀ (n:Nat) (acc:List (Str×Addr)) (h:Heap),cellsFrom n names acc=(x0,n) :: acc/\pushCells h names=h.push { cls:=.type "cell",data:=.cell none }
 | [],e,_,_,_=>by cases e
 | (y,k) :: r,e,n,acc,h=>by
  by_cases hk:(k==NameKind.cell)=true
  ·have hk':k=.cell:=by simpa using hk
   subst hk'
   rw[List.filter_cons_of_pos (by simp)] at e
   have e1:y=x0:=by have:=congrArg (fun l=>l.head?.map (·.1)) e;simpa using this
   have e2:r.filter (fun y=>y.2==.cell)=[]:=by have:=congrArg List.tail e;simpa using this
   subst e1
   have none:∀ (r:List (Str×NameKind)),r.filter (fun y=>y.2==.cell)=[]->∀ n acc h,cellsFrom n r acc=acc/\pushCells h r=h:=by
    intro r
    induction r with
    | nil=>intro _ n acc h;exact⟨rfl,rfl⟩
    | cons z r ih=>
     obtain⟨z1,z2⟩:=z
     intro e n acc h
     by_cases hz:(z2==NameKind.cell)=true
     ·rw[List.filter_cons_of_pos (by simpa using hz)] at e;cases e
     ·rw[List.filter_cons_of_neg (by simpa using hz)] at e
      unfold cellsFrom pushCells
      rw[if_neg hz,if_neg hz]
      exact ih e n acc h
   unfold cellsFrom pushCells
   rw[if_pos hk,if_pos hk]
   exact⟨(none r e2 _ _ h).1,(none r e2 0 [] _).2⟩
  ·rw[List.filter_cons_of_neg (by simpa using hk)] at e
   unfold cellsFrom pushCells
   rw[if_neg hk,if_neg hk]
   exact zaj9 e n acc h
theorem zaa4.only {x0:Str}{names:List (Str×NameKind)}(h:zaa4 x0 names):∀ y∈names,y.2=.cell->y.1=x0:=fun y hy hc=>by
 have:y∈names.filter (fun y=>y.2==.cell):=List.mem_filter.mpr ⟨hy,by rw[hc];rfl⟩
 rw[h.1] at this
 rw[zcx8.mp this]
theorem zci7 {M:Model}{A:Around}{E:Value->Shared->Prop}{s:Shared}{x0:Str}{scope:Scope}{globals:Addr}{cl:List (Str×Addr)}{qual:Str}{env:Env}{Q:Env->Shared->Prop}(hone:zaa4 x0 scope.names)
  (hQ:∀ h₁,h₁=(s.heap.push { cls:=.type "dict",data:=.dict #[] }).push { cls:=.type "cell",data:=.cell none }->Q { scope,locals:=s.heap.objs.size,globals,cells:=(x0,s.heap.objs.size+1) :: cl,qual,func:=none,code:=env.code,frame:=env.frame,builtins:=env.builtins } { s with heap:=h₁ }) :
  wpAny M A (newFunctionEnv scope globals cl [] qual none .none (some env)) Q E s:=by
 simp only[newFunctionEnv,Option.isSome_some,if_true]
 refine wpAny_bind (wpAny_alloc ?_)
 refine wpAny_bind (wpAny_layCells _ (fun name kind cells=>by cases hkc:kind==NameKind.cell<;>simp[hkc]) _ _ _ _ ?_)
 have o:=zaj9 hone.1 (s.heap.push { cls:=.type "dict",data:=.dict #[] }).objs.size cl (s.heap.push { cls:=.type "dict",data:=.dict #[] })
 rw[show ({ s with heap:=s.heap.push { cls:=.type "dict",data:=.dict #[] } }:Shared).heap=s.heap.push { cls:=.type "dict",data:=.dict #[] } from rfl,o.1,o.2]
 rw[zcw8]
 refine wpAny_bind ?_
 rw[List.forIn_nil]
 exact wpAny_pure (wpAny_pure (hQ _ rfl))
def blk1 (x0:Str) (X:Cx) (N:List Str) (scope:Scope) (cl:List (Str×Addr)) (C:Addr) (s3:Shared) (H3:Hp) (fp:List Addr):Cx:=
 { X with N:=N,s₀:=s3,H₀:=H3,env:=compEnvC scope ((x0,C+1) :: cl) C X.env,outer:=X.stack,ex:=fp,fn:=fun x=>x==x0,pn:=[],xe:=fun _ _=>False }
theorem zab2 {x0 x:Str}{n c:Addr}{cl:List (Str×Addr)}(h:List.lookup x ((x0,n) :: cl)=some c):(x=x0/\c=n)∨cl.lookup x=some c:=by
 rw[zct7] at h
 cases hx:x==x0 with
 | true=>rw[hx] at h;cases h;exact .inl ⟨by simpa using hx,rfl⟩
 | false=>rw[hx] at h;exact .inr h
theorem zt7 {env:Env}{x0:Str}:∀ {names:List (Str×NameKind)}{x:Str}{k':NameKind},(∀ y∈names,y.2=.cell->y.1=x0)->(k'=.cell∨k'=.free) ->
  (names.map fun (n,k)=>if (k==NameKind.free&&env.scope.kind==.function&&env.kindOf n==some .cell) then (n,NameKind.cell) else (n,k)).lookup x=some k'->x=x0∨∃ y∈names,y.1=x/\y.2=.free
 | [],_,_,_,_,h=>by simp at h
 | (n,k) :: r,x,k',hn,hk,h=>by
  have ih:=@zt7 env x0 r x k' (fun y hy=>hn y (zcu7 _ hy)) hk
  replace h:List.lookup x ((if (k==NameKind.free&&env.scope.kind==.function&&env.kindOf n==some .cell)=true then (n,NameKind.cell) else (n,k)) :: List.map (fun (n,k)=>if (k==NameKind.free&&env.scope.kind==.function&&env.kindOf n==some .cell) then (n,NameKind.cell) else (n,k)) r)=some k':=h
  cases hx:x==n with
  | true=>
   have hx':x=n:=by simpa using hx
   by_cases hf:k=.free
   ·exact .inr ⟨(n,k),zcv7,hx'.symm,hf⟩
   ·have hc:¬ (k==NameKind.free&&env.scope.kind==.function&&env.kindOf n==some .cell)=true:=by
     have:(k==NameKind.free)=false:=by simpa using hf
     rw[this];simp
    rw[if_neg hc] at h
    simp only[zct7,hx] at h
    have:k=k':=Option.some.inj h
    subst this
    rcases hk with hk|hk
    ·exact .inl (hx'.trans (hn (n,k) zcv7 hk))
    ·exact absurd hk hf
  | false=>
   have h':List.lookup x (List.map (fun (n,k)=>if (k==NameKind.free&&env.scope.kind==.function&&env.kindOf n==some .cell) then (n,NameKind.cell) else (n,k)) r)=some k':=by
    by_cases hc:(k==NameKind.free&&env.scope.kind==.function&&env.kindOf n==some .cell)=true
    ·rw[if_pos hc] at h;simp only[zct7,hx] at h;exact h
    ·rw[if_neg hc] at h;simp only[zct7,hx] at h;exact h
   rcases ih h' with q|⟨y,hy,h1,h2⟩
   ·exact .inl q
   ·exact .inr ⟨y,zcu7 _ hy,h1,h2⟩
section
variable {X:Cx}{pins:List (Addr×Obj)}{σ:St}{H:Hp}{s2:Shared}
theorem zby4 {x0:Str}{N:List Str}{scope:Scope}{cl:List (Str×Addr)}{C:Addr}{s3 s4:Shared}{H3:Hp}{fp:List Addr}{σc:St}(I:Inv X pins σ H3 s3)
  (hcl1:∀ x c,cl.lookup x=some c->X.env.cells.lookup x=some c) (hcl2:∀ x∈scope.names,x.2=.free->∃ c,cl.lookup x.1=some c) (hkind:scope.kind=.function) (hone:zaa4 x0 scope.names)
  (hcap:∀ (i:Nat) (x:Str) (v:V),N[i]?=some x->σc[i]?=some (some v)->∃ j:Nat,X.N[j]?=some x/\σ[j]?=some (some v)/\scope.names.lookup x=some .free/\(X.env.kindOf x=some .cell∨X.env.kindOf x=some .free))
  (hlen:σc.length=N.length) (hC:s3.heap.objs.size=C) (hfp:∀ b∈fp,FpOk X pins H3 b) (hfpl:∀ b∈fp,b<C) (hex:∀ b o,X.base.get? b=some o->b ∉ fp) (hns:∃ m,s4.heap.Ns C m) (hce:s4.heap.IsCell (C+1) none) (hk:∀ b o,s3.heap.get? b=some o->s4.heap.get? b=some o) (h4:s4.os=s3.os) (h5:s4.gens=s3.gens) :
  Inv (blk1 x0 X N scope cl C s3 H3 fp) [] σc H3 s4:=by
 subst hC
 have cne:∀ x c,cl.lookup x=some c->c<s3.heap.objs.size:=fun x c h=>by
  obtain⟨v,o,ho,_⟩:=I.cell x c (hcl1 x c h)
  exact zcs0 ho
 refine⟨⟨I.ok.mod,?_,I.ok.glob,I.ok.blt,zcr9 _,fun x y c h1 h2=>?_,fun x hx=>?_,fun x c hf h=>?_,I.ok.hd,I.ok.frames,.inl rfl,fun b hb=>⟨zct6 (hfpl b hb),fun x c h=>?_⟩,fun b o e=>I.bs b o e,zcv1 I.ok.bsz I.sz,fun b o e=>hex b o e,fun b hb=>?_,I.stack,I.stkFree⟩,
  h4,by rw[h5];exact I.bare,Un.kept hk,?_,fun x c h=>?_,I.hok.fresh (zcr9 _),fun x c h=>?_,fun p hp=>(by cases hp),I.hok.kept hk,hlen⟩
 ·exact hkind
 ·rcases zab2 h1 with ⟨e1,e2⟩|h1'
  ·rcases zab2 h2 with ⟨e3,_⟩|h2'
   ·rw[e1,e3]
   ·exact absurd (Nat.lt_trans (Nat.lt_succ_self _) (e2▸cne _ _ h2')) (zcx2 _)
  ·rcases zab2 h2 with ⟨e3,e4⟩|h2'
   ·exact absurd (Nat.lt_trans (Nat.lt_succ_self _) (e4▸cne _ _ h1')) (zcx2 _)
   ·exact I.ok.inj x y c (hcl1 _ _ h1') (hcl1 _ _ h2')
 ·have hx':(relabel scope X.env).names.lookup x=some .cell∨(relabel scope X.env).names.lookup x=some .free:=hx
  show ∃ c,List.lookup x ((x0,s3.heap.objs.size+1) :: cl)=some c
  by_cases e0:x=x0
  ·subst e0;exact⟨_,List.lookup_cons_self⟩
  ·have hz:x=x0∨∃ y∈scope.names,y.1=x/\y.2=.free:=by
    rcases hx' with q|q
    ·exact zt7 hone.only (.inl rfl) q
    ·exact zt7 hone.only (.inr rfl) q
   rcases hz with hz|⟨y,hy,rfl,hf⟩
   ·exact absurd hz e0
   ·obtain⟨c,hc⟩:=hcl2 y hy hf
    exact⟨c,by rw[zct7,beq_eq_false_iff_ne.mpr e0];exact hc⟩
 ·have hf:(x==x0)=true:=hf
  have e0:x=x0:=by simpa using hf
  subst e0
  rcases zab2 h with ⟨_,rfl⟩|h'
  ·exact zcx0 _
  ·have h:List.lookup x ((x,s3.heap.objs.size+1) :: cl)=some c:=h
   rw[zct7,hf] at h
   cases h
   exact zcx0 _
 ·rcases zab2 h with ⟨_,rfl⟩|h
  ·exact zcw6 (Nat.lt_succ_of_lt (hfpl b hb))
  ·exact (hfp b hb).2.2.2.2.1 x c (hcl1 x c h)
 ·intro hz
  obtain⟨f0,f1,f2,_⟩:=hfp b hb
  have hz:b∈frs X.stack:=hz
  rcases zcs2.mp (I.stkSub b hz) with q|q
  ·exact f1 q
  ·exact f2 q
 ·obtain⟨m,hm⟩:=hns
  refine⟨m,hm,fun i x v h1 h2 h3=>?_⟩
  obtain⟨j,e1,e2,e3,e4⟩:=hcap i x v h1 h2
  obtain⟨mX,_,hl⟩:=I.loc
  obtain⟨u,r,q⟩:=hl j x v e1 e2 (by rcases e4 with e4|e4;exact .inr (.inl e4);exact .inr (.inr e4))
  have n0:x≠x0:=fun z=>by rw[z,hone.2] at e3;cases e3
  refine⟨u,r,.inr ⟨zv0 e3,?_⟩⟩
  obtain⟨c,hc⟩:=hcl2 (x,.free) (PySem.mem_of_lookup e3) rfl
  refine⟨c,by show List.lookup x ((x0,s3.heap.objs.size+1) :: cl)=some c;rw[zct7,beq_eq_false_iff_ne.mpr n0];exact hc,?_⟩
  have hc':=hcl1 x c hc
  rcases q with ⟨k,_⟩|⟨_,c2,e5,o,ho,hd⟩
  ·rcases e4 with e4|e4<;>rw[e4] at k<;>cases k
  ·rw[hc'] at e5
   cases e5
   exact⟨o,hk _ _ ho,hd⟩
 ·rcases zab2 h with ⟨_,rfl⟩|h
  ·exact⟨none,hce⟩
  ·obtain⟨v,o,ho,hd⟩:=I.cell x c (hcl1 x c h)
   exact⟨v,o,hk _ _ ho,hd⟩
 ·rcases zab2 h with ⟨_,rfl⟩|h
  ·exact I.hok.fresh (zcx0 _)
  ·exact I.freeC x c (hcl1 _ _ h)
theorem zbi1 {x0:Str}{E:Value->Shared->Prop}{elt tg iter:Expr}{ifs:List Expr}{scope:Scope}{pos:Pos}{cl:List (Str×Addr)}{N:List Str}{σc:St}{J:It}{fp:List Addr}{it:Addr}{tn:Nat->Heap->Prop}{g:TG}{tt:TT}{te:TE}{Q:VK}
  {RR:Value->Addr->Result->Shared->Prop}
  (hcl1:∀ x c,cl.lookup x=some c->X.env.cells.lookup x=some c) (hcl2:∀ x∈scope.names,x.2=.free->∃ c,cl.lookup x.1=some c) (hkind:scope.kind=.function) (hone:zaa4 x0 scope.names)
  (hcap:∀ (i:Nat) (x:Str) (v:V),N[i]?=some x->σc[i]?=some (some v)->∃ j:Nat,X.N[j]?=some x/\σ[j]?=some (some v)/\scope.names.lookup x=some .free/\(X.env.kindOf x=some .cell∨X.env.kindOf x=some .free))
  (hlen:σc.length=N.length) (hc:X.calm=true) (I:Inv X pins σ H s2) (T:Turn X.prog X.w X.K tg J fp it tn) (st:tn 0 s2.heap) (fpok:∀ b∈fp,FpOk X pins H b)
  (hg:∀ C s3 H3 fp,PG (blk1 x0 X N scope cl C s3 H3 fp) tg g) (ht:∀ C s3 H3 fp,PTs (blk1 x0 X N scope cl C s3 H3 fp) ifs tt) (he:∀ C s3 H3 fp,PE (blk1 x0 X N scope cl C s3 H3 fp) elt te)
  (h:zx5 J g tt te σc H Q)
  (hRR:∀ (acc C:Addr) (H':Hp) (s':Shared),Inv X pins σ H' s'->FpOk X pins H' C->(∃ m,s'.heap.Ns C m)->Q (.ref acc) H'->RR (.ref acc) C (.ok .next) s') :
  wpAny (model X.prog X.w) X.A (newList []) (fun acc s₃=>wpAny (model X.prog X.w) X.A (newFunctionEnv scope X.env.globals cl [] X.env.qual none .none (some X.env)) (fun cenv s₄=>
   codeAny (model X.prog X.w) X.A (.compStart (.ListComp elt [⟨tg,iter,ifs,0⟩] scope pos) 0 (.ref it) acc { cenv with scope:=relabel scope X.env }) (RR acc cenv.locals) s₄) E s₃) E s2:=by
 refine wpAny_newObj_type (zci7 hone fun h₁ hh₁=>?_)
 dsimp only at hh₁ ⊢
 have hf:H s2.heap.objs.size=none:=I.fresh
 have I3:Inv X pins σ (upd H s2.heap.objs.size (.lst [])) { s2 with heap:=s2.heap.push { cls:=.type "list",data:=.seq ([]:List Value).toArray } }:=I.lnew (t':=s2.toks) (its:=[]) .nil (zcu4 _)
 generalize hs3:({ s2 with heap:=s2.heap.push { cls:=.type "list",data:=.seq ([]:List Value).toArray } }:Shared)=s3 at I3
 have hH:s2.heap.push { cls:=.type "list",dict:=none,data:=.seq ([]:List Value).toArray }=s3.heap:=by rw[← hs3]
 rw[hH] at hh₁ ⊢
 have hsz:s3.heap.objs.size=s2.heap.objs.size+1:=by rw[← hH,zcw8]
 have old23:∀ b o,s2.heap.get? b=some o->s3.heap.get? b=some o:=fun b o e=>by rw[← hH];exact zcq9 _ e
 have fplt:∀ b∈fp,b<s2.heap.objs.size:=fun b hb=>by
  obtain⟨o,e,_⟩:=T.obj 0 _ st b hb
  exact zcs0 e
 have fp3:∀ b∈fp,FpOk X pins (upd H s2.heap.objs.size (.lst [])) b:=fun b hb=>by
  obtain⟨f0,f1⟩:=fpok b hb
  refine⟨?_,f1⟩
  rw[zc3 (zct6 (fplt b hb))]
  exact f0
 have old34:∀ b o,s3.heap.get? b=some o->h₁.get? b=some o:=fun b o e=>by rw[hh₁];exact zcq9 _ (zcq9 _ e)
 have hns₁:h₁.Ns s3.heap.objs.size (fun _=>none):=by rw[hh₁];exact (Heap.Ns.new s3.heap (.type "dict")).keeps fun b o e=>zcq9 _ e
 have hce:h₁.IsCell (s3.heap.objs.size+1) none:=⟨{ cls:=.type "cell",data:=.cell none },by rw[hh₁];exact Heap.get?_push_at (by rw[zcw8]) rfl,rfl⟩
 have nob:∀ b o,X.base.get? b=some o->b ∉ fp:=fun b o e hb=>by
  obtain⟨_,_,_,f3,_,_⟩:=fpok b hb
  rcases f3 with f3|f3
  ·exact I.ok.noex b o e f3
  ·exact absurd (zcs7 (zcs0 e) I.ok.bsz) (Nat.not_lt.mpr f3)
 have hs4e:({ s2 with heap:=h₁,toks:=s2.toks }:Shared).os=s3.os:=by rw[← hs3]
 have hs4g:({ s2 with heap:=h₁,toks:=s2.toks }:Shared).gens=s3.gens:=by rw[← hs3]
 have I4:Inv (blk1 x0 X N scope cl s3.heap.objs.size s3 (upd H s2.heap.objs.size (.lst [])) fp) [] σc (upd H s2.heap.objs.size (.lst [])) { s2 with heap:=h₁,toks:=s2.toks }:=
  zby4 (s4:={ s2 with heap:=h₁,toks:=s2.toks }) I3 hcl1 hcl2 hkind hone hcap hlen rfl fp3 (fun b hb=>zcs7 (fplt b hb) (by rw[hsz];exact zcx0 _)) nob ⟨_,hns₁⟩ hce old34 hs4e hs4g
 have st4:tn 0 h₁:=T.keep _ _ _ st fun b hb o e=>old34 b o (old23 b o e)
 unfold zx5 at h
 obtain⟨W,⟨m0,w0⟩,turn⟩:=h s2.heap.objs.size _ hf (Same.upd hf) zc2
 have loop:codeAny (model X.prog X.w) X.A (.compLoop (.ListComp elt [⟨tg,iter,ifs,0⟩] scope pos) 0 (.ref it) (.ref s2.heap.objs.size) (blk1 x0 X N scope cl s3.heap.objs.size s3 (upd H s2.heap.objs.size (.lst [])) fp).env)
   (RR (.ref s2.heap.objs.size) s3.heap.objs.size) { s2 with heap:=h₁,toks:=s2.toks }:=by
  refine zat4 (fun n s'=>∃ i ys σ' H',Inv (blk1 x0 X N scope cl s3.heap.objs.size s3 (upd H s2.heap.objs.size (.lst [])) fp) [] σ' H' s'/\tn i s'.heap/\(∀ b∈fp,H' b=none)/\W i n ys σ' H') ?_ m0 ⟨0,[],σc,_,I4,st4,fun b hb=>(fp3 b hb).1,w0⟩
  rintro n s5 ⟨i,ys,σ5,H5,I5,st5,fr5,w5⟩
  obtain⟨hacc,hl5,hcase⟩:=turn i n ys σ5 H5 w5
  have stat:∀ {H':Hp},(∀ b∈fp,H' b=none)->∀ b∈fp,FpOk (blk1 x0 X N scope cl s3.heap.objs.size s3 (upd H s2.heap.objs.size (.lst [])) fp) [] H' b:=fun hn b hb=>by
   obtain⟨_,f1,f2,f3,f4,_⟩:=fpok b hb
   refine⟨hn b hb,zct6 (zcs7 (fplt b hb) (by rw[hsz];exact zcx0 _)),fun hz=>?_,.inl hb,fun x c hx=>?_,fun p hp=>by cases hp⟩
   rotate_left
   ·rcases zab2 hx with ⟨_,rfl⟩|hx
    ·exact zcw6 (Nat.lt_succ_of_lt (zcs7 (fplt b hb) (by rw[hsz];exact zcx0 _)))
    ·exact f4 x c (hcl1 x c hx)
   rcases zcs2.mp (I.stkSub b hz) with q|q
   ·exact f1 q
   ·exact f2 q
  rcases hcase with ⟨stop,hq⟩|⟨go,step⟩
  ·refine thn (T.done (blk1 x0 X N scope cl s3.heap.objs.size s3 (upd H s2.heap.objs.size (.lst [])) fp) rfl rfl rfl hc i [] s5 σ5 H5 (fun _ _=>False) I5 (stat fr5) st5 stop) fun r s6 ⟨hr,I6⟩=>?_
   subst hr
   have u1:Un (frs X.stack) fp H (upd H s2.heap.objs.size (.lst [])) s2.heap s3.heap:=Un.laid old23 (zcr9 _) hf
   have u2:Un (frs X.stack) fp (upd H s2.heap.objs.size (.lst [])) H5 s3.heap s6.heap:=I6.base
   have hC:H5 s3.heap.objs.size=none:=I6.free
   obtain⟨m6,hm6,_⟩:=I6.loc
   have hos:s6.os=s2.os:=by rw[I6.os];show s3.os=s2.os;rw[← hs3]
   have hok6:=I6.hok
   have bare6:=I6.bare
   obtain⟨hh,gg,dd,tt',os'⟩:=s6
   obtain rfl:os'=s2.os:=hos
   exact hRR _ _ H5 _ (I.call (h':=hh) (g':=gg) (d':=dd) (t':=tt') (ch:=fp) (u1.trans u2) hok6 bare6 fun b hb=>⟨(fpok b hb).2.2.2.1,(fpok b hb).2.1,(fpok b hb).2.2.2.2.1,(fpok b hb).2.2.2.2.2⟩)
    (I.fpOk (by rw[hsz];exact zcx0 _) hC) ⟨m6,hm6⟩ hq
  ·refine thn (T.item (blk1 x0 X N scope cl s3.heap.objs.size s3 (upd H s2.heap.objs.size (.lst [])) fp) rfl rfl rfl hc i [] s5 σ5 H5 (fun _ _=>False) I5 (stat fr5) st5 go) fun r s6 ⟨u,hr,h6⟩=>?_
   subst hr
   refine thn h6 fun _ s7 ⟨x,H7,I7,r7,y7,st7,fr7⟩=>?_
   have I7':=I7.pinned (stat fr7) (T.obj _ _ st7)
   refine thn (hg _ _ _ _ _ s7 σ5 H7 x u _ I7' r7 (step x H7 y7)) fun _ s8 ⟨σ8,H8,I8,q8⟩=>?_
   refine thn (ht _ _ _ _ _ s8 σ8 H8 _ I8 q8) fun ok s9 ⟨H9,I9,q9⟩=>?_
   have again:∀ {s10:Shared}{σ10:St}{H10:Hp}{zs:List V},Inv (blk1 x0 X N scope cl s3.heap.objs.size s3 (upd H s2.heap.objs.size (.lst [])) fp) ([]++zal6 fp s7.heap) σ10 H10 s10->(∃ m',m'<n/\W (i+1) m' zs σ10 H10) ->
     ∃ m,m<n/\∃ i ys σ' H',Inv (blk1 x0 X N scope cl s3.heap.objs.size s3 (upd H s2.heap.objs.size (.lst [])) fp) [] σ' H' s10/\tn i s10.heap/\(∀ b∈fp,H' b=none)/\W i m ys σ' H':=fun {s10 σ10 H10 zs} I10 ⟨m',hm,w10⟩=>by
    refine⟨m',hm,i+1,zs,σ10,H10,I10.unpinned,T.keep _ _ _ st7 fun b hb o e=>(I10.pin (b,o) (zct8 _ (zct8 _ (zq2 hb e)))).1,fun b hb=>?_,w10⟩
    obtain⟨o,e,d⟩:=T.obj _ _ st7 b hb
    exact (I10.pin (b,o) (zct8 _ (zct8 _ (zq2 hb e)))).2.1
   dsimp only at q9
   rw[zab6] at q9
   cases ok with
   | false=>
    have q9:∃ m',m'<n/\W (i+1) m' ys σ8 H9:=by rw[if_neg zcr2] at q9;unfold zah9 at q9;exact q9
    exact again I9 q9
   | true=>
    have q9:=(if_pos rfl▸q9:te σ8 H9 _)
    refine thn (he _ _ _ _ _ s9 σ8 H9 _ I9 q9) fun v s10 ⟨y,H10,I10,r10,q10⟩=>?_
    unfold cPut at q10
    obtain⟨e10,q10⟩:=q10
    refine thn (zag0 _ s10 σ8 H10 (.ref s2.heap.objs.size) [y] (.ref s2.heap.objs.size) [v] (fun _ H11=>∃ m',m'<n/\W (i+1) m' (ys++[y]) σ8 H11) I10 rfl (.cons r10 .nil) ⟨_,ys,y,rfl,rfl,e10,hl5,q10 _ Chg.upd zc2⟩) fun _ s11 ⟨z,H11,I11,_,q11⟩=>?_
    exact again I11 q11
 exact codeAny_compStart_list loop (T.self _ 0 _ _ _ st4 loop)
def zay0 (x0:Str) (scope:Scope):Bool:=scope.names.filter (fun y=>y.2==.cell)==[(x0,.cell)]&&scope.names.lookup x0==some .cell&&scope.names.all fun x=>x.2 != .local || scope.names.lookup x.1==some .local
theorem zbf7 {x0:Str}{scope:Scope}(h:zay0 x0 scope=true):zaa4 x0 scope.names/\∀ x∈scope.names,x.2=.local->scope.names.lookup x.1=some .local:=by
 unfold zay0 at h
 rw[zcs9,zcs9] at h
 refine⟨⟨by simpa using h.1.1,by simpa using h.1.2⟩,fun x hx hl=>?_⟩
 have:=zct4.mp h.2 x hx
 simpa [hl] using this
theorem zci8 {x0:Str}{elt tg iter:Expr}{ifs:List Expr}{scope:Scope}{pos:Pos}{N:List Str}{ks:List (Option Nat)}{wi:TI}{g:TG}{tt:TT}{te:TE}(hi:PI X tg iter wi)
  (hg:∀ cl C s3 H3 fp,PG (blk1 x0 X N scope cl C s3 H3 fp) tg g) (ht:∀ cl C s3 H3 fp,PTs (blk1 x0 X N scope cl C s3 H3 fp) ifs tt) (he:∀ cl C s3 H3 fp,PE (blk1 x0 X N scope cl C s3 H3 fp) elt te) (hcap:zac4 X scope N ks)
  (hc:X.calm=true:=by rfl) (hkind:scope.kind=.function:=by rfl) (hb:freeB scope X.env.kindOf=true:=by rfl) (hn:zay0 x0 scope=true:=by rfl) (hs:∀ x,foldedSetIterable iter X.env x=pure x:=by intro _;rfl) :
  PE X (.ListComp elt [⟨tg,iter,ifs,0⟩] scope pos) (qComp ks wi g tt te):=by
 intro pins s σ H Q I h
 obtain⟨hone,hnames⟩:=zbf7 hn
 obtain⟨cl,hcl,hcl1,hcl2⟩:=zz8 (scope:=scope) (env:=X.env) fun x hx hf=>I.ok.has x.1 (zam9 hb x hx hf)
 rw[eval_ListComp]
 refine wpAny_comprehension_free (use:=none) rfl hs hcl hkind hnames ?_
 show wpAny _ _ (eval iter X.env) _ _ s
 refine thn (hi pins s σ H _ I h) fun v s1 h1=>thn h1 fun itv s2 h2=>?_
 obtain⟨it,fp,tn,J,H2,e,I2,T,st2,f2,q2⟩:=h2
 subst e
 refine zbi1 (RR:=fun acc C=>compPost (model X.prog X.w) X.A X.xe none (EP X pins σ Q) acc C) hcl1 hcl2 hkind hone (hcap.cap σ) (hcap.len σ) hc I2 T st2 f2 (hg cl) (ht cl) (he cl) q2 ?_
 rintro acc C H' s' I' hC ⟨m,hm⟩ hq
 refine⟨m,hm,fun h' hsb=>⟨.ref acc,H',?_,rfl,hq⟩⟩
 exact I'.turned (t':=s'.toks) (fun b o hb e=>hsb.extBut b o hb e) hC.1 hC.2.1 hC.2.2.2.1 hC.2.2.2.2.1 hC.2.2.2.2.2
end
end L2
set_option maxHeartbeats 1000000
namespace L2
open PySem PySem.Spec PyProof.Rows
section
variable {κ:Type}[DecidableEq κ]
def valV (kvs:List (κ×V)) (k:κ):Option V:=(kvs.find? fun kv=>decide (kv.1=k)).map (·.2)
def putK (kvs:List (κ×V)) (k:κ) (v:V):List (κ×V):=
 if (kvs.any fun kv=>decide (kv.1=k))=true then kvs.map (fun kv=>if kv.1=k then (kv.1,v) else kv) else kvs++[(k,v)]
def dropK (kvs:List (κ×V)) (k:κ):List (κ×V):=kvs.filter fun kv=>decide (kv.1≠k)
theorem zx9 {p:κ×V}{r:List (κ×V)}{k:κ}(e:p.1=k):valV (p :: r) k=some p.2:=by simp[valV,zcw4,e]
theorem zz4 {p:κ×V}{r:List (κ×V)}{k:κ}(e:¬ p.1=k):valV (p :: r) k=valV r k:=by simp[valV,zcw4,e]
theorem zbe3 (k:κ):∀ kvs:List (κ×V),(kvs.any fun kv=>decide (kv.1=k))=(valV kvs k).isSome
 | []=>rfl
 | p :: r=>by
  rw[List.any_cons]
  by_cases e:p.1=k
  ·simp only[zx9 e,decide_eq_true e,Bool.true_or,Option.isSome_some]
  ·rw[zz4 e,decide_eq_false e,Bool.false_or];exact zbe3 k r
theorem zaf2 (kvs:List (κ×V)) (k:κ) (v:V):(putK kvs k v).length<=kvs.length+1:=by
 unfold putK
 split
 ·rw[zcq3];omega
 ·rw[zcr6,zct0,zcw3];omega
theorem RelO.isSome_eq {o:Option V}{u:Option Value}(r:RelO o u):o.isSome=u.isSome:=by
 cases o with
 | none=>cases u with
  | none=>rfl
  | some _=>exact (show False from r).elim
 | some _=>cases u with
  | none=>exact (show False from r).elim
  | some _=>rfl
theorem RelO.getD {o:Option V}{u:Option Value}{d:V}{d':Value}(r:RelO o u) (rd:RelV d d'):RelV (o.getD d) (u.getD d'):=by
 cases o with
 | none=>cases u with
  | none=>exact rd
  | some _=>exact (show False from r).elim
 | some _=>cases u with
  | none=>exact (show False from r).elim
  | some _=>exact r
theorem KV.val {kvs:List (κ×V)}{vs:List (κ×Value)}(r:KV kvs vs) (k:κ):RelO (valV kvs k) (valueAt vs k):=by
 unfold KV at r
 induction r with
 | nil=>exact True.intro
 | @cons p q ps qs h t ih=>
  obtain⟨h1,h2⟩:=h
  by_cases e:p.1=k
  ·have e':q.1=k:=h1.symm.trans e
   have b:valueAt (q :: qs) k=some q.2:=by simp[valueAt,zcw4,e']
   rw[zx9 e,b];exact h2
  ·have e':¬ q.1=k:=fun z=>e (h1.trans z)
   have b:valueAt (q :: qs) k=valueAt qs k:=by simp[valueAt,zcw4,e']
   rw[zz4 e,b];exact ih
theorem KV.any {kvs:List (κ×V)}{vs:List (κ×Value)}(r:KV kvs vs) (k:κ):(kvs.any fun kv=>decide (kv.1=k))=vs.any fun kv=>decide (kv.1=k):=by
 unfold KV at r
 induction r with
 | nil=>rfl
 | cons h t ih=>rw[List.any_cons,List.any_cons,ih,h.1]
theorem KV.repl {kvs:List (κ×V)}{vs:List (κ×Value)}(r:KV kvs vs) (k:κ) {y:V}{u:Value}(ry:RelV y u) :
  KV (kvs.map fun kv=>if kv.1=k then (kv.1,y) else kv) (vs.map fun kv=>if kv.1=k then (kv.1,u) else kv):=by
 unfold KV at r ⊢
 induction r with
 | nil=>exact .nil
 | @cons p q ps qs h t ih=>
  rw[zcs8,zcs8]
  refine .cons ?_ ih
  obtain⟨h1,h2⟩:=h
  by_cases e:p.1=k
  ·rw[if_pos e,if_pos (h1.symm.trans e)];exact⟨h1,ry⟩
  ·rw[if_neg e,if_neg (fun z=>e (h1.trans z))];exact⟨h1,h2⟩
theorem KV.put {kvs:List (κ×V)}{vs:List (κ×Value)}(r:KV kvs vs) (k:κ) {y:V}{u:Value}(ry:RelV y u):KV (putK kvs k y) (stored vs k u):=by
 unfold putK stored
 rw[r.any k]
 by_cases e:(vs.any fun kv=>decide (kv.1=k))=true
 ·rw[if_pos e,if_pos e];exact r.repl k ry
 ·rw[if_neg e,if_neg e];exact Paired.snoc r ⟨rfl,ry⟩
theorem KV.drop {kvs:List (κ×V)}{vs:List (κ×Value)}(r:KV kvs vs) (k:κ):KV (dropK kvs k) (without vs k):=by
 unfold KV at r ⊢
 unfold dropK without
 induction r with
 | nil=>exact .nil
 | @cons p q ps qs h t ih=>
  obtain⟨h1,h2⟩:=h
  rw[zcw9,zcw9]
  by_cases e:p.1=k
  ·have a:¬ decide (p.1≠k)=true:=by simp[e]
   have b:¬ decide (q.1≠k)=true:=by simp[h1.symm.trans e]
   rw[if_neg a,if_neg b];exact ih
  ·have e':¬ q.1=k:=fun z=>e (h1.trans z)
   have a:decide (p.1≠k)=true:=by simp[e]
   have b:decide (q.1≠k)=true:=by simp[e']
   rw[if_pos a,if_pos b];exact .cons ⟨h1,h2⟩ ih
theorem KV.length {kvs:List (κ×V)}{vs:List (κ×Value)}(r:KV kvs vs):kvs.length=vs.length:=Paired.length r
end
theorem kV_is {P:Program}{w:World}{k:Key}{u:Value}(r:RelV (kV k) u):(zk7 P w).is k u=true:=by
 cases k with
 | inl i=>obtain⟨t,e⟩:=(show ∃ t,u=Value.int i t from r);subst e;exact zax6 P w i t
 | inr x=>obtain⟨t,e⟩:=(show ∃ t,u=Value.str x t from r);subst e;exact zax8 P w x t
theorem zas1 {P:Program}{w:World}:∀ {ks:List Key}{us:List Value},Vals (ks.map kV) us->ItemsAre (zk7 P w) ks us
 | [],_,r=>by rw[List.map_nil] at r;cases r;exact .nil
 | k :: ks,_,r=>by
  rw[zcs8] at r
  cases r with
  | cons h t=>exact .cons (kV_is h) (zas1 t)
abbrev KT (H:Hp):List (List Key×V)->List (List Key×Addr×Value)->Prop:=Paired fun p q=>p.1=q.1/\H q.2.1=some (.tup (p.1.map kV))/\RelV p.2 q.2.2
theorem KT.val {H:Hp}{kvs:List (List Key×V)}{xs:List (List Key×Addr×Value)}(r:KT H kvs xs) (k:List Key):RelO (valV kvs k) ((atKey xs k).map (·.2)):=by
 induction r with
 | nil=>exact True.intro
 | @cons p q ps qs h t ih=>
  obtain⟨h1,_,h2⟩:=h
  by_cases e:p.1=k
  ·have e':q.1=k:=h1.symm.trans e
   have b:atKey (q :: qs) k=some q.2:=by simp[atKey,zcw4,e']
   rw[zx9 e,b];exact h2
  ·have e':¬ q.1=k:=fun z=>e (h1.trans z)
   have b:atKey (q :: qs) k=atKey qs k:=by simp[atKey,zcw4,e']
   rw[zz4 e,b];exact ih
theorem KT.repl {H:Hp}{kvs:List (List Key×V)}{xs:List (List Key×Addr×Value)}(r:KT H kvs xs) (k:List Key) {y:V}{u:Value}(ry:RelV y u) :
  KT H (kvs.map fun kv=>if kv.1=k then (kv.1,y) else kv) (xs.map (putAt k u)):=by
 induction r with
 | nil=>exact .nil
 | @cons p q ps qs h t ih=>
  rw[zcs8,zcs8]
  refine .cons ?_ ih
  obtain⟨h1,h2,h3⟩:=h
  unfold putAt
  by_cases e:p.1=k
  ·rw[if_pos e,if_pos (h1.symm.trans e)];exact⟨h1,h2,ry⟩
  ·rw[if_neg e,if_neg (fun z=>e (h1.trans z))];exact⟨h1,h2,h3⟩
theorem KT.put {H:Hp}{kvs:List (List Key×V)}{xs:List (List Key×Addr×Value)}(r:KT H kvs xs) (k:List Key) {b:Addr}{y:V}{u:Value}(hb:H b=some (.tup (k.map kV))) (ry:RelV y u) :
  KT H (putK kvs k y) (storedH xs k b u):=by
 have e:(kvs.any fun kv=>decide (kv.1=k))=(atKey xs k).isSome:=by
  rw[zbe3,(r.val k).isSome_eq,Option.isSome_map]
 unfold putK storedH
 rw[e]
 by_cases q:(atKey xs k).isSome=true
 ·rw[if_pos q,if_pos q];exact r.repl k ry
 ·rw[if_neg q,if_neg q];exact Paired.snoc r ⟨rfl,hb,ry⟩
theorem KT.keeps {H H':Hp}{kvs:List (List Key×V)}{xs:List (List Key×Addr×Value)}(r:KT H kvs xs) (ht:∀ b ys,H b=some (.tup ys)->H' b=some (.tup ys)):KT H' kvs xs:=
 Paired.mapP r fun _ _ z=>⟨z.1,ht _ _ z.2.1,z.2.2⟩
section
variable {P:Program}{w:World}{H:Hp}{h:Heap}{a:Addr}
theorem rd_of {u:HO}(ok:HOk P w H h) (e:Rd H a u):zi2 P w H h a u:=e.ok ok
theorem zbn1 {kvs:List (Key×V)}(ok:HOk P w H h) (e:Rd H a (.dK kvs)):kvs.length<=sizeLine/\(a==sysModules)=false/\∃ vs,KV kvs vs/\h.DictOf (zk7 P w) a vs:=
 show zi2 P w H h a (.dK kvs) from rd_of ok e
theorem zbl7 {kvs:List (Key×V)}(ok:HOk P w H h) (e:H a=some (.dK kvs)):kvs.length<=sizeLine/\(a==sysModules)=false/\∃ vs,KV kvs vs/\h.DictOf (zk7 P w) a vs:=zbn1 ok (.inl e)
theorem zbd9 {ks:List Key}(ok:HOk P w H h) (e:H a=some (.tup (ks.map kV))):(tupleKind (zk7 P w)).is h ks a:=by
 obtain⟨_,its,r,o,h1,h2,n,h3⟩:=(show zi2 P w H h a (.tup (ks.map kV)) from ok a _ e)
 exact⟨o,its.toArray,n,h1,h2,h3,by simpa using zas1 r⟩
theorem zbo3 {kvs:List (List Key×V)}(ok:HOk P w H h) (e:Rd H a (.dT kvs)):kvs.length<=sizeLine/\(a==sysModules)=false /\
  ∃ xs,KT H kvs xs/\h.DictOfH (tupleKind (zk7 P w)) a xs:=by
 obtain⟨z,y,xs,r,o,es,ep,h1,h2,h3,h4,h5⟩:=(show zi2 P w H h a (.dT kvs) from rd_of ok e)
 refine⟨z,y,xs,r,o,es,ep,h1,h2,h3,h4,fun x hx=>?_,h5⟩
 have all:∀ {l:List (List Key×V)}{m:List (List Key×Addr×Value)},KT H l m->∀ x∈m,(tupleKind (zk7 P w)).is h x.1 x.2.1:=by
  intro l m q
  induction q with
  | nil=>intro x hx;exact nomatch hx
  | @cons p q ps qs hq t ih=>
   intro x hx
   rcases zcs2.mp hx with e|hx
   ·subst e
    exact zbd9 ok (by rw[← hq.1];exact hq.2.1)
   ·exact ih x hx
 exact all r x hx
theorem dt_of {kvs:List (List Key×V)}(ok:HOk P w H h) (e:H a=some (.dT kvs)):kvs.length<=sizeLine/\(a==sysModules)=false /\
  ∃ xs,KT H kvs xs/\h.DictOfH (tupleKind (zk7 P w)) a xs:=zbo3 ok (.inl e)
end
def DGet (H:Hp) (a:Addr) (y:V) (r:Option V):Prop:=
 (∃ kvs k,Rd H a (.dK kvs)/\y=kV k/\r=valV kvs k)∨∃ kvs k b,Rd H a (.dT kvs)/\y=.ref b/\H b=some (.tup (k.map kV))/\r=valV kvs k
def DPut (H:Hp) (a:Addr) (y v:V) (H':Hp):Prop:=
 (∃ kvs k,H a=some (.dK kvs)/\y=kV k/\kvs.length<sizeLine/\H'=upd H a (.dK (putK kvs k v))) ∨
 ∃ kvs k b,H a=some (.dT kvs)/\y=.ref b/\H b=some (.tup (k.map kV))/\kvs.length<sizeLine/\H'=upd H a (.dT (putK kvs k v))
theorem DGet.k {H:Hp}{a:Addr}{kvs:List (Key×V)}{k:Key}(e:H a=some (.dK kvs)):DGet H a (kV k) (valV kvs k):=.inl ⟨kvs,k,.inl e,rfl,rfl⟩
theorem DGet.t {H:Hp}{a b:Addr}{kvs:List (List Key×V)}{k:List Key}(e:H a=some (.dT kvs)) (eb:H b=some (.tup (k.map kV))):DGet H a (.ref b) (valV kvs k):=.inr ⟨kvs,k,b,.inl e,rfl,eb,rfl⟩
theorem DPut.k {H:Hp}{a:Addr}{kvs:List (Key×V)}{k:Key}{v:V}(e:H a=some (.dK kvs)) (hl:kvs.length<sizeLine):DPut H a (kV k) v (upd H a (.dK (putK kvs k v))):=.inl ⟨kvs,k,e,rfl,hl,rfl⟩
theorem DPut.t {H:Hp}{a b:Addr}{kvs:List (List Key×V)}{k:List Key}{v:V}(e:H a=some (.dT kvs)) (eb:H b=some (.tup (k.map kV))) (hl:kvs.length<sizeLine) :
  DPut H a (.ref b) v (upd H a (.dT (putK kvs k v))):=.inr ⟨kvs,k,b,e,rfl,eb,hl,rfl⟩
section
variable {X:Cx}{pins:List (Addr×Obj)}{σ:St}{H:Hp}{s:Shared}{a:Addr}{y v:V}{u r:Value}{o:Option V}{A:Around}{E:Value->Shared->Prop}
theorem Inv.big (I:Inv X pins σ H s):sysModules<s.heap.objs.size:=by
 have h:mainGlobals<s.heap.objs.size:=(I.mod.glob.keeps I.bk).lt
 exact Nat.lt_trans (by decide) h
theorem zbp1 {Q:Value->Shared->Prop}(hu:A.units+1<cLine) (I:Inv X pins σ H s) (g:DGet H a y (some v)) (ry:RelV y u) (h:∀ w' s',Inv X pins σ H s'->RelV v w'->Q w' s') :
  wpAny (model X.prog X.w) A (getItem (.ref a) u) Q E s:=by
 rcases g with ⟨kvs,k,e,ey,l⟩|⟨kvs,k,b,e,ey,eb,l⟩
 ·subst ey
  obtain⟨z,hd,vs,rel,dd⟩:=zbn1 I.hok e
  obtain⟨w',hw,rw'⟩:=RelO.some_of (v:=v) (o:=valueAt vs k) (by rw[l];exact rel.val k)
  exact wpAny_getItem_of (kV_is ry) dd.mapOf hw (h w' _ (I.tok _) rw')
 ·subst ey
  cases (show u=Value.ref b from ry)
  obtain⟨z,hd,xs,rel,dd⟩:=zbo3 I.hok e
  obtain⟨w',hw,rw'⟩:=RelO.some_of (v:=v) (o:=(atKey xs k).map (·.2)) (by rw[l];exact rel.val k)
  obtain⟨p,hp,hp2⟩:=zcr1.mp hw
  refine wpAny_getItem_heap (tupleKind_room_in1 hu) (zbd9 I.hok eb) dd hp ?_
  rw[hp2]
  exact h w' _ (I.tok _) rw'
theorem zbp2 {h':Heap}{t':Nat}{ob:HO}(I:Inv X pins σ H s) (mu:Mut (H a)) (hs:Heap.SameBut a s.heap h') (he:∃ q,h'.get? a=some q) (new:zi2 X.prog X.w (upd H a ob) h' a ob) :
  Inv X pins σ (upd H a ob) { s with heap:=h',toks:=t' }:=
 I.write (x:=a) (e:=a) mu (.inl rfl) (fun b q hb z=>(hs.2 b hb).trans z) he new
theorem dk_new {P:Program}{w:World}{H':Hp}{h':Heap}{kvs:List (Key×V)}{vs:List (Key×Value)}(z:kvs.length<=sizeLine) (hd:(a==sysModules)=false) (rel:KV kvs vs) (dd:h'.DictOf (zk7 P w) a vs) :
  zi2 P w H' h' a (.dK kvs):=⟨z,hd,vs,rel,dd⟩
theorem zbi4 {H':Hp}{Q:Unit->Shared->Prop}(hu:A.units+1<cLine) (I:Inv X pins σ H s) (g:DPut H a y v H') (ry:RelV y u) (rv:RelV v r) (h:∀ s',Inv X pins σ H' s'->Q () s') :
  wpAny (model X.prog X.w) A (setItem (.ref a) u r) Q E s:=by
 rcases g with ⟨kvs,k,e,ey,l,eH⟩|⟨kvs,k,b,e,ey,eb,l,eH⟩
 ·subst ey eH
  obtain⟨z,hd,vs,rel,dd⟩:=zbl7 I.hok e
  have hz:vs.length<=sizeLine:=by rw[← rel.length];exact z
  have hl:(putK kvs k v).length<=sizeLine:=by have:=zaf2 kvs k v;omega
  refine wpAny_setItem_pairs (hsz:=hz) (kV_is ry) dd fun h' dd' hs=>h _ ?_
  have he:∃ q,h'.get? a=some q:=let ⟨q,_,_,hq,_⟩:=dd';⟨q,hq⟩
  exact zbp2 I (by rw[e];exact True.intro) hs he (dk_new hl hd (rel.put k rv) dd')
 ·subst ey eH
  cases (show u=Value.ref b from ry)
  obtain⟨z,hd,xs,rel,dd⟩:=dt_of I.hok e
  have hz:xs.length<=sizeLine:=by rw[← Paired.length rel];exact z
  have hl:(putK kvs k v).length<=sizeLine:=by have:=zaf2 kvs k v;omega
  refine wpAny_setItem_heap (hsz:=hz) (tupleKind_room_in1 hu) (zbd9 I.hok eb) dd fun h' dd' hs=>h _ ?_
  obtain⟨q,es,ep,hq,h2,h3,h4,_,h5⟩:=dd'
  refine zbp2 I (by rw[e];exact True.intro) hs ⟨q,hq⟩ ⟨hl,hd,_,(rel.put k eb rv).keeps fun c ys ec=>?_,q,es,ep,hq,h2,h3,h4,h5⟩
  rw[zc3 (ne_of ec e (fun z=>nomatch z))]
  exact ec
end
section
variable {X:Cx}{pins:List (Addr×Obj)}{σ:St}{H:Hp}{s:Shared}{a:Addr}{kvs:List (Key×V)}{k:Key}{u:Value}{A:Around}{E:Value->Shared->Prop}
end
def NoSl (i:Expr):Prop:=∀ ov iv,subscripted i false ov iv=operate [ov,iv] (getItem ov iv)
theorem zch4 {prog:Program}{w:World}{A:Around}{E:Value->Shared->Prop}{s:Shared}{env:Env}{value slice:Expr}{pos:Pos}{T id:String}{Q:Value->Shared->Prop}
  (hl:typeLookup (.type T) "__getitem__"=pure (some (.builtin id))) (hs:NoSl slice)
  (h:wpAny (model prog w) A (eval value env) (fun o s₁=>wpAny (model prog w) A (eval slice env) (fun i s₂=>s₂.TypeIs o T/\wpAny (model prog w) A (getItem o i) Q E s₂) E s₁) E s) :
  wpAny (model prog w) A (eval (.Subscript value slice pos) env) Q E s:=by
 refine Subscript_ (wpAny_mono h (fun o s₁ h₁=>wpAny_mono h₁ (fun i s₂ h₂=>?_) fun _ _ x=>x) fun _ _ x=>x)
 obtain⟨hT,h₂⟩:=h₂
 unfold subscriptTail
 refine wpAny_bind ?_
 rw[getitemInPython_of_ne hT.not_modules]
 refine wpAny_bind (wpAny_specialOf hT hl ?_)
 have fin:wpAny (model prog w) A (subscripted slice false o i) (fun r s₃=>wpAny (model prog w) A (letTemporaryGo value o r >>= fun _=>pure r) Q E s₃) E s₂:=by
  rw[hs o i]
  exact wpAny_operating (wpAny_mono h₂ (fun r s₃ h₃=>wpAny_bind (wpAny_letTemporaryGo (wpAny_pure h₃))) fun _ _ x=>x)
 first
  | exact wpAny_pure (wpAny_bind fin)
  | exact wpAny_bind (wpAny_pure (wpAny_bind fin))
  | exact wpAny_bind fin
theorem zay8 {X:Cx}{pins:List (Addr×Obj)}{σ:St}{H:Hp}{s:Shared}{a:Addr}{y:V}{o:Option V}(I:Inv X pins σ H s) (g:DGet H a y o):s.TypeIs (.ref a) "dict":=by
 rcases g with ⟨kvs,k,e,_,_⟩|⟨kvs,k,b,e,_,_,_⟩
 ·obtain⟨_,_,vs,_,dd⟩:=zbn1 I.hok e
  exact dd.typeIs
 ·obtain⟨_,_,xs,_,dd⟩:=zbo3 I.hok e
  exact dd.typeIs
def tDGet (td ty:TE):TE:=fun σ H Q=>td σ H fun x H1=>ty σ H1 fun y H2=>∃ a v,x=.ref a/\DGet H2 a y (some v)/\Q v H2
def sDPut (td ty tv:TE):TS:=fun D σ H=>tv σ H fun v H1=>td σ H1 fun x H2=>ty σ H2 fun y H3=>∃ a H4,x=.ref a/\DPut H3 a y v H4/\D.nx σ H4
section
variable {X:Cx}{o i e value:Expr}{pos pos' tpos:Pos}{td ty tv:TE}
theorem zch5 (hu:X.A.units+1<cLine) (ho:PE X o td) (hi:PE X i ty) (hs:NoSl i):PE X (.Subscript o i pos) (tDGet td ty):=by
 intro pins s σ H Q I h
 refine zch4 PySem.F.slot_dict_getitem.lookup hs (thn (ho pins s σ H _ I h) fun u s1 ⟨x,H1,I1,rx,q1⟩=>thn (hi pins s1 σ H1 _ I1 q1) fun iv s2 ⟨y,H2,I2,ry,a,v,ex,g,q2⟩=>?_)
 subst ex
 obtain rfl:u=Value.ref a:=rx
 exact⟨zay8 I2 g,zbp1 hu I2 g ry fun w' s3 I3 rw'=>⟨v,H2,I3,rw',q2⟩⟩
theorem zcj2 (hu:X.A.units+1<cLine) (ho:PE X o td) (hi:PE X i ty) (hv:PE X value tv) (hs:swapsWith value (some (.Subscript o i pos')) pos.line X.env=pure false) :
  PS X (.Assign [.Subscript o i pos'] value pos) (sDPut td ty tv):=by
 intro pins s σ H D I h
 refine wpAny_Assign_Subscript (thn (hv pins s σ H _ I h) fun r s1 ⟨v,H1,I1,rv,q1⟩=>thn (ho pins s1 σ H1 _ I1 q1) fun u s2 ⟨x,H2,I2,rx,q2⟩=>thn (hi pins s2 σ H2 _ I2 q2) fun iv s3 ⟨y,H3,I3,ry,a,H4,ex,g,q3⟩=>?_) hs
 subst ex
 obtain rfl:u=Value.ref a:=rx
 exact zbi4 hu I3 g ry rv fun s4 I4=>⟨σ,H4,I4,q3⟩
end
theorem zby0 {P:Program}{w:World}{H:Hp}(h:Heap) (hb:sysModules<h.objs.size):zi2 P w H (h.push { cls:=.type "dict",data:=.dict #[] }) h.objs.size (.dK []):=
 ⟨zcu4 _,beq_eq_false_iff_ne.mpr (Ne.symm (zct6 hb)),[],.nil,Heap.DictOf.new h⟩
theorem zbu7 {P:Program}{w:World}{H:Hp}(h:Heap) (hb:sysModules<h.objs.size):zi2 P w H (h.push { cls:=.type "dict",data:=.dict #[] }) h.objs.size (.dT []):=
 ⟨zcu4 _,beq_eq_false_iff_ne.mpr (Ne.symm (zct6 hb)),[],.nil,_,#[],0,zcs4 _ rfl,⟨rfl,rfl,rfl⟩,rfl,rfl,List.nodup_nil⟩
def tDNewK:TE:=fun _ H Q=>∀ p,H p=none->Q (.ref p) (upd H p (.dK []))
def tDNewT:TE:=fun _ H Q=>∀ p,H p=none->Q (.ref p) (upd H p (.dT []))
section
variable {X:Cx}{pos:Pos}
theorem zbz0:PE X (.Dict [] [] pos) tDNewK:=fun pins s σ H Q I h=>
 wpAny_Dict_empty ⟨.ref s.heap.objs.size,_,I.laid (a:=s.heap.objs.size) (o:=.dK []) (t':=s.toks) (fun _ _ q=>zcq9 _ q) (zcr9 _) (zby0 s.heap I.big),rfl,h _ (I.hok.fresh (zcr9 _))⟩
theorem zbx2:PE X (.Dict [] [] pos) tDNewT:=fun pins s σ H Q I h=>
 wpAny_Dict_empty ⟨.ref s.heap.objs.size,_,I.laid (a:=s.heap.objs.size) (o:=.dT []) (t':=s.toks) (fun _ _ q=>zcq9 _ q) (zcr9 _) (zbu7 s.heap I.big),rfl,h _ (I.hok.fresh (zcr9 _))⟩
end
structure M1 (X:Cx) (o:Expr) (m:Str) (apos:Pos) (e:Expr) (cpos:Pos):Prop where
 base:attributeBase o m X.env (eval o X.env)=eval o X.env
 few:((backTo cpos (starEach [e] X.env)).all (fun x=>!x.1)&&(backToKw cpos (keywordEach [] X.env)).all (fun x=>x.1.isSome)
  && decide (([e]:List Expr).length+([]:List Keyword).length+(if ([]:List Keyword).isEmpty then 0 else 1)<30))=true
 line:(apos.endLine==cpos.line)=true
 trees:backTo cpos (starEach [e] X.env)=[(false,eval e X.env)]
structure M2 (X:Cx) (o:Expr) (m:Str) (apos:Pos) (e f:Expr) (cpos:Pos):Prop where
 base:attributeBase o m X.env (eval o X.env)=eval o X.env
 few:((backTo cpos (starEach [e,f] X.env)).all (fun x=>!x.1)&&(backToKw cpos (keywordEach [] X.env)).all (fun x=>x.1.isSome)
  && decide (([e,f]:List Expr).length+([]:List Keyword).length+(if ([]:List Keyword).isEmpty then 0 else 1)<30))=true
 line:(apos.endLine==cpos.line)=true
 trees:backTo cpos (starEach [e,f] X.env)=[(false,eval e X.env),(false,eval f X.env)]
def IsD (H:Hp) (a:Addr):Prop:=(∃ kvs,Rd H a (.dK kvs))∨∃ kvs,Rd H a (.dT kvs)
theorem isD_at {X:Cx}{pins:List (Addr×Obj)}{σ:St}{H:Hp}{s:Shared}{a:Addr}(I:Inv X pins σ H s) (d:IsD H a) :
  s.TypeIs (.ref a) "dict"/\(∀ b,Value.ref a=.ref b->∃ ob,s.heap.get? b=some ob/\ob.dict=none)/\(a==sysModules)=false:=by
 rcases d with ⟨kvs,e⟩|⟨kvs,e⟩
 ·obtain⟨_,hd,vs,_,dd⟩:=zbn1 I.hok e
  refine⟨dd.typeIs,fun b q=>?_,hd⟩
  cases q
  obtain⟨ob,_,_,h1,h2,_⟩:=dd
  exact⟨ob,h1,h2.2.1⟩
 ·obtain⟨_,hd,xs,_,dd⟩:=zbo3 I.hok e
  refine⟨dd.typeIs,fun b q=>?_,hd⟩
  cases q
  obtain⟨ob,_,_,h1,h2,_⟩:=dd
  exact⟨ob,h1,h2.2.1⟩
section
variable {X:Cx}{pins:List (Addr×Obj)}{σ:St}{H:Hp}{s:Shared}{a:Addr}{y d:V}{u r:Value}{o:Option V}{A:Around}{E:Value->Shared->Prop}
theorem d_get2 {Q:Value->Shared->Prop}(hu:A.units+1<cLine) (I:Inv X pins σ H s) (g:DGet H a y o) (ry:RelV y u) (rd:RelV d r) (h:∀ w' s',Inv X pins σ H s'->RelV (o.getD d) w'->Q w' s') :
  wpAny (model X.prog X.w) A (call (.builtin "dict.get") [.ref a,u,r]) Q E s:=by
 rcases g with ⟨kvs,k,e,ey,l⟩|⟨kvs,k,b,e,ey,eb,l⟩
 ·subst ey
  obtain⟨z,hd,vs,rel,dd⟩:=zbn1 I.hok e
  refine call_meetsIn PySem.F.slot_dict_get dd.typeIs PySem.F.entry_dict_get (PySem.F.args_dict_get_3 _ _ _) (meets_dict_get_default (zk7 X.prog X.w) a (kV_is ry) hd r) ⟨_,dd.mapOf,h _ _ (I.tok _) ?_⟩
  rw[l]
  exact (rel.val k).getD rd
 ·subst ey
  cases (show u=Value.ref b from ry)
  obtain⟨z,hd,xs,rel,dd⟩:=zbo3 I.hok e
  refine call_meetsIn PySem.F.slot_dict_get dd.typeIs PySem.F.entry_dict_get (PySem.F.args_dict_get_3 _ _ _) (meetsH_dict_get_default (tupleKind (zk7 X.prog X.w)) a b hd r) ⟨tupleKind_room_in1 hu,k,xs,zbd9 I.hok eb,dd,h _ _ (I.tok _) ?_⟩
  rw[l]
  exact (rel.val k).getD rd
end
def zbq7 (td ty tx:TE):TE:=fun σ H Q=>td σ H fun x H1=>∃ a,x=.ref a/\IsD H1 a/\ty σ H1 fun y H2=>tx σ H2 fun z H3=>∃ o,DGet H3 a y o/\Q (o.getD z) H3
section
variable {X:Cx}{o e f:Expr}{apos cpos:Pos}{td ty tx:TE}
theorem zbu3 (hu:X.A.units+1<cLine) (ho:PE X o td) (he:PE X e ty) (hf:PE X f tx) (m:M2 X o "get" apos e f cpos):PE X (.Call (.Attribute o "get" apos) [e,f] [] cpos) (zbq7 td ty tx):=by
 intro pins s σ H Q I h
 refine wpAny_Call_method m.base m.few m.line PySem.F.plainAttrs_dict PySem.F.slot_dict_get PySem.F.type_dict_get (thn (ho pins s σ H _ I h) fun u s1 ⟨x,H1,I1,rx,a,ex,d,q1⟩=>?_)
 subst ex
 obtain rfl:u=Value.ref a:=rx
 obtain⟨t1,t2,_⟩:=isD_at I1 d
 refine⟨t1,t2,?_⟩
 rw[m.trees]
 refine Calls.callWith_builtin rfl (Calls.evalArgs_plain (Calls.spliced_cons (thn (he pins s1 σ H1 _ I1 q1) fun iv s2 ⟨y,H2,I2,ry,q2⟩=>
  Calls.spliced_cons (thn (hf pins s2 σ H2 _ I2 q2) fun fv s3 ⟨z,H3,I3,rz,ov,g,q3⟩=>Calls.spliced_nil ?_))))
 exact d_get2 hu I3 g ry rz fun w' s4 I4 rw'=>⟨_,H3,I4,rw',q3⟩
end
section
variable {X:Cx}{pins:List (Addr×Obj)}{σ:St}{H:Hp}{s:Shared}{a:Addr}{kvs:List (Key×V)}{A:Around}{E:Value->Shared->Prop}
end
section
variable {X:Cx}{pins:List (Addr×Obj)}{σ:St}{H:Hp}{s:Shared}{a:Addr}{y:V}{u:Value}{A:Around}{E:Value->Shared->Prop}
end
end L2
namespace L2
open PySem PySem.Spec PyProof.Rows
section
variable {κ:Type}[DecidableEq κ]
end
end L2
set_option maxHeartbeats 2000000
namespace L2
open PySem PySem.Spec PyProof.Rows
def RawD (h:Heap) (d:Addr) (es:Array DictEntry) (ep:Nat):Prop:=∃ o,h.get? d=some o/\o.ExactDict/\o.data=.dict es ep
theorem RawD.is {s:Shared}{d:Addr}{es:Array DictEntry}{ep:Nat}(x:RawD s.heap d es ep):s.TypeIs (.ref d) "dict":=let ⟨o,a,b,_⟩:=x;⟨o,a,b.1⟩
theorem RawD.lt {h:Heap}{d:Addr}{es:Array DictEntry}{ep:Nat}(x:RawD h d es ep):d<h.objs.size:=let ⟨_,a,_⟩:=x;zcs0 a
theorem RawD.to {h h':Heap}{d:Addr}{es:Array DictEntry}{ep:Nat}(x:RawD h d es ep) (k:∀ o,h.get? d=some o->h'.get? d=some o):RawD h' d es ep:=let ⟨o,a,r⟩:=x;⟨o,k _ a,r⟩
section
variable {prog:Program}{w:World}{A:Around}{E:Value->Shared->Prop}{s:Shared}{d it:Addr}{es:Array DictEntry}{ep:Nat}
theorem zbw0 {Q:Value->Shared->Prop}(lo:(d==sysModules)=false) (x:RawD s.heap d es ep)
  (q:Q (.ref s.heap.objs.size) { s with heap:=s.heap.push { cls:=.type "dict_keyiterator",data:=.fields #[.ref d,.int 0 0,.int es.size 0,.int ep 0] } }) :
  wpAny (model prog w) A (pyIter (.ref d)) Q E s:=by
 obtain⟨o,x1,x2,x3⟩:=id x
 have tt:=x.is
 refine wpAny_pyIter_slot tt F.slot_dict_iter (wpAny_call_entry F.slot_dict_iter tt F.entry_dict_iter ?_ (F.args_dict_iter_1 _))
 unfold Builtin.«dict.__iter__» Builtin.Dict.dictSlotNone
 refine wpAny_bind (wpAny_bind (wpAny_notOrdered_dict tt ?_))
 show wpAny (model prog w) _ (pure (Value.ref d)) _ _ s
 refine wpAny_pure (?_:_)
 show wpAny (model prog w) _ (Builtin.Dict.showsAll d >>= _) _ _ s
 unfold Builtin.Dict.showsAll
 rw[if_neg (fun z=>zcr2 (lo.symm.trans z))]
 refine wpAny_bind (wpAny_pure (wpAny_bind (wpAny_dictEntries x1 x3 (wpAny_bind (wpAny_dictEpoch x1 x3 ?_)))))
 exact wpAny_bind (wpAny_newObj_type (wpAny_pure ⟨_,rfl,"dict_keyiterator",_,⟨_,zcs4 _ rfl,rfl⟩,F.slot_dict_keyiterator_next.lookup,by simpa [rawInt] using q⟩))
theorem zbw8 {i:Nat}{Q:Option Value->Shared->Prop}(y:s.heap.IsKeyIter it d i es.size ep) (x:RawD s.heap d es ep) (hi:i<es.size)
  (q:∀ h',h'.IsKeyIter it d (i+1) es.size ep->Heap.SameBut it s.heap h'->Q (some es[i].key) { s with heap:=h' }) :
  wpAny (model prog w) A (pyNext (.ref it)) Q E s:=by
 obtain⟨o,y1,y2,y3⟩:=id y
 obtain⟨od,x1,x2,x3⟩:=id x
 have own:Builtin.Dict_items.ownsTuple "dict_keyiterator"=false:=by decide
 unfold pyNext
 refine wpAny_bind (wpAny_attempt (wpAny_callSpecial?_slot (name:=Str.ofString "__next__") y.typeIs F.slot_dict_keyiterator_next (wpAny_call_entry F.slot_dict_keyiterator_next y.typeIs F.entry_dict_keyiterator_next ?_ (F.args_dict_keyiterator_next_1 _))))
 refine wpAny_bind (wpAny_pure (wpAny_bind (wpAny_bind ?_)))
 first|refine wpAny_bind (wpAny_typeNameOfWhole_keyiter y.typeIs (wpAny_pure ?_))|refine wpAny_bind (wpAny_typeNameOf_keyiter y.typeIs (wpAny_pure ?_))
 refine wpAny_bind (wpAny_fieldsOf y1 y3 ?_)
 simp only[own,zcv8,if_false]
 show wpAny (model prog w) _ (if (Value.ref d==Value.none)=true then _ else _) _ _ s
 rw[if_neg (show ¬ (Value.ref d==Value.none)=true from zcr2)]
 refine wpAny_bind (wpAny_pure (wpAny_bind (wpAny_dictEntries x1 x3 ?_)))
 rw[if_neg (by simp)]
 refine wpAny_bind (wpAny_pure (wpAny_bind (wpAny_dictEpoch x1 x3 ?_)))
 rw[if_neg (by simp)]
 refine wpAny_pure (?_:_)
 simp only[show ¬ ((i:Int)<0) from by omega,if_false,zcx1,Array.getElem?_eq_getElem hi]
 refine wpAny_bind (?_:_)
 first|refine wpAny_bind (wpAny_typeNameOfWhole_keyiter y.typeIs (wpAny_pure ?_))|refine wpAny_bind (wpAny_typeNameOf_keyiter y.typeIs (wpAny_pure ?_))
 refine wpAny_bind (wpAny_isOneOf_keyiter y.typeIs ?_)
 show wpAny (model prog w) _ (setField (.ref it) 1 (rawInt ((i:Int)+1)) >>= _) _ _ s
 refine wpAny_bind (wpAny_setField y1 y3 (by simp) ?_)
 have y':(s.heap.update it (Obj.mapFields (·.setIfInBounds 1 (rawInt ((i:Int)+1))))).IsKeyIter it d (i+1) es.size ep:=
  ⟨_,zcv2 _ y1 (Obj.isFreed_of_fields (Obj.data_mapFields y3 _)),(Obj.cls_mapFields ..).trans y2,by rw[Obj.data_mapFields y3];simp[rawInt]⟩
 refine wpAny_bind (wpAny_holding (wpAny_bind (wpAny_isOneOf_keyiter (s:={ s with heap:=s.heap.update it (Obj.mapFields (·.setIfInBounds 1 (rawInt ((i:Int)+1)))) }) y'.typeIs ?_)))
 show wpAny (model prog w) _ (pure es[i].key) _ _ _
 exact wpAny_pure (wpAny_pure ⟨_,rfl,wpAny_pure (q _ y' (Heap.SameBut.update ..))⟩)
theorem zcf5 {i:Nat}{Q:Option Value->Shared->Prop}(hh:A.handled=none) (y:s.heap.IsKeyIter it d i es.size ep) (x:RawD s.heap d es ep) (hi:es.size<=i)
  (q:∀ h',Heap.ExtBut it s.heap h'->Q none { s with heap:=h' }) :
  wpAny (model prog w) A (pyNext (.ref it)) Q E s:=by
 obtain⟨o,y1,y2,y3⟩:=id y
 obtain⟨od,x1,x2,x3⟩:=id x
 have own:Builtin.Dict_items.ownsTuple "dict_keyiterator"=false:=by decide
 unfold pyNext
 refine wpAny_bind (wpAny_attempt (wpAny_callSpecial?_slot (name:=Str.ofString "__next__") y.typeIs F.slot_dict_keyiterator_next (wpAny_call_entry F.slot_dict_keyiterator_next y.typeIs F.entry_dict_keyiterator_next ?_ (F.args_dict_keyiterator_next_1 _))))
 refine wpAny_bind (wpAny_pure (wpAny_bind (wpAny_bind ?_)))
 first|refine wpAny_bind (wpAny_typeNameOfWhole_keyiter y.typeIs (wpAny_pure ?_))|refine wpAny_bind (wpAny_typeNameOf_keyiter y.typeIs (wpAny_pure ?_))
 refine wpAny_bind (wpAny_fieldsOf y1 y3 ?_)
 simp only[own,zcv8,if_false]
 show wpAny (model prog w) _ (if (Value.ref d==Value.none)=true then _ else _) _ _ s
 rw[if_neg (show ¬ (Value.ref d==Value.none)=true from zcr2)]
 refine wpAny_bind (wpAny_pure (wpAny_bind (wpAny_dictEntries x1 x3 ?_)))
 rw[if_neg (by simp)]
 refine wpAny_bind (wpAny_pure (wpAny_bind (wpAny_dictEpoch x1 x3 ?_)))
 rw[if_neg (by simp)]
 refine wpAny_pure (?_:_)
 simp only[show ¬ ((i:Int)<0) from by omega,if_false,zcx1,Array.getElem?_eq_none hi]
 refine wpAny_bind (?_:_)
 first|refine wpAny_bind (wpAny_typeNameOfWhole_keyiter y.typeIs (wpAny_pure ?_))|refine wpAny_bind (wpAny_typeNameOf_keyiter y.typeIs (wpAny_pure ?_))
 show wpAny (model prog w) _ (setField (.ref it) 0 .none >>= _) _ _ s
 refine wpAny_bind (wpAny_setField y1 y3 (by simp) ?_)
 show wpAny (model prog w) _ (newExc (.type "StopIteration") [] >>= _) _ _ _
 refine wpAny_bind (?_:_)
 unfold newExc newTuple
 refine wpAny_bind (wpAny_newObj_type ?_ (zcu4 _))
 refine wpAny_bind (m:=firstArgMember _ _) (wpAny_of_eq (a:=Value.none) (by first|rfl|(unfold firstArgMember;rfl)) ?_)
 refine wpAny_newObj_type ?_ (by size_fits)
 unfold raiseNew
 refine wpAny_bind (wpAny_handled ?_)
 have hn:A.in1.handled=none:=hh
 rw[hn]
 refine wpAny_bind (wpAny_pure (wpAny_throw (?_:_)))
 refine wpAny_bind (wpAny_isInstance (b:=true) (T:="StopIteration") ⟨_,zcs4 _ rfl,rfl⟩ isSubtype_stop ?_)
 exact wpAny_pure (q _ (((Heap.SameBut.update ..).extBut.push _).push _))
theorem zbv5 (hh:A.handled=none) (I:Addr) (ne:d≠I) :
  Walks prog w A I [I,d] [I] es.size (fun i v=>∃ e,es[i]?=some e/\v=e.key) (fun i h=>h.IsKeyIter I d i es.size ep/\RawD h d es ep) where
 sub:=by intro b z;simp at z;simp[z]
 frame:=fun i h h' st k=>⟨st.1.at (k I (by simp)),st.2.to (k d (by simp))⟩
 item:=fun i s Q E hi st q=>zbw8 st.1 st.2 hi fun h' y' hs=>q _ h' s.toks ⟨es[i],by simp[hi],rfl⟩ ⟨y',st.2.to fun o e=>hs.extBut d o ne e⟩ fun b o hb e=>hs.extBut b o (fun z=>hb (by simp[z])) e
 done:=fun s Q E st q=>zcf5 hh st.1 st.2 (zcr9 _) fun h' he=>q h' s.toks fun b o hb e=>he b o (fun z=>hb (by simp[z])) e
 self:=fun i s Q E st q=>wpAny_pyIter_keyiter st.1 q
theorem zcf3 (lo:(d==sysModules)=false):PySem.W.KdlSrc prog w "dict" d d es.size (fun i v=>∃ e,es[i]?=some e/\v=e.key) (fun h=>RawD h d es ep) where
 type:=fun s x=>x.is
 there:=fun h x=>⟨x.lt,x.lt⟩
 keep:=fun h h' x k=>x.to fun o e=>k d (Or.inl rfl) o e
 notList:=rfl
 notTuple:=rfl
 hint:=fun A E s Q x q=>PySem.W.kdl_hint_dict x.is q
 iter:=fun A s hh x=>⟨_,_,(fun E Q q=>zbw0 lo x q),zbv5 hh _ (zct6 x.lt),⟨⟨_,zcs4 _ rfl,rfl,rfl⟩,x.to fun o e=>zcq9 _ e⟩⟩
end
end L2
set_option maxHeartbeats 2000000
namespace L2
open PySem PySem.Spec PyProof.Rows PySem.W
section
variable {lt:Nat->Nat->Bool}{n:Nat}
def KW {α:Type}(lt:Nat->Nat->Bool) (n:Nat) (Q:α->Prop):KasT α->Prop
 | .ret a=>Q a
 | .ask i j k=>i<n/\j<n/\KW lt n Q (k (lt i j))
theorem KW.bd {α β:Type}{f:α->KasT β}{Q:β->Prop}:∀ {t:KasT α},KW lt n (fun a=>KW lt n Q (f a)) t->KW lt n Q (t.bind f)
 | .ret _,h=>h
 | .ask _ _ k,⟨h1,h2,h3⟩=>⟨h1,h2,KW.bd (t:=k _) h3⟩
theorem KW.mono {α:Type}{Q Q':α->Prop}(hq:∀ a,Q a->Q' a):∀ {t:KasT α},KW lt n Q t->KW lt n Q' t
 | .ret a,h=>hq a h
 | .ask _ _ k,⟨h1,h2,h3⟩=>⟨h1,h2,KW.mono hq (t:=k _) h3⟩
theorem KW.wp {α:Type}{cmp:Nat->Nat->(Bool->Shared->Prop)->Shared->Prop}{s:Shared}{Q:α->Prop}(hc:∀ i j C,i<n->j<n->C (lt i j) s->cmp i j C s):∀ {t:KasT α},KW lt n Q t->t.kasWp cmp (fun a s'=>s'=s/\Q a) s
 | .ret a,h=>⟨rfl,h⟩
 | .ask i j k,⟨h1,h2,h3⟩=>hc i j _ h1 h2 (KW.wp hc (t:=k _) h3)
def Pm (n:Nat) (p:Array Nat):Prop:=p.toList.Perm (List.range n)
theorem Pm.low {p:Array Nat}(h:Pm n p) (hn:0<n) (i:Nat):p.getD i 0<n:=by
 unfold Array.getD
 split
 ·rename_i hi
  exact zcu9.mp (h.mem_iff.mp (Array.getElem_mem_toList hi))
 ·exact hn
theorem Pm.rev {p:Array Nat}(h:Pm n p) (i j:Nat):Pm n (kas_rev p i j):=(Array.perm_iff_toList_perm.mp (mirror_perm p i j _)).trans h
theorem Pm.bub {p:Array Nat}(h:Pm n p) (i j:Nat):Pm n (bubble p i j):=(Array.perm_iff_toList_perm.mp (bubble_perm p i j)).trans h
end
section
variable {prog:Program}{w:World}{A:Around}{E:Value->Shared->Prop}{s:Shared}
def midH (h:Heap) (a:Addr) (vs:List Value):Heap:=((h.update a (Obj.mapSeq fun _=>#[])).push (seqObj "tuple" vs.toArray 0)).push (seqObj "list" #[] 0)
theorem zbi7 {h:Heap}{a b:Addr}{vs:List Value}{o:Obj}(ne:b≠a) (e:h.get? b=some o):(midH h a vs).get? b=some o:=
 zcq9 _ (zcq9 _ ((Heap.get?_update_ne _ _ _ _ ne).trans e))
theorem zak9 {h:Heap}{a b:Addr}{vs:List Value}{out:Array Value}{o:Obj}(ne:b≠a) (e:h.get? b=some o):(sortedHeap h a vs out).get? b=some o:=
 (Heap.get?_update_ne _ _ _ _ ne).trans (zbi7 ne e)
theorem zbl4 {h:Heap}{a:Addr}{vs xs:List Value}{n:Nat}(e:h.get? a=some (seqObj "list" xs.toArray n)):∃ c,(midH h a vs).get? a=some (seqObj "list" #[] c)/\(h.update a (Obj.mapSeq fun _=>#[])).get? a=some (seqObj "list" #[] c):=
 ⟨_,zcq9 _ (zcq9 _ (get?_update_seq e fun _=>#[])),get?_update_seq e fun _=>#[]⟩
theorem zaq7 {h:Heap}{a:Addr}{vs xs:List Value}{n:Nat}{out:Array Value}(e:h.get? a=some (seqObj "list" xs.toArray n)):∃ c,(sortedHeap h a vs out).get? a=some (seqObj "list" out c):=by
 obtain⟨c,h1,_⟩:=zbl4 (vs:=vs) e
 exact⟨_,get?_update_seq h1 fun _=>out⟩
theorem zcc8 {a:Addr}{vs:List Value}{n:Nat}{κ:SortKind}{lt:Nat->Nat->Bool}{R:Array Nat->Prop}{P:PySem.Fin->Shared->Prop}(ho:s.heap.get? a=some (seqObj "list" vs.toArray n)) (h2:2<=vs.length) (h64:vs.length<64)
  (hk:∀ Q:SortKind->Shared->Prop,Q κ { s with heap:=midH s.heap a vs }->wpAny (model prog w) A (keyKind' vs.toArray) Q E { s with heap:=midH s.heap a vs })
  (hc:∀ i j (C:Bool->Shared->Prop),i<vs.length->j<vs.length->C (lt i j) { s with heap:=midH s.heap a vs }->wpAny (model prog w) A (keyLt' κ (vs.getD i Value.none) (vs.getD j Value.none)) C (fun _ _=>False) { s with heap:=midH s.heap a vs })
  (kw:KW lt vs.length R (kas_sort vs.length))
  (h:∀ p:Array Nat,p.size=vs.length->R p->P (.done (.ret .none)) { s with heap:=sortedHeap s.heap a vs (List.toArray (p.toList.map fun i=>vs.getD i Value.none)) }) :
  wpAny (model prog w) A (Builtin.«list.sort» ⟨[.ref a],[]⟩) P E s:=by
 obtain⟨c,m1,m2⟩:=zbl4 (vs:=vs) ho
 have zs:¬ vs.toArray.size<2:=by rw[zcr3];omega
 have zl:vs.length<=sizeLine:=by rw[sizeLine_eq];omega
 rw[list_sort_plain]
 refine wpAny_bind (listItems_at ho rfl (wpAny_bind (listUpdate_at ho rfl ?_ (by rw[zcr3];exact zl) (zcu4 _))))
 refine wpAny_bind (seqEpoch_at m2 rfl (wpAny_bind (wpAny_newTuple ?_ zl)))
 refine wpAny_bind (wpAny_newList ?_ (zcu4 _))
 refine wpAny_holding (?_:_)
 show wpAny (model prog w) A _ P E { s with heap:=midH s.heap a vs }
 dsimp only
 rw[if_neg zs,if_neg zs]
 refine wpAny_bind (hk _ ?_)
 have run:=kat_run (prog:=prog) (w:=w) (A:=A) (E:=E) (κ:=κ) (ks:=vs) (vs:=vs) (s:={ s with heap:=midH s.heap a vs }) (Q:=fun st' s'=>s'={ s with heap:=midH s.heap a vs }/\∃ p:Array Nat,p.size=vs.length/\R p/\arrOf st'=p.map (kas_item (vs.toArray.zip vs.toArray))/\failedOf st'=none)
  rfl h2 h64 (fun p st' s' b1 b2 b3 b4=>⟨b4.1,p,b1,b4.2,b2,b3⟩) (KW.wp (cmp:=kas_ask prog w A κ vs) (fun i j C li lj hC=>hc i j C li lj hC) kw)
 refine wpAny_bind (wpAny_mono run ?_ fun _ _ e=>e)
 rintro⟨⟨⟩,st'⟩ s' ⟨rfl,p,pz,pR,har,hf⟩
 have out:=kat_snds rfl har
 dsimp only
 rw[out]
 refine wpAny_bind (seqEpoch_at m1 rfl (wpAny_bind (listUpdate_at m1 rfl ?_ (zcu4 _) ?_)))
 ·rw[hf]
  simp only[bne_self_eq_false,zcv8,if_false]
  exact wpAny_pure (h p pz pR)
 ·rw[zcr3,zcq3,Array.length_toList,pz]
  omega
theorem zby1 {a:Addr}{vs:List Value}{n:Nat}{P:PySem.Fin->Shared->Prop}(ho:s.heap.get? a=some (seqObj "list" vs.toArray n)) (h2:vs.length<2)
  (h:P (.done (.ret .none)) { s with heap:=sortedHeap s.heap a vs vs.toArray }):wpAny (model prog w) A (Builtin.«list.sort» ⟨[.ref a],[]⟩) P E s:=by
 obtain⟨c,m1,m2⟩:=zbl4 (vs:=vs) ho
 have zs:vs.toArray.size<2:=by rw[zcr3];omega
 have zl:vs.length<=sizeLine:=by rw[sizeLine_eq];omega
 rw[list_sort_plain]
 refine wpAny_bind (listItems_at ho rfl (wpAny_bind (listUpdate_at ho rfl ?_ (by rw[zcr3];exact zl) (zcu4 _))))
 refine wpAny_bind (seqEpoch_at m2 rfl (wpAny_bind (wpAny_newTuple ?_ zl)))
 refine wpAny_bind (wpAny_newList ?_ (zcu4 _))
 refine wpAny_holding (?_:_)
 show wpAny (model prog w) A _ P E { s with heap:=midH s.heap a vs }
 dsimp only
 rw[if_pos zs,if_pos zs]
 refine wpAny_bind (wpAny_pure (?_:_))
 rw[StateT.run_pure]
 refine wpAny_bind (wpAny_pure (?_:_))
 dsimp only
 have e:(vs.toArray.zip vs.toArray).map (·.2)=vs.toArray:=by
  apply Array.toList_inj.mp
  simp[List.map_snd_zip]
 show wpAny (model prog w) A (seqEpoch a >>= _) P E _
 refine wpAny_bind (seqEpoch_at m1 rfl (wpAny_bind (listUpdate_at m1 rfl ?_ (zcu4 _) ?_)))
 ·simp only[bne_self_eq_false,zcv8,if_false]
  show wpAny (model prog w) A (ret Value.none) P E { s with heap:=sortedHeap s.heap a vs ((vs.toArray.zip vs.toArray).map (·.2)) }
  rw[e]
  exact wpAny_pure h
 ·show ((vs.toArray.zip vs.toArray).map (·.2)).size<=_
  rw[e,zcr3];omega
end
end L2
set_option maxHeartbeats 2000000
namespace L2
open PySem PySem.Spec PyProof.Rows PySem.W
def ltP (x y:Int×Int):Bool:=if (x.1==y.1)=true then (if (x.2==y.2)=true then false else decide (x.2<y.2)) else decide (x.1<y.1)
def TupI (h:Heap) (v:Value) (x:Int×Int):Prop:=∃ a o t u n,v=.ref a/\h.get? a=some o/\o.cls=.type "tuple"/\o.data=.seq #[.int x.1 t,.int x.2 u] n
theorem TupI.to {h h':Heap}{v:Value}{x:Int×Int}(z:TupI h v x) (k:∀ b o,h.get? b=some o->h'.get? b=some o):TupI h' v x:=
 let ⟨a,o,t,u,n,e,e1,r⟩:=z;⟨a,o,t,u,n,e,k _ _ e1,r⟩
section
variable {prog:Program}{w:World}{A:Around}{E:Value->Shared->Prop}{s:Shared}
theorem zcj1 {v v':Value}{x y:Int×Int}{C:Bool->Shared->Prop}(hv:TupI s.heap v x) (hv':TupI s.heap v' y) (h:C (ltP x y) s):wpAny (model prog w) A (keyLt' (tuples' true) v v') C E s:=by
 obtain⟨a,o,t,u,n,rfl,a1,a2,a3⟩:=hv
 obtain⟨b,o',t',u',n',rfl,b1,b2,b3⟩:=hv'
 refine kat_lt a1 a3 b1 b3 ?_
 show KatLex prog w A true false C [(.int x.1 t,.int y.1 t'),(.int x.2 u,.int y.2 u')] 0 s
 unfold ltP at h
 refine kat_cons (wpAny_eqBool_int (kat_go (fun e=>?_) fun e=>?_))
 ·rw[if_pos e] at h
  refine kat_yes (kat_cons (wpAny_eqBool_int (kat_go (fun e2=>?_) fun e2=>?_)))
  ·rw[if_pos e2] at h
   exact kat_yes (kat_nil h)
  ·rw[if_neg (by rw[e2];exact zcr2)] at h
   exact kat_no (kat_one _ _ (wpAny_lt_int h))
 ·rw[if_neg (by rw[e];exact zcr2)] at h
  exact kat_no (oneLt_int h)
theorem zbk5 {h:Heap}:∀ {vs:List Value},(∀ v∈vs,∃ x,TupI h v x)->∃ fs,KatTups h vs fs/\fs.length=vs.length/\∀ f∈fs,∃ n t,f=Value.int n t
 | [],_=>⟨[],.nil,rfl,fun _ z=>nomatch z⟩
 | v :: vs,H=>by
  obtain⟨fs,a1,a2,a3⟩:=zbk5 (vs:=vs) fun u hu=>H u (.tail _ hu)
  obtain⟨x,a,o,t,u,n,rfl,b1,b2,b3⟩:=H v (.head _)
  refine⟨.int x.1 t :: fs,KatTups.cons b1 b2 b3 rfl a1,congrArg (·+1) a2,fun f hf=>?_⟩
  rcases zcs2.mp hf with rfl|hf
  ·exact⟨_,_,rfl⟩
  ·exact a3 f hf
theorem zbs1 {vs:List Value}{Q:SortKind->Shared->Prop}(H:∀ v∈vs,∃ x,TupI s.heap v x) (h2:2<=vs.length) (h:Q (tuples' true) s):wpAny (model prog w) A (keyKind' vs.toArray) Q E s:=by
 obtain⟨fs,a1,a2,a3⟩:=zbk5 H
 refine kat_kind (T:=.type "int") a1 (by omega) (fun v hv=>?_) rfl h
 obtain⟨n,t,rfl⟩:=a3 v hv
 exact Looks.of_pure rfl
end
end L2
set_option maxHeartbeats 2000000
namespace L2
open PySem PySem.Spec PyProof.Rows PySem.W
section
variable {X:Cx}{K:zcq5}
@[irreducible] def rDG (a:Addr) (y:V) (H:Hp) (Q:VK):Prop:=∃ v,DGet H a y (some v)/\Q v H
def rDGV (x y:V) (H:Hp) (Q:VK):Prop:=match x with
 | .ref a=>rDG a y H Q
 | _=>False
def tDG (td ty:TE):TE:=fun σ H Q=>td σ H fun x H1=>ty σ H1 fun y H2=>rDGV x y H2 Q
theorem tDG_eq (td ty:TE):tDG td ty=tDGet td ty:=by
 funext σ H Q
 unfold tDG tDGet
 congr 1;funext x H1;congr 1;funext y H2
 unfold rDGV
 apply propext
 cases x<;>first
  | (simp only[V.ref.injEq];unfold rDG;exact⟨fun ⟨v,g,q⟩=>⟨_,v,rfl,g,q⟩,fun ⟨a,v,e,g,q⟩=>⟨v,e▸g,q⟩⟩)
  | exact⟨fun z=>z.elim,fun ⟨a,v,e,_⟩=>nomatch e⟩
theorem peDGet {o i:Expr}{td ty:TE}{pos:Pos}(hu:X.A.units+40<cLine) (ho:PE X o td) (hi:PE X i ty) (hs:NoSl i:=by exact fun _ _=>rfl):PE X (.Subscript o i pos) (tDG td ty):=tDG_eq td ty▸zch5 (by omega) ho hi hs
theorem dgT_rd {a b:Addr}{H:Hp}{Q:VK}{kvs:List (List Key×V)}{k:List Key}{v:V}(e:H a=some (.dT kvs)) (eb:H b=some (.tup (k.map kV))) (ev:valV kvs k=some v) (q:Q v H):rDG a (.ref b) H Q:=by
 unfold rDG
 exact⟨v,ev▸DGet.t e eb,q⟩
@[irreducible] def rIsD (a:Addr) (H:Hp) (P:Prop):Prop:=IsD H a/\P
@[irreducible] def rDG2 (a:Addr) (y z:V) (H:Hp) (Q:VK):Prop:=∃ o,DGet H a y o/\Q (o.getD z) H
def rDG2V (x:V) (H:Hp) (P:Addr->Prop):Prop:=match x with
 | .ref a=>rIsD a H (P a)
 | _=>False
def tDG2 (td ty tx:TE):TE:=fun σ H Q=>td σ H fun x H1=>rDG2V x H1 fun a=>ty σ H1 fun y H2=>tx σ H2 fun z H3=>rDG2 a y z H3 Q
theorem zcg8 (td ty tx:TE):tDG2 td ty tx=zbq7 td ty tx:=by
 funext σ H Q
 unfold tDG2 zbq7
 congr 1;funext x H1
 unfold rDG2V rIsD rDG2
 apply propext
 cases x<;>first
  | (simp only[V.ref.injEq];exact⟨fun z=>⟨_,rfl,z⟩,fun ⟨a,e,z⟩=>e▸z⟩)
  | exact⟨fun z=>z.elim,fun ⟨a,e,_⟩=>nomatch e⟩
theorem zbc6 {o e f:Expr}{td ty tx:TE}{apos cpos:Pos}(hu:X.A.units+40<cLine) (ho:PE X o td) (he:PE X e ty) (hf:PE X f tx)
  (m1:attributeBase o "get" X.env (eval o X.env)=eval o X.env:=by rfl)
  (m2:((backTo cpos (starEach [e,f] X.env)).all (fun x=>!x.1)&&(backToKw cpos (keywordEach [] X.env)).all (fun x=>x.1.isSome)&&decide (([e,f]:List Expr).length+([]:List Keyword).length+(if ([]:List Keyword).isEmpty then 0 else 1)<30))=true:=by rfl)
  (m3:(apos.endLine==cpos.line)=true:=by rfl) (m4:backTo cpos (starEach [e,f] X.env)=[(false,eval e X.env),(false,eval f X.env)]:=by rfl):PE X (.Call (.Attribute o "get" apos) [e,f] [] cpos) (tDG2 td ty tx):=
 zcg8 td ty tx▸zbu3 (by omega) ho he hf ⟨m1,m2,m3,m4⟩
theorem zbr0 {a:Addr}{H:Hp}{P:Prop}{kvs:List (List Key×V)}(e:H a=some (.dT kvs)) (p:P):rIsD a H P:=by unfold rIsD;exact⟨.inr ⟨kvs,.inl e⟩,p⟩
theorem zbp8 {a b:Addr}{z:V}{H:Hp}{Q:VK}{kvs:List (List Key×V)}{k:List Key}(e:H a=some (.dT kvs)) (eb:H b=some (.tup (k.map kV))) (q:Q ((valV kvs k).getD z) H):rDG2 a (.ref b) z H Q:=by
 unfold rDG2
 exact⟨_,DGet.t e eb,q⟩
@[irreducible] def rDP (a:Addr) (y v:V) (H:Hp) (N:Hp->Prop):Prop:=∃ H',DPut H a y v H'/\N H'
def rDPV (x y v:V) (H:Hp) (N:Hp->Prop):Prop:=match x with
 | .ref a=>rDP a y v H N
 | _=>False
def sDP (td ty tv:TE):TS:=fun D σ H=>tv σ H fun v H1=>td σ H1 fun x H2=>ty σ H2 fun y H3=>rDPV x y v H3 (D.nx σ)
theorem sDP_eq (td ty tv:TE):sDP td ty tv=sDPut td ty tv:=by
 funext D σ H
 unfold sDP sDPut
 congr 1;funext v H1;congr 1;funext x H2;congr 1;funext y H3
 unfold rDPV
 apply propext
 cases x<;>first
  | (simp only[V.ref.injEq];unfold rDP;exact⟨fun ⟨H',g,q⟩=>⟨_,H',rfl,g,q⟩,fun ⟨a,H',e,g,q⟩=>⟨H',e▸g,q⟩⟩)
  | exact⟨fun z=>z.elim,fun ⟨a,v,e,_⟩=>nomatch e⟩
theorem zbz6 {o i value:Expr}{td ty tv:TE}{pos pos':Pos}(hu:X.A.units+40<cLine) (ho:PE X o td) (hi:PE X i ty) (hv:PE X value tv) (hs:swapsWith value (some (.Subscript o i pos')) pos.line X.env=pure false:=by rfl) :
  PS X (.Assign [.Subscript o i pos'] value pos) (sDP td ty tv):=sDP_eq td ty tv▸zcj2 (by omega) ho hi hv hs
theorem zcb8 {a b:Addr}{v:V}{H:Hp}{N:Hp->Prop}{kvs:List (List Key×V)}{k:List Key}(e:H a=some (.dT kvs)) (eb:H b=some (.tup (k.map kV))) (hl:kvs.length<sizeLine) (q:∀ H',Chg a H H'->H' a=some (.dT (putK kvs k v))->N H'):rDP a (.ref b) v H N:=by
 unfold rDP
 exact⟨_,DPut.t e eb hl,q _ Chg.upd zc2⟩
def pK (x:Int×Int):List Key:=[.inl x.1,.inl x.2]
theorem zar8 {α β:Type}{R:α->β->Prop}:∀ {as:List α}{bs:List β},Paired R as bs->∀ (i:Nat) (a:α) (b:β),as[i]?=some a->bs[i]?=some b->R a b:=by
 intro as bs h
 induction h with
 | nil=>intro i a b e;simp at e
 | cons h1 _ ih=>
  intro i a b e1 e2
  cases i with
  | zero=>simp at e1 e2;subst e1;subst e2;exact h1
  | succ j=>simp at e1 e2;exact ih j a b e1 e2
theorem zaq6 {α β:Type}{R:α->β->Prop}:∀ {as:List α}{bs:List β},as.length=bs.length->(∀ (i:Nat) (a:α) (b:β),as[i]?=some a->bs[i]?=some b->R a b)->Paired R as bs
 | [],[],_,_=>.nil
 | a :: as,b :: bs,hl,h=>.cons (h 0 a b rfl rfl) (zaq6 (Nat.succ.inj hl) fun i x y e1 e2=>h (i+1) x y (by simpa using e1) (by simpa using e2))
end
end L2
set_option maxHeartbeats 2000000
namespace L2
open PySem PySem.Spec PyProof.Rows PySem.W
structure Ord (lt:Nat->Nat->Bool):Prop where
 as:∀ i j,lt i j=true->lt j i=false
 tr:∀ i j k,lt j i=false->lt k j=false->lt k i=false
section
variable {lt:Nat->Nat->Bool}{n:Nat}
def gp (p:Array Nat) (i:Nat):Nat:=p.getD i 0
theorem zbt2 {p q:Array Nat}{i j:Nat}(h:p[i]?=q[j]?):gp p i=gp q j:=by
 unfold gp
 rw[Array.getD_eq_getD_getElem?,Array.getD_eq_getD_getElem?,h]
theorem zw7 {p:Array Nat}{i j:Nat}(hj:j<=p.size) (k:Nat):gp (kas_rev p i j) k=if i<=k/\k<j then gp p (i+j - 1 - k) else gp p k:=by
 have h:=getElem?_mirror_all (xs:=p) (i:=i) hj k
 split
 ·rename_i c;rw[if_pos c] at h;exact zbt2 h
 ·rename_i c;rw[if_neg c] at h;exact zbt2 h
theorem zcc0 {p:Array Nat}{k l:Nat}(hk:k<p.size) (hl:l<=k) (i:Nat):gp (bubble p k (k - l)) i=if i=l then gp p k else if l<i/\i<=k then gp p (i - 1) else gp p i:=by
 have h:=getElem?_bubble hk (k - l) (by omega) i
 rw[show k - (k - l)=l by omega] at h
 split
 ·rename_i c;rw[if_pos c] at h;exact zbt2 h
 ·rename_i c
  rw[if_neg c] at h
  split
  ·rename_i c2;rw[if_pos c2] at h;exact zbt2 h
  ·rename_i c2;rw[if_neg c2] at h;exact zbt2 h
def Up (lt:Nat->Nat->Bool) (p:Array Nat) (k:Nat):Prop:=∀ i j,i<=j->j<k->lt (gp p j) (gp p i)=false
def Dn (lt:Nat->Nat->Bool) (p:Array Nat) (k:Nat):Prop:=∀ i j,i<=j->j<k->lt (gp p i) (gp p j)=false
theorem Ord.rf (O:Ord lt) (i:Nat):lt i i=false:=by
 cases h:lt i i with
 | false=>rfl
 | true=>exact absurd (O.as _ _ h) (by rw[h];exact fun w=>nomatch w)
theorem Up.snoc (O:Ord lt) {p:Array Nat}{k:Nat}(u:Up lt p k) (hk:1<=k) (h:lt (gp p k) (gp p (k - 1))=false):Up lt p (k+1):=fun i j hij hj=>by
 by_cases e:j=k
 ·subst e
  by_cases e2:i=j
  ·subst e2;exact O.rf _
  ·exact O.tr _ _ _ (u i (j - 1) (by omega) (by omega)) h
 ·exact u i j hij (by omega)
theorem Dn.snoc (O:Ord lt) {p:Array Nat}{k:Nat}(u:Dn lt p k) (hk:1<=k) (h:lt (gp p (k - 1)) (gp p k)=false):Dn lt p (k+1):=fun i j hij hj=>by
 by_cases e:j=k
 ·subst e
  by_cases e2:i=j
  ·subst e2;exact O.rf _
  ·exact O.tr _ _ _ h (u i (j - 1) (by omega) (by omega))
 ·exact u i j hij (by omega)
theorem Pm.size {p:Array Nat}(h:Pm n p):p.size=n:=by have:=h.length_eq;rw[Array.length_toList,zct9] at this;exact this
theorem zbj1 (O:Ord lt) (hn:0<n) {p:Array Nat}(h:Pm n p):∀ f m,1<=m->Up lt p m->KW lt n (fun r=>m<=r/\r<=m+f/\Up lt p r/\(r<m+f->lt (gp p r) (gp p (r - 1))=true)) (kas_asc p f m)
 | 0,m,_,u=>⟨zcr9 _,zcr9 _,u,fun z=>absurd z (zcx2 _)⟩
 | f+1,m,hm,u=>by
  refine⟨h.low hn _,h.low hn _,?_⟩
  dsimp only
  cases e:lt (p.getD m 0) (p.getD (m - 1) 0) with
  | true=>rw[if_pos rfl];exact⟨zcr9 _,zcv5 _ _,u,fun _=>e⟩
  | false=>
   rw[if_neg (by decide)]
   exact KW.mono (fun r hr=>⟨by omega,by omega,hr.2.2.1,fun z=>hr.2.2.2 (by omega)⟩) (zbj1 O hn h f (m+1) (by omega) (u.snoc O hm e))
def Al (lt:Nat->Nat->Bool) (p:Array Nat) (m q:Nat):Prop:=∀ i j,m - (q+1)<=i->i<=j->j<m->lt (gp p j) (gp p i)=false
theorem Dn.al_rev (O:Ord lt) {p:Array Nat}{m q:Nat}(hm:m<=p.size) (hq:q+1<=m) (d:Dn lt p m) (al:Al lt p m q):Dn lt (kas_rev p (m - (q+1)) m) m:=fun i j hij hj=>by
 rw[zw7 hm,zw7 hm]
 by_cases ci:m - (q+1)<=i/\i<m
 ·rw[if_pos ci,if_pos ⟨by omega,hj⟩]
  exact al _ _ (by omega) (by omega) (by omega)
 ·rw[if_neg ci]
  split
  ·exact d i _ (by omega) (by omega)
  ·exact d i j hij hj
theorem zap0 (O:Ord lt) (hn:0<n):∀ f (p:Array Nat) m q,Pm n p->m+f<=n->q+1<=m->Dn lt p m->Al lt p m q->KW lt n (fun r=>Pm n r.1/\m<=r.2.1/\r.2.1<=m+f/\r.2.2+1<=r.2.1/\Dn lt r.1 r.2.1/\Al lt r.1 r.2.1 r.2.2) (kas_desc f p m q)
 | 0,p,m,q,h,hf,hq,d,al=>⟨h,zcr9 _,zcr9 _,hq,d,al⟩
 | f+1,p,m,q,h,hf,hq,d,al=>by
  have hz:=h.size
  refine⟨h.low hn _,h.low hn _,?_⟩
  dsimp only
  cases e:lt (p.getD m 0) (p.getD (m - 1) 0) with
  | true=>
   rw[if_pos rfl]
   have al0:∀ p':Array Nat,Al lt p' (m+1) 0:=fun p' i j h1 h2 h3=>by
    have:i=j:=by omega
    subst this;exact O.rf _
   split
   ·rename_i q0
    refine KW.mono (fun r hr=>⟨hr.1,by omega,by omega,hr.2.2.2⟩) (zap0 O hn f _ (m+1) 0 (h.rev _ _) (by omega) (by omega) ?_ (al0 _))
    refine (d.al_rev O (by omega) hq al).snoc O (by omega) ?_
    rw[zw7 (by omega),zw7 (by omega),if_pos (by omega),if_neg (by omega),show m - (q+1)+m - 1 - (m - 1)=m - (q+1) by omega]
    exact O.tr _ _ _ (O.as _ _ e) (d _ _ (by omega) (by omega))
   ·exact KW.mono (fun r hr=>⟨hr.1,by omega,by omega,hr.2.2.2⟩) (zap0 O hn f p (m+1) 0 h (by omega) (by omega) (d.snoc O (by omega) (O.as _ _ e)) (al0 _))
  | false=>
   rw[if_neg (by decide)]
   refine⟨h.low hn _,h.low hn _,?_⟩
   dsimp only
   cases e2:lt (p.getD (m - 1) 0) (p.getD m 0) with
   | true=>rw[if_pos rfl];exact⟨h,zcr9 _,zcv5 _ _,hq,d,al⟩
   | false=>
    rw[if_neg (by decide)]
    refine KW.mono (fun r hr=>⟨hr.1,by omega,by omega,hr.2.2.2⟩) (zap0 O hn f p (m+1) (q+1) h (by omega) (by omega) (d.snoc O (by omega) e2) ?_)
    intro i j h1 h2 h3
    by_cases ej:j=m
    ·subst ej
     by_cases ei:i=j
     ·subst ei;exact O.rf _
     ·exact O.tr _ _ _ (al i (j - 1) (by omega) (by omega) (by omega)) e
    ·exact al i j (by omega) h2 (by omega)
theorem Dn.rev {p:Array Nat}{m:Nat}(hm:m<=p.size) (d:Dn lt p m):Up lt (kas_rev p 0 m) m:=fun i j hij hj=>by
 rw[zw7 hm,zw7 hm,if_pos (by omega),if_pos (by omega)]
 exact d _ _ (by omega) (by omega)
theorem zbk3 (O:Ord lt) (hn:0<n) {m:Nat}{p:Array Nat}(h:Pm n p) (hm:m<=n) (m1:1<=m) (d:Dn lt p m):KW lt n (fun x=>Pm n x.2/\1<=x.1/\x.1<=n/\Up lt x.2 x.1) (kas_tail3 m n p):=
 KW.bd (KW.mono (fun r hr=>⟨h.rev 0 m,by omega,by omega,hr.2.2.1⟩) (zbj1 O hn (h.rev 0 m) (n - m) m m1 (d.rev (by rw[h.size];exact hm))))
theorem zbt1 (O:Ord lt) (hn:0<n) {m:Nat}{p:Array Nat}(h:Pm n p) (hm:m+1<=n) (d:Dn lt p (m+1)):KW lt n (fun x=>Pm n x.2/\1<=x.1/\x.1<=n/\Up lt x.2 x.1) (kas_descPart m n p):=by
 refine KW.bd (KW.mono (fun r hr=>?_) (zap0 O hn (n - (m+1)) p (m+1) 0 h (by omega) (by omega) d fun i j h1 h2 h3=>?_))
 ·obtain⟨r1,r2,r3,r4,r5,r6⟩:=hr
  split
  ·exact zbk3 O hn (r1.rev _ _) (by omega) (by omega) (r5.al_rev O (by rw[Pm.size r1];omega) r4 r6)
  ·exact zbk3 O hn r1 (by omega) (by omega) r5
 ·have:i=j:=by omega
  subst this;exact O.rf _
theorem zbw9 (O:Ord lt) (hn:0<n) {p:Array Nat}(h:Pm n p):KW lt n (fun x=>Pm n x.2/\1<=x.1/\x.1<=n/\Up lt x.2 x.1) (kas_count n p):=by
 have u1:Up lt p 1:=fun i j h1 h2=>by
  have:i=j:=by omega
  subst this;exact O.rf _
 refine KW.bd (KW.mono (fun r hr=>?_) (zbj1 O hn h (n - 1) 1 (zcr9 _) u1))
 obtain⟨r1,r2,r3,r4⟩:=hr
 by_cases c:(r==n)=true
 ·rw[if_pos c]
  exact⟨h,r1,by omega,r3⟩
 ·rw[if_neg c]
  have rn:r<n:=by
   have:r≠n:=fun z=>c (by rw[z];exact beq_self_eq_true n)
   omega
  by_cases c2:r>1
  ·rw[if_pos c2]
   refine⟨h.low hn _,h.low hn _,?_⟩
   dsimp only
   cases e:lt (p.getD 0 0) (p.getD (r - 1) 0) with
   | true=>rw[if_pos rfl];exact⟨h,r1,by omega,r3⟩
   | false=>
    rw[if_neg (by decide)]
    have hz:r<=p.size:=by rw[Pm.size h];omega
    have st:=r4 (by omega)
    refine zbt1 O hn (h.rev 0 r) (by omega) (Dn.snoc O (fun i j hij hj=>?_) (by omega) ?_)
    ·rw[zw7 hz,zw7 hz,if_pos (by omega),if_pos (by omega)]
     exact r3 _ _ (by omega) (by omega)
    ·rw[zw7 hz,zw7 hz,if_pos (by omega),if_neg (by omega),show 0+r - 1 - (r - 1)=0 by omega]
     exact O.tr _ _ _ (O.as _ _ st) e
  ·rw[if_neg c2]
   have r0:r=1:=by omega
   subst r0
   have st:=r4 (by omega)
   exact zbt1 O hn h (by omega) (Dn.snoc O (fun i j hij hj=>by
    have:i=j:=by omega
    subst this;exact O.rf _) (zcr9 _) (O.as _ _ st))
theorem zal8 (O:Ord lt) (hn:0<n) {p:Array Nat}(h:Pm n p) (k:Nat) (u:Up lt p k):∀ f l r,l<=r->r<=k->r<=l+f->(∀ i,i<l->lt (gp p k) (gp p i)=false)->(∀ i,r<=i->i<k->lt (gp p k) (gp p i)=true) ->
  KW lt n (fun x=>x<=k/\(∀ i,i<x->lt (gp p k) (gp p i)=false)/\∀ i,x<=i->i<k->lt (gp p k) (gp p i)=true) (kas_place p k f l r)
 | 0,l,r,h1,h2,h3,a,b=>by
  have:r=l:=by omega
  subst this
  exact⟨h2,a,b⟩
 | f+1,l,r,h1,h2,h3,a,b=>by
  unfold kas_place
  by_cases c:l≥r
  ·rw[if_pos c]
   have:r=l:=by omega
   subst this
   exact⟨h2,a,b⟩
  ·rw[if_neg c]
   refine⟨h.low hn _,h.low hn _,?_⟩
   dsimp only
   cases e:lt (p.getD k 0) (p.getD ((l+r) / 2) 0) with
   | true=>
    rw[if_pos rfl]
    refine zal8 O hn h k u f l ((l+r) / 2) (by omega) (by omega) (by omega) a fun i hi hk=>?_
    cases e2:lt (gp p k) (gp p i) with
    | true=>rfl
    | false=>
     have:=O.tr _ _ _ (u ((l+r) / 2) i hi hk) (show lt (gp p k) (gp p i)=false from e2)
     rw[show lt (gp p k) (gp p ((l+r) / 2))=true from e] at this
     cases this
   | false=>
    rw[if_neg (by decide)]
    refine zal8 O hn h k u f ((l+r) / 2+1) r (by omega) h2 (by omega) (fun i hi=>?_) b
    exact O.tr _ _ _ (u i ((l+r) / 2) (by omega) (by omega)) e
theorem up_bub (O:Ord lt) {p:Array Nat}{k l:Nat}(hk:k<p.size) (u:Up lt p k) (hl:l<=k) (a:∀ i,i<l->lt (gp p k) (gp p i)=false) (b:∀ i,l<=i->i<k->lt (gp p k) (gp p i)=true):Up lt (bubble p k (k - l)) (k+1):=fun i j hij hj=>by
 rw[zcc0 hk hl,zcc0 hk hl]
 by_cases ci:i=l
 ·rw[if_pos ci]
  by_cases cj:j=l
  ·rw[if_pos cj];exact O.rf _
  ·rw[if_neg cj,if_pos (by omega)]
   exact O.as _ _ (b (j - 1) (by omega) (by omega))
 ·rw[if_neg ci]
  by_cases cj:j=l
  ·rw[if_pos cj,if_neg (by omega)]
   exact a i (by omega)
  ·rw[if_neg cj]
   by_cases di:l<i/\i<=k
   ·rw[if_pos di,if_pos (by omega)]
    exact u _ _ (by omega) (by omega)
   ·rw[if_neg di]
    by_cases dj:l<j/\j<=k
    ·rw[if_pos dj]
     exact u _ _ (by omega) (by omega)
    ·rw[if_neg dj]
     exact u _ _ hij (by omega)
theorem zca7 (O:Ord lt) (hn:0<n):∀ f (p:Array Nat) k,Pm n p->k+f=n->Up lt p k->KW lt n (fun p'=>Pm n p'/\Up lt p' n) (kas_bin f p k)
 | 0,p,k,h,e,u=>by
  have:k=n:=by omega
  subst this
  exact⟨h,u⟩
 | f+1,p,k,h,e,u=>by
  refine KW.bd (KW.mono (fun l hl=>?_) (zal8 O hn h k u k 0 k (zcu4 _) (zcr9 _) (by omega) (fun i hi=>absurd hi (Nat.not_lt_zero _)) fun i h1 h2=>absurd h2 (by omega)))
  exact zca7 O hn f _ (k+1) (h.bub _ _) (by omega) (up_bub O (by rw[Pm.size h];omega) u hl.1 hl.2.1 hl.2.2)
theorem zcg5 (O:Ord lt) (hn:0<n):KW lt n (fun p=>Pm n p/\Up lt p n) (kas_sort n):=by
 have h0:Pm n (List.toArray (List.range n)):=List.Perm.refl _
 refine KW.bd (KW.mono (fun r hr=>?_) (zbw9 O hn h0))
 obtain⟨r1,r2,r3,r4⟩:=hr
 by_cases c:r.1<n
 ·rw[if_pos c,show max r.1 1=r.1 by omega]
  exact zca7 O hn _ _ _ r1 (by omega) r4
 ·rw[if_neg c]
  have e:r.1=n:=by omega
  exact⟨r1,e▸r4⟩
end
end L2
set_option maxHeartbeats 2000000
namespace L2
open PySem PySem.Spec PyProof.Rows PySem.W
theorem zap4 {x y:Int×Int}:ltP x y=true↔x.1<y.1∨(x.1=y.1/\x.2<y.2):=by
 unfold ltP
 by_cases e:x.1=y.1
 ·rw[if_pos (beq_iff_eq.mpr e)]
  by_cases e2:x.2=y.2
  ·rw[if_pos (beq_iff_eq.mpr e2)]
   exact⟨(fun h=>by cases h),fun h=>by omega⟩
  ·rw[if_neg (fun h=>e2 (beq_iff_eq.mp h)),decide_eq_true_iff]
   exact⟨fun h=>.inr ⟨e,h⟩,fun h=>by omega⟩
 ·rw[if_neg (fun h=>e (beq_iff_eq.mp h)),decide_eq_true_iff]
  exact⟨fun h=>.inl h,fun h=>by omega⟩
theorem zag8 {x y:Int×Int}:ltP x y=false↔¬ (x.1<y.1∨(x.1=y.1/\x.2<y.2)):=by
 rw[← zap4]
 cases ltP x y<;>simp
theorem ord_P (xs:Nat->Int×Int):Ord (fun i j=>ltP (xs i) (xs j)) where
 as:=fun i j h=>by
  have h:=zap4.mp h
  exact zag8.mpr (by omega)
 tr:=fun i j k h1 h2=>by
  have h1:=zag8.mp h1
  have h2:=zag8.mp h2
  exact zag8.mpr (by omega)
section
variable {prog:Program}{w:World}{A:Around}{E:Value->Shared->Prop}{s:Shared}
theorem zbn7 {D:Addr}{vs:List Value}{xs:Nat->Int×Int}{P:PySem.Fin->Shared->Prop}(ho:s.heap.get? D=some (seqObj "list" vs.toArray 0)) (h64:vs.length<64)
  (H:∀ i,i<vs.length->TupI s.heap (vs.getD i Value.none) (xs i))
  (h:∀ (p:List Nat) (c:Nat) (hF:Heap),p.Perm (List.range vs.length)->p.Pairwise (fun i j=>ltP (xs j) (xs i)=false)->(∀ b o,b≠D->s.heap.get? b=some o->hF.get? b=some o)->hF.get? D=some (seqObj "list" (List.toArray (p.map fun i=>vs.getD i Value.none)) c)->P (.done (.ret .none)) { s with heap:=hF }) :
  wpAny (model prog w) A (Builtin.«list.sort» ⟨[.ref D],[]⟩) P E s:=by
 by_cases h2:vs.length<2
 ·refine zby1 ho h2 ?_
  obtain⟨c,hc⟩:=zaq7 (vs:=vs) (out:=vs.toArray) ho
  refine h (List.range vs.length) c _ (List.Perm.refl _) ?_ (fun b o ne e=>zak9 ne e) ?_
  ·have:vs.length=0∨vs.length=1:=by omega
   rcases this with e|e<;>rw[e]
   ·exact List.Pairwise.nil
   ·exact List.pairwise_singleton _ _
  ·rw[hc]
   have e:(List.range vs.length).map (fun i=>vs.getD i Value.none)=vs:=by
    apply zcy6 (by simp)
    intro i h1 h2
    simp at h1 h2
    simp[h2]
   rw[e]
 ·have old:∀ v,v∈vs->∃ i,i<vs.length/\vs.getD i Value.none=v:=fun v hv=>by
   obtain⟨i,hi,e⟩:=List.mem_iff_getElem.mp hv
   exact⟨i,hi,by simp[hi,e]⟩
  have nD:∀ {v:Value}{x:Int×Int},TupI s.heap v x->TupI (midH s.heap D vs) v x:=fun {v x} z=>by
   obtain⟨a,o,t,u,n,e,e1,e2,e3⟩:=z
   refine⟨a,o,t,u,n,e,zbi7 (fun q=>?_) e1,e2,e3⟩
   rw[q,ho] at e1
   cases e1
   have e2':Value.type "list"=Value.type "tuple":=e2
   exact absurd e2' (by decide)
  refine zcc8 (κ:=tuples' true) (lt:=fun i j=>ltP (xs i) (xs j)) ho (by omega) h64 (fun Q q=>zbs1 (s:={ s with heap:=midH s.heap D vs }) (fun v hv=>?_) (by omega) q) (fun i j C li lj q=>zcj1 (s:={ s with heap:=midH s.heap D vs }) (nD (H i li)) (nD (H j lj)) q) (zcg5 (ord_P xs) (by omega)) fun p pz pR=>?_
  ·obtain⟨i,hi,rfl⟩:=old v hv
   exact⟨_,nD (H i hi)⟩
  ·obtain⟨c,hc⟩:=zaq7 (vs:=vs) (out:=List.toArray (p.toList.map fun i=>vs.getD i Value.none)) ho
   refine h p.toList c _ pR.1 ?_ (fun b o ne e=>zak9 ne e) hc
   rw[List.pairwise_iff_getElem]
   intro i j hi hj hij
   rw[Array.length_toList] at hi hj
   have:=pR.2 i j (Nat.le_of_lt hij) (by omega)
   unfold gp at this
   simpa [Array.getD,hi,hj] using this
theorem zax3 {d:Addr}{es:Array DictEntry}{ep:Nat}{xs:Nat->Int×Int}{Q:Value->Shared->Prop}(lo:(d==sysModules)=false) (hh:A.handled=none) (x:RawD s.heap d es ep) (h64:es.size<64)
  (H:∀ i e,es[i]?=some e->TupI s.heap e.key (xs i))
  (h:∀ (h1 hF:Heap) (tk c:Nat) (p:List Nat) (vs:List Value),(∀ b o,s.heap.get? b=some o->h1.get? b=some o)->(∀ b o,h1.get? b=some o->hF.get? b=some o)->p.Perm (List.range es.size)->p.Pairwise (fun i j=>ltP (xs j) (xs i)=false)->vs=es.toList.map (·.key) ->
   hF.get? h1.objs.size=some (seqObj "list" (List.toArray (p.map fun i=>vs.getD i Value.none)) c)->Q (.ref h1.objs.size) { s with heap:=hF,toks:=tk }) :
  wpAny (model prog w) A (call (.builtin "sorted") [.ref d]) Q E s:=by
 have zl:es.size<=sizeLine:=by rw[sizeLine_eq];omega
 refine Calls.call_function_entry kind_sorted plain_sorted entry_sorted (args_sorted1 _) ?_
 unfold Builtin.«sorted»
 refine wpAny_bind (m:=checkCount "sorted" 1 1 _) (wpAny_pure (wpAny_bind (kdu_collect (A:=A.in1) (zcf3 lo) hh x zl fun h1 tk acc k1 it=>?_)))
 have len:acc.toList.length=es.size:=by rw[Array.length_toList];exact it.1
 have ev:acc.toList=es.toList.map (·.key):=by
  apply zcy6 (by rw[len,zcq3,Array.length_toList])
  intro i a1 a2
  rw[Array.length_toList] at a1
  obtain⟨e,e1,e2⟩:=it.2 i acc[i] (by simp[a1])
  simp only[Array.getElem_toList,List.getElem_map]
  rw[e2]
  obtain⟨q1,q2⟩:=Array.getElem?_eq_some_iff.mp e1
  rw[← q2]
 refine wpAny_bind (wpAny_newList ?_ (by rw[len];exact zl))
 have hD:(h1.push (seqObj "list" acc.toList.toArray 0)).get? h1.objs.size=some (seqObj "list" acc.toList.toArray 0):=zcs4 _ rfl
 show wpAny (model prog w) _ _ _ _ { s with heap:=h1.push (seqObj "list" acc.toList.toArray 0),toks:=tk }
 refine wpAny_bind (wpAny_holding (wpAny_call_entry slot_list_sort ⟨_,hD,rfl⟩ entry_list_sort (zbn7 (xs:=xs) (s:={ s with heap:=h1.push (seqObj "list" acc.toList.toArray 0),toks:=tk }) hD (by rw[len];exact h64) (fun i hi=>?_) fun p c hF pp po kF eF=>⟨_,rfl,?_⟩) (args_list_sort _)))
 ·rw[len] at hi
  have z:=(H i es[i] (by simp[hi])).to k1
  have e:acc.toList.getD i Value.none=es[i].key:=by rw[ev];simp[hi]
  rw[e]
  exact z.to fun b o q=>zcq9 _ q
 ·refine wpAny_pure ⟨_,rfl,h h1 hF tk c p acc.toList k1 (fun b o e=>kF b o (zct6 (zcs0 e)) (zcq9 _ e)) (by rw[← len];exact pp) po ev eF⟩
end
section
variable {X:Cx}{K:zcq5}
def OrdK (ks:List (Int×Int)):Prop:=ks.Nodup/\ks.Pairwise (fun x y=>ltP x y=true)
@[irreducible] def rSoO (a:Addr) (H:Hp) (Q:VK):Prop:=∃ kvs:List ((Int×Int)×V),H a=some (.dT (kvs.map fun z=>(pK z.1,z.2)))/\kvs.length<64 /\
 ∀ p H' (bs:List Addr) (ks:List (Int×Int)),H p=none->Same H H'->ks.Perm (kvs.map (·.1))->OrdK ks->Paired (fun b x=>H' b=some (.tup [.int x.1,.int x.2])) bs ks->H' p=some (.lst (bs.map V.ref))->Q (.ref p) H'
def rSoOM:List V->Hp->VK->Prop:=fun xs H Q=>match xs with
 | [.ref p]=>rSoO p H Q
 | _=>False
theorem soO_rd {a:Addr}{H:Hp}{Q:VK}{kvs:List ((Int×Int)×V)}(h:H a=some (.dT (kvs.map fun z=>(pK z.1,z.2)))) (hl:kvs.length<64)
  (q:∀ p H' (bs:List Addr) (ks:List (Int×Int)),H p=none->Same H H'->ks.Perm (kvs.map (·.1))->OrdK ks->Paired (fun b x=>H' b=some (.tup [.int x.1,.int x.2])) bs ks->H' p=some (.lst (bs.map V.ref))->Q (.ref p) H'):rSoO a H Q:=by unfold rSoO;exact⟨kvs,h,hl,q⟩
theorem zcd1 {ks:List (Int×Int)}(nd:ks.Nodup) (h:ks.Pairwise (fun x y=>ltP y x=false)):OrdK ks:=by
 refine⟨nd,?_⟩
 refine List.Pairwise.imp (fun {x y} z=>?_) (List.Pairwise.and nd h)
 have z2:=zag8.mp z.2
 refine zap4.mpr ?_
 have ne:¬ (x.1=y.1/\x.2=y.2):=fun w=>z.1 (Prod.ext w.1 w.2)
 omega
theorem cSortO (hc:X.calm=true):zp7 X (.builtin "sorted") rSoOM:=fun pins s σ H xs us Q I r h=>by
 unfold rSoOM at h
 split at h
 ·rename_i p
  unfold rSoO at h
  obtain⟨kvs,h1,h2,h3⟩:=h
  obtain⟨u1,rfl,rx⟩:=zac3 r
  cases rx
  obtain⟨zl,lo,ys,kt,o,es,ep,e1,e2,e3,e4,e5⟩:=dt_of I.hok h1
  have lk:ys.length=kvs.length:=by have:=Paired.length kt;rw[zcq3] at this;exact this.symm
  have le:es.size=kvs.length:=by rw[← Array.length_toList,e4,zcq3,lk]
  have at_:∀ i,(hi:i<kvs.length)->∃ b v,ys[i]?=some (pK kvs[i].1,b,v)/\H b=some (.tup [.int kvs[i].1.1,.int kvs[i].1.2]):=fun i hi=>by
   have hy:i<ys.length:=lk▸hi
   have z:=zar8 kt i (pK kvs[i].1,kvs[i].2) ys[i] (by simp[hi]) (by simp[hy])
   refine⟨ys[i].2.1,ys[i].2.2,?_,z.2.1⟩
   rw[zcq4 hy]
   have z1:pK kvs[i].1=ys[i].1:=z.1
   rw[z1]
  have ke:∀ i e,es[i]?=some e->∃ hi:i<kvs.length,∃ b v,ys[i]?=some (pK kvs[i].1,b,v)/\e.key=.ref b/\H b=some (.tup [.int kvs[i].1.1,.int kvs[i].1.2]):=fun i e q=>by
   obtain⟨q1,q2⟩:=Array.getElem?_eq_some_iff.mp q
   have hi:i<kvs.length:=le▸q1
   obtain⟨b,v,y1,y2⟩:=at_ i hi
   refine⟨hi,b,v,y1,?_,y2⟩
   rw[← Array.getElem?_toList,e4,zcq8,y1] at q
   simp only[Option.map_some,Option.some.injEq] at q
   rw[← q];rfl
  refine zax3 (xs:=fun i=>((kvs.map (·.1))[i]?).getD (0,0)) lo (I.ok.hd hc) (d:=p) (es:=es) (ep:=ep) ⟨o,e1,e2,e3⟩ (by omega) (fun i e q=>?_) fun h' hF tk c pm vs k1 kF pp po ev eF=>?_
  ·obtain⟨hi,b,v,_,q2,q3⟩:=ke i e q
   obtain⟨_,its,rv,ob,b1,b2,n,b3⟩:=(show zi2 X.prog X.w H s.heap b (.tup [.int kvs[i].1.1,.int kvs[i].1.2]) from I.hok b _ q3)
   obtain⟨v1,v2,rfl,w1,w2⟩:=zbo1 rv
   obtain⟨t1,rfl⟩:=w1
   obtain⟨t2,rfl⟩:=w2
   have ex:((kvs.map (·.1))[i]?).getD (0,0)=kvs[i].1:=by simp[hi]
   rw[ex,q2]
   exact⟨b,ob,t1,t2,n,rfl,b1,b2,b3⟩
  ·have hp:p<s.heap.objs.size:=zcs0 e1
   have I1:Inv X pins σ H { s with heap:=h',toks:=tk }:=I.kept k1
   have fr:H h'.objs.size=none:=I1.fresh
   let as:List Addr:=pm.map fun i=>((ys[i]?).map (·.2.1)).getD 0
   have mem:∀ i,i∈pm->i<kvs.length:=fun i hi=>by have:=zcu9.mp (pp.mem_iff.mp hi);omega
   have vals:(pm.map fun i=>vs.getD i Value.none)=as.map Value.ref:=by
    rw[zct5]
    refine zcs6 fun i hi=>?_
    have hi':=mem i hi
    have hes:i<es.size:=by omega
    obtain⟨_,b,v,y1,y2,_⟩:=ke i es[i] (by simp[hes])
    rw[ev]
    simp[hes,y1,y2]
   have rl:Vals (as.map V.ref) (as.map Value.ref):=by
    generalize as=l
    induction l with
    | nil=>exact .nil
    | cons a l ih=>exact .cons rfl ih
   have lz:as.length<=sizeLine:=by
    show (pm.map _).length<=_
    rw[zcq3,pp.length_eq,zct9,sizeLine_eq];omega
   refine⟨.ref _,_,I1.laid (h':=hF) (t':=tk) (o:=.lst (as.map V.ref)) kF (zcr9 _) ?_,rfl,h3 _ _ as (pm.map fun i=>((kvs.map (·.1))[i]?).getD (0,0)) fr (Same.upd fr) ?_ (zcd1 ?_ ?_) ?_ zc2⟩
   ·exact⟨by rw[zcq3];exact lz,as.map Value.ref,c,rl,by rw[eF,vals]⟩
   ·have e:(List.range kvs.length).map (fun i=>((kvs.map (·.1))[i]?).getD (0,0))=kvs.map (·.1):=by
     apply zcy6 (by simp)
     intro i a1 a2
     simp at a1
     simp[a1]
    have q:=(show pm.Perm (List.range kvs.length) from le▸pp).map fun i=>((kvs.map (·.1))[i]?).getD (0,0)
    rw[e] at q
    exact q
   ·have e:(List.range kvs.length).map (fun i=>((kvs.map (·.1))[i]?).getD (0,0))=kvs.map (·.1):=by
     apply zcy6 (by simp)
     intro i a1 a2
     simp at a1
     simp[a1]
    have q:=(show pm.Perm (List.range kvs.length) from le▸pp).map fun i=>((kvs.map (·.1))[i]?).getD (0,0)
    rw[e] at q
    refine q.nodup_iff.mpr ?_
    have nk:((kvs.map fun z=>(pK z.1,z.2)).map (·.1)).Nodup:=by
     have:(kvs.map fun z=>(pK z.1,z.2)).map (·.1)=ys.map (·.1):=by
      apply zcy6 (by rw[zcq3,zcq3,zcq3,lk])
      intro i a1 a2
      rw[zcq3,zcq3] at a1
      obtain⟨b,v,y1,_⟩:=at_ i a1
      have hy:i<ys.length:=lk▸a1
      rw[zcq4 hy] at y1
      simp only[List.getElem_map]
      rw[Option.some.inj y1]
     rw[this];exact e5.2
    rw[zct5] at nk
    have:(kvs.map (Prod.fst∘fun z=>(pK z.1,z.2)))=(kvs.map (·.1)).map pK:=by rw[zct5];rfl
    rw[this] at nk
    exact List.Pairwise.of_map pK (fun a b h e=>h (by rw[e])) nk
   ·rw[List.pairwise_map]
    exact po
   ·refine zaq6 (by rw[zcq3,zcq3]) fun i a x q1 q2=>?_
    rw[zcq8] at q1 q2
    obtain⟨j,j1,j2⟩:=zcr1.mp q1
    rw[j1] at q2
    have hj:=mem j (zcr0 j1)
    obtain⟨b,v,y1,y2⟩:=at_ j hj
    rw[y1] at j2
    have j3:b=a:=j2
    have ex:kvs[j].1=x:=by simpa [hj] using q2
    rw[← j3,← ex]
    exact (Same.upd fr) b _ y2
 ·exact h.elim
end
end L2
set_option maxHeartbeats 4000000
namespace L2
open PySem PySem.Spec PyProof.Rows
section
variable {X:Cx}{K:zcq5}{H:Hp}{Q:VK}
def ExA (H:Hp) (e D:Addr):Prop:=H e=some (excO e (.ref D) none)∨∃ d fs,H e=some (excO e (.ref D) (some d))/\H d=some (.xd fs)
theorem ExA.same {H H':Hp}{e D:Addr}(x:ExA H e D) (s:Same H H'):ExA H' e D:=by
 rcases x with x|⟨d,fs,x,y⟩
 ·exact .inl (s _ _ x)
 ·exact .inr ⟨d,fs,s _ _ x,s _ _ y⟩
end
section
variable {X:Cx}{pins:List (Addr×Obj)}{σ:St}{H:Hp}{s:Shared}
end
end L2
set_option maxHeartbeats 4000000
namespace L2
open PySem PySem.Spec PyProof.Rows
mutual
inductive ShV (H:Hp):V->PyData->Prop
 | non:ShV H .non .none
 | bl (b:Bool):ShV H (.bl b) (.bool b)
 | int (i:Int):ShV H (.int i) (.int i)
 | str (x:Str):ShV H (.str x) (.str x)
 | lst {a:Addr}{xs:List V}{ds:List PyData}:H a=some (.lst xs)->ShL H xs ds->ShV H (.ref a) (.list ds)
 | tup {a:Addr}{xs:List V}{ds:List PyData}:H a=some (.tup xs)->ShL H xs ds->ShV H (.ref a) (.tuple ds)
inductive ShL (H:Hp):List V->List PyData->Prop
 | nil:ShL H [] []
 | cons {x:V}{d:PyData}{xs:List V}{ds:List PyData}:ShV H x d->ShL H xs ds->ShL H (x :: xs) (d :: ds)
end
section
variable {X:Cx}{pins:List (Addr×Obj)}{σ:St}{H H':Hp}{s:Shared}{Q:VK}
mutual
theorem ShV.same {v:V}{d:PyData}(h:ShV H v d) (k:Same H H'):ShV H' v d:=match h with
 | .non=>.non
 | .bl b=>.bl b
 | .int i=>.int i
 | .str x=>.str x
 | .lst e l=>.lst (k _ _ e) (l.same k)
 | .tup e l=>.tup (k _ _ e) (l.same k)
theorem ShL.same {xs:List V}{ds:List PyData}(h:ShL H xs ds) (k:Same H H'):ShL H' xs ds:=match h with
 | .nil=>.nil
 | .cons a b=>.cons (a.same k) (b.same k)
end
theorem ShL.len {xs:List V}{ds:List PyData}(h:ShL H xs ds):xs.length=ds.length:=match h with
 | .nil=>rfl
 | .cons _ b=>by rw[zct0,zct0,b.len]
mutual
theorem ShV.reads (I:Inv X pins σ H s) {v:V}{d:PyData}{u:Value}(h:ShV H v d) (r:RelV v u):∃ as,Reads s.heap u d as:=match h with
 | .non=>by cases (show u=Value.none from r);exact⟨_,.none⟩
 | .bl b=>by cases (show u=Value.bool b from r);exact⟨_,.bool b⟩
 | .int i=>by obtain⟨t,q⟩:=(show ∃ t,u=Value.int i t from r);cases q;exact⟨_,.int i t⟩
 | .str x=>by obtain⟨t,q⟩:=(show ∃ t,u=Value.str x t from r);cases q;exact⟨_,.str x t⟩
 | .lst (a:=a) (xs:=xs) e l=>by
  cases (show u=Value.ref a from r)
  obtain⟨_,us,n,rv,h1⟩:=(show zi2 X.prog X.w H s.heap a (.lst xs) from I.hok a _ e)
  obtain⟨as,ra⟩:=l.reads I rv
  exact⟨_,.list h1 rfl rfl (by simpa using ra)⟩
 | .tup (a:=a) (xs:=xs) e l=>by
  cases (show u=Value.ref a from r)
  obtain⟨_,us,rv,o,h1,h2,n,h3⟩:=(show zi2 X.prog X.w H s.heap a (.tup xs) from I.hok a _ e)
  obtain⟨as,ra⟩:=l.reads I rv
  exact⟨_,.tuple h1 h2 h3 (by simpa using ra)⟩
theorem ShL.reads (I:Inv X pins σ H s) {xs:List V}{ds:List PyData}{us:List Value}(h:ShL H xs ds) (r:Vals xs us):∃ as,ReadsAll s.heap us ds as:=match h,r with
 | .nil,.nil=>⟨_,.nil⟩
 | .cons a b,.cons r1 r2=>by
  obtain⟨as,ra⟩:=a.reads I r1
  obtain⟨bs,rb⟩:=b.reads I r2
  exact⟨_,.cons ra rb⟩
end
structure zs2 (d:PyData) (k m:Nat):Prop where
 ok:d.showable=true
 nd:d.hasDict=false
 dp:d.depth<=k
 ln:d.shown.length<=m
theorem zs2.up {d:PyData}{k m k' m':Nat}(h:zs2 d k m) (h1:k<=k') (h2:m<=m'):zs2 d k' m':=⟨h.ok,h.nd,zcv1 h.dp h1,zcv1 h.ln h2⟩
theorem zam6 {k m:Nat}:∀ {ds:List PyData},(∀ d∈ds,zs2 d k m)->PyData.showableAll ds=true/\PyData.hasDictAll ds=false/\PyData.depthAll ds<=k/\piled (PyData.shownAll ds)<=ds.length*(m+2)
 | [],_=>⟨rfl,rfl,zcu4 _,by simp[PyData.shownAll,piled]⟩
 | d :: ds,h=>by
  have h0:=h d (.head _)
  obtain⟨a1,a2,a3,a4⟩:=zam6 (ds:=ds) fun x hx=>h x (.tail _ hx)
  refine⟨by simp[PyData.showableAll,h0.ok,a1],by simp[PyData.hasDictAll,h0.nd,a2],?_,?_⟩
  ·have:=h0.dp
   simp only[PyData.depthAll]
   omega
  ·have:=h0.ln
   simp only[PyData.shownAll,piled_cons,zct0,Nat.succ_mul]
   omega
theorem zaf6:∀ (ts:List Str) (k:Nat) (acc:Str),(textFrom k acc ts).length<=acc.length+piled ts
 | [],_,acc=>by simp[textFrom,piled]
 | t :: ts,k,acc=>by
  have ih:=zaf6 ts (k+1) (acc++(if k>0 then ", " else "":String)++t)
  have e:(acc++(if k>0 then ", " else "":String)++t).length=acc.length+(if k>0 then 2 else 0)+t.length:=by
   rw[strLen_append,strLen_append]
   congr 2
   split<;>rfl
  rw[piled_cons]
  show (textFrom (k+1) _ ts).length<=_
  rw[e] at ih
  have e2:(if k>0 then 2 else 0)<=2:=by split<;>omega
  omega
theorem zs2.list {ds:List PyData}{k m:Nat}(h:∀ d∈ds,zs2 d k m):zs2 (.list ds) (k+1) (ds.length*(m+2)+2):=by
 obtain⟨a1,a2,a3,a4⟩:=zam6 h
 refine⟨by simpa [PyData.showable] using a1,by simpa [PyData.hasDict] using a2,by simp only[PyData.depth];omega,?_⟩
 have:=zaf6 (PyData.shownAll ds) 0 "["
 have e1:((("[":String):Str)).length=1:=rfl
 have e2:((("]":String):Str)).length=1:=rfl
 simp only[PyData.shown,listText,strLen_append]
 omega
theorem zs2.tuple {ds:List PyData}{k m:Nat}(h:∀ d∈ds,zs2 d k m):zs2 (.tuple ds) (k+1) (ds.length*(m+2)+4):=by
 obtain⟨a1,a2,a3,a4⟩:=zam6 h
 refine⟨by simpa [PyData.showable] using a1,by simpa [PyData.hasDict] using a2,by simp only[PyData.depth];omega,?_⟩
 have e1:((("(":String):Str)).length=1:=rfl
 have e3:((if (PyData.shownAll ds).length==1 then ",)" else ")":String):Str).length<=2:=by split<;>decide
 have e4:(Str.join ", " (PyData.shownAll ds)).length<=piled (PyData.shownAll ds):=by
  by_cases z:PyData.shownAll ds=[]
  ·rw[z];decide
  ·have:=join_length_add _ z;omega
 simp only[PyData.shown,tupleText,strLen_append]
 omega
theorem zs2.int {i:Int}(h:-(10 ^ 100)<=i) (h':i<=10 ^ 100):zs2 (.int i) 0 1921:=by
 have hl:i.natAbs.log2<1920:=by
  by_cases z:i.natAbs=0
  ·rw[z];decide
  ·rw[Nat.log2_lt z]
   have h1:i.natAbs<=10 ^ 100:=by omega
   exact Nat.lt_of_le_of_lt h1 (by decide +kernel)
 exact⟨by simpa [PyData.showable] using hl,rfl,by simp[PyData.depth],by simpa only [PyData.shown] using PyProof.Rows.int_text_len_1921 hl⟩
theorem zs2.non:zs2 .none 0 4:=⟨rfl,rfl,by simp[PyData.depth],by decide⟩
theorem ShL.of {xs:List V}(f:V->PyData) (h:∀ x∈xs,ShV H x (f x)):ShL H xs (xs.map f):=by
 induction xs with
 | nil=>exact .nil
 | cons x xs ih=>exact .cons (h x (.head _)) (ih fun y hy=>h y (.tail _ hy))
end
end L2
set_option maxHeartbeats 4000000
namespace L2
open PySem PySem.Spec PyProof.Rows
mutual
def sml:PyData->Bool
 | .none | .bool _ | .int _ | .str _=>true
 | .list xs | .tuple xs=>decide (xs.length<=1000)&&zal2 xs
 | .dict _=>false
def zal2:List PyData->Bool
 | []=>true
 | x :: xs=>sml x&&zal2 xs
end
theorem zv2:∀ {ds:List PyData},(∀ d∈ds,sml d=true)->zal2 ds=true
 | [],_=>rfl
 | d :: ds,h=>by simp[zal2,h d (.head _),zv2 fun x hx=>h x (.tail _ hx)]
theorem zal4:∀ {ds:List PyData},zal2 ds=true->∀ d∈ds,sml d=true
 | [],_,d,h=>by cases h
 | x :: ds,h,d,hd=>by
  simp only[zal2,zcs9] at h
  rcases zcs2.mp hd with rfl|hd
  ·exact h.1
  ·exact zal4 h.2 d hd
section
variable {H H':Hp}{K:zcq5}{Q:VK}
theorem ShL.idx:∀ {xs:List V}{ds:List PyData},xs.length=ds.length->(∀ (i:Nat) x d,xs[i]?=some x->ds[i]?=some d->ShV H x d)->ShL H xs ds
 | [],[],_,_=>.nil
 | [],_ :: _,h,_=>by simp at h
 | _ :: _,[],h,_=>by simp at h
 | x :: xs,d :: ds,h,k=>.cons (k 0 x d rfl rfl) (ShL.idx (by simpa using h) fun i y e h1 h2=>k (i+1) y e (by simpa using h1) (by simpa using h2))
theorem ShL.get:∀ {xs:List V}{ds:List PyData}(_:ShL H xs ds) (i:Nat) (x:V),xs[i]?=some x->∃ d,ds[i]?=some d/\ShV H x d
 | _,_,.nil,i,x,e=>by simp at e
 | _,_,.cons a b,0,x,e=>by cases (show some _=some x from e);exact⟨_,rfl,a⟩
 | _,_,.cons a b,i+1,x,e=>by
  obtain⟨d,e1,e2⟩:=ShL.get b i x (by simpa using e)
  exact⟨d,by simpa using e1,e2⟩
theorem ShL.ex {P:PyData->Prop}:∀ {xs:List V},(∀ x∈xs,∃ d,ShV H x d/\P d)->∃ ds,ShL H xs ds/\∀ d∈ds,P d
 | [],_=>⟨[],.nil,fun _ h=>by cases h⟩
 | x :: xs,h=>by
  obtain⟨d,h1,h2⟩:=h x (.head _)
  obtain⟨ds,h3,h4⟩:=ShL.ex (xs:=xs) fun y hy=>h y (.tail _ hy)
  refine⟨d :: ds,.cons h1 h3,fun e he=>?_⟩
  rcases zcs2.mp he with rfl|he
  ·exact h2
  ·exact h4 e he
def Rda (H:Hp) (v:V) (k m:Nat):Prop:=∃ d,ShV H v d/\sml d=true/\zs2 d k m
theorem Rda.same {v:V}{k m:Nat}(h:Rda H v k m) (s:Same H H'):Rda H' v k m:=by obtain⟨d,h1,h2,h3⟩:=h;exact⟨d,h1.same s,h2,h3⟩
theorem Rda.up {v:V}{k m k' m':Nat}(h:Rda H v k m) (h1:k<=k':=by omega) (h2:m<=m':=by omega):Rda H v k' m':=by obtain⟨d,a,b,c⟩:=h;exact⟨d,a,b,c.up h1 h2⟩
theorem Rda.int {i:Int}(h:-(10 ^ 100)<=i) (h':i<=10 ^ 100):Rda H (.int i) 0 1921:=⟨_,.int i,rfl,zs2.int h h'⟩
theorem Rda.non:Rda H .non 0 1921:=⟨_,.non,rfl,zs2.non.up (by omega) (by omega)⟩
theorem Rda.lst {a:Addr}{xs:List V}{k m:Nat}(e:H a=some (.lst xs)) (l:xs.length<=1000) (h:∀ x∈xs,Rda H x k m):Rda H (.ref a) (k+1) (xs.length*(m+2)+4):=by
 obtain⟨ds,h1,h2⟩:=ShL.ex (P:=fun d=>sml d=true/\zs2 d k m) h
 have hl:=h1.len
 refine⟨.list ds,.lst e h1,?_,?_⟩
 ·simp only[sml,zcs9,decide_eq_true_eq]
  exact⟨by omega,zv2 fun d hd=>(h2 d hd).1⟩
 ·have:=zs2.list (ds:=ds) (k:=k) (m:=m) fun d hd=>(h2 d hd).2
  rw[hl]
  exact this.up (zcr9 _) (by omega)
theorem Rda.tup {a:Addr}{xs:List V}{k m:Nat}(e:H a=some (.tup xs)) (l:xs.length<=1000) (h:∀ x∈xs,Rda H x k m):Rda H (.ref a) (k+1) (xs.length*(m+2)+4):=by
 obtain⟨ds,h1,h2⟩:=ShL.ex (P:=fun d=>sml d=true/\zs2 d k m) h
 have hl:=h1.len
 refine⟨.tuple ds,.tup e h1,?_,?_⟩
 ·simp only[sml,zcs9,decide_eq_true_eq]
  exact⟨by omega,zv2 fun d hd=>(h2 d hd).1⟩
 ·have:=zs2.tuple (ds:=ds) (k:=k) (m:=m) fun d hd=>(h2 d hd).2
  rw[hl]
  exact this
def isD (n:String):PyData->Bool
 | .none=>false
 | .bool _=>n=="bool" || n=="int"
 | .int _=>n=="int"
 | .str _=>n=="str"
 | .list _=>n=="list"
 | .tuple _=>n=="tuple"
 | .dict _=>n=="dict"
theorem zy1 {v:V}{d:PyData}{n:String}(h:ShV H v d) (hn:n="int"∨n="bool"∨n="list"∨n="tuple") (q:Q (.bl (isD n d)) H):zx2 K v (.ty n) H Q:=by
 rcases hn with rfl|rfl|rfl|rfl<;>cases h
 all_goals first
  | exact zcc9 q (by rfl)
  | exact zba4 q (by rfl)
  | exact zay7 q (by rfl)
  | exact zcg0 q (by rfl)
  | (rename_i e l;exact zan4 e q (by rfl))
  | (rename_i e l;exact zae7 e q (by rfl))
end
end L2
set_option maxHeartbeats 4000000
namespace L2
open PySem PySem.Spec PyProof.Rows
section
variable {X:Cx}{K:zcq5}{H:Hp}{Q:VK}
@[irreducible] def rInA (K:zcq5) (neg:Bool) (x:V) (p:Addr) (H:Hp) (Q:VK):Prop:=∃ xs,(SqL K H p xs∨SqT K H p xs)/\zx4 x=true/\xs.all zx4=true/\Q (.bl (if neg then !inV x xs else inV x xs)) H
def rInM (K:zcq5) (neg:Bool):R2:=fun x y H Q=>match y with
 | .ref p=>rInA K neg x p H Q
 | _=>False
theorem zch6 (hK:X.K=K):OpR X (compareOp .NotIn) (rInM K true):=by
 subst hK
 intro pins s σ H x y v u Q I rx ry h
 unfold rInM at h
 split at h
 ·unfold rInA at h
  obtain⟨xs,h1,h2,h3,h4⟩:=h
  exact zar1 pins s σ H _ _ v u Q I rx ry ⟨_,xs,rfl,h1,h2,h3,h4⟩
 ·exact h.elim
theorem zau6 {x:V}{p:Addr}{xs:List V}(h:SqT K H p xs) (h1:zx4 x=true) (h2:xs.all zx4=true) (q:Q (.bl (!inV x xs)) H):rInA K true x p H Q:=by unfold rInA;exact⟨xs,.inr h,h1,h2,q⟩
end
end L2
set_option maxHeartbeats 4000000
namespace L2
open PySem PySem.Spec PyProof.Rows PySem.W
section
variable {X:Cx}{K:zcq5}{H:Hp}{Q:VK}
@[irreducible] def rDNE (H:Hp) (Q:VK):Prop:=(∀ p H',H p=none->Same H H'->H' p=some (.dT [])->Q (.ref p) H')∨∀ p H',H p=none->Same H H'->H' p=some (.dK [])->Q (.ref p) H'
def tDNE:TE:=fun _ H Q=>rDNE H Q
theorem zbo7 {pos:Pos}:PE X (.Dict [] [] pos) tDNE:=fun pins s σ H Q I h=>by
 unfold tDNE rDNE at h
 rcases h with h|h
 ·exact zbx2 (pos:=pos) pins s σ H Q I fun p hp=>h p _ hp (Same.upd hp) zc2
 ·exact zbz0 (pos:=pos) pins s σ H Q I fun p hp=>h p _ hp (Same.upd hp) zc2
theorem zca9 (q:∀ p H',H p=none->Same H H'->H' p=some (.dT [])->Q (.ref p) H'):rDNE H Q:=by unfold rDNE;exact .inl q
theorem dnK_rd (q:∀ p H',H p=none->Same H H'->H' p=some (.dK [])->Q (.ref p) H'):rDNE H Q:=by unfold rDNE;exact .inr q
theorem zce4 {a:Addr}{P:Prop}{kvs:List (Key×V)}(e:H a=some (.dK kvs)) (p:P):rIsD a H P:=by unfold rIsD;exact⟨.inl ⟨kvs,.inl e⟩,p⟩
theorem zcc3 {a:Addr}{i:Int}{z:V}{kvs:List (Key×V)}(e:H a=some (.dK kvs)) (q:Q ((valV kvs (.inl i)).getD z) H):rDG2 a (.int i) z H Q:=by
 unfold rDG2
 exact⟨_,DGet.k (k:=.inl i) e,q⟩
theorem dpK_rd {a:Addr}{i:Int}{v:V}{N:Hp->Prop}{kvs:List (Key×V)}(e:H a=some (.dK kvs)) (hl:kvs.length<sizeLine) (q:∀ H',Chg a H H'->H' a=some (.dK (putK kvs (.inl i) v))->N H'):rDP a (.int i) v H N:=by
 unfold rDP
 exact⟨_,DPut.k (k:=.inl i) e hl,q _ Chg.upd zc2⟩
def dI (kv:List (Int×Int)):List (Key×V):=kv.map fun z=>(.inl z.1,.int z.2)
def valI (kv:List (Int×Int)) (i:Int):Option Int:=(kv.find? fun z=>decide (z.1=i)).map (·.2)
theorem zbs5 (i:Int):∀ kv:List (Int×Int),valV (dI kv) (.inl i)=(valI kv i).map V.int
 | []=>rfl
 | z :: kv=>by
  by_cases e:z.1=i
  ·show valV (((.inl z.1:Key),V.int z.2) :: dI kv) (.inl i)=_
   rw[zx9 (by exact congrArg Sum.inl e)]
   unfold valI
   rw[zcw4,decide_eq_true e];rfl
  ·show valV (((.inl z.1:Key),V.int z.2) :: dI kv) (.inl i)=_
   rw[zz4 (by exact fun q=>e (Sum.inl.inj q)),zbs5 i kv]
   unfold valI
   rw[zcw4,decide_eq_false e]
def eqDI (ka kb:List (Int×Int)):Bool:=ka.length==kb.length&&ka.all fun z=>valI kb z.1==some z.2
theorem zay3 {A:Around}{s:Shared}{kb:List (Int×Int)}{ws:List (Key×Value)}(rb:KV (dI kb) ws):∀ {ka:List (Int×Int)}{vs:List (Key×Value)},KV (dI ka) vs->KeqHits A s ws vs (ka.all fun z=>valI kb z.1==some z.2)
 | [],vs,r=>by
  unfold KV dI at r
  cases r
  exact .nil
 | z :: ka,vs,r=>by
  unfold KV dI at r
  rw[zcs8] at r
  cases r with
  | @cons p q ps qs h t=>
   obtain⟨h1,h2⟩:=h
   obtain⟨k,v⟩:=q
   cases (show (Sum.inl z.1:Key)=k from h1)
   have val:=rb.val (.inl z.1)
   rw[zbs5] at val
   rw[List.all_cons]
   cases e:valI kb z.1 with
   | none=>
    rw[e] at val
    have:valueAt ws (.inl z.1)=none:=by
     cases w:valueAt ws (.inl z.1) with
     | none=>rfl
     | some y=>rw[w] at val;exact val.elim
    have f:((none:Option Int)==some z.2)=false:=rfl
    rw[f,Bool.false_and]
    exact .miss this
   | some n=>
    rw[e] at val
    obtain⟨y,ey,ry⟩:∃ y,valueAt ws (.inl z.1)=some y/\RelV (.int n) y:=by
     cases w:valueAt ws (.inl z.1) with
     | none=>rw[w] at val;exact val.elim
     | some y=>rw[w] at val;exact⟨y,rfl,val⟩
    have q:=zbk6 (A:=A) (s:=s) (show RelV (.int z.2) v from h2) ry rfl rfl
    have e2:eqV (.int z.2) (.int n)=(some n==some z.2):=by
     by_cases d:z.2=n
     ·subst d;simp[eqV]
     ·have d':¬ n=z.2:=fun x=>d x.symm
      show (z.2==n)=(some n==some z.2)
      rw[beq_eq_false_iff_ne.mpr d]
      exact (beq_eq_false_iff_ne.mpr fun x=>d' (Option.some.inj x)).symm
    rw[e2] at q
    exact .hit ey q (zay3 rb t)
@[irreducible] def rEqX (K:zcq5) (x y:V) (H:Hp) (Q:VK):Prop:=
 (∃ a b n c,x=.ref a/\y=.ref b/\n<=40/\EqR K H n (.ref a) (.ref b) c/\Q (.bl c) H) ∨
 (∃ a b ka kb,x=.ref a/\y=.ref b/\H a=some (.dK (dI ka))/\H b=some (.dK (dI kb))/\Q (.bl (eqDI ka kb)) H) ∨
 ∃ d e,ShV H x d/\ShV H y e/\d.canLay0=true/\e.canLay0=true/\d.depth<=40/\Q (.bl (PyData.eqv d e)) H
def zbj6 (K:zcq5):R2:=fun x y H Q=>match x,y with
 | .int i,.int j=>Q (.bl (decide (i=j))) H
 | .bl i,.bl j=>Q (.bl (decide (i=j))) H
 | .str i,.str j=>Q (.bl (decide (i=j))) H
 | x,y=>rEqX K x y H Q
def rNeXM (K:zcq5):R2:=fun x y H Q=>zbj6 K x y H fun v H'=>match v with
 | .bl b=>Q (.bl (!b)) H'
 | _=>False
theorem oEqX (hu:X.A.units+40<cLine):OpR X (compareOp .Eq) (zbj6 X.K):=by
 intro pins s σ H x y v u Q I rx ry h
 unfold zbj6 at h
 split at h
 ·exact zbb0 pins s σ H _ _ v u Q I rx ry ⟨rfl,by rw[zp0 (f:=V.int) fun a b e=>V.int.inj e];exact h⟩
 ·exact zbb0 pins s σ H _ _ v u Q I rx ry ⟨rfl,by rw[zp0 (f:=V.bl) fun a b e=>V.bl.inj e];exact h⟩
 ·exact zbb0 pins s σ H _ _ v u Q I rx ry ⟨rfl,by rw[zp0 (f:=V.str) fun a b e=>V.str.inj e];exact h⟩
 ·unfold rEqX at h
  rcases h with ⟨a,b,n,c,rfl,rfl,hn,h1,h2⟩|⟨a,b,ka,kb,rfl,rfl,ea,eb,h⟩|⟨d,e,hd,he,cd,ce,dd,h⟩
  ·cases rx
   cases ry
   exact EqR.rc I h1 (A:=X.A) (by omega) _ _ _ _ ⟨.bl c,H,I,rfl,h2⟩
  ·cases rx
   cases ry
   obtain⟨_,sa,vs,ra,da⟩:=zbl7 I.hok ea
   obtain⟨_,sb,ws,rb,db⟩:=zbl7 I.hok eb
   refine keq_eq sa sb da db (by omega) (fun _=>zay3 rb ra) ⟨.bl (eqDI ka kb),H,I,?_,h⟩
   have la:vs.length=ka.length:=by rw[← ra.length];unfold dI;rw[zcq3]
   have lb:ws.length=kb.length:=by rw[← rb.length];unfold dI;rw[zcq3]
   rw[la,lb]
   rfl
  ·obtain⟨as,r1⟩:=hd.reads I rx
   obtain⟨bs,r2⟩:=he.reads I ry
   exact SeqAt.compareEq_reads r1 r2 cd ce (by have:=Nat.min_le_left d.depth e.depth;omega) ⟨.bl (PyData.eqv d e),H,I,rfl,h⟩
theorem oNeX (hu:X.A.units+40<cLine):OpR X (compareOp .NotEq) (rNeXM X.K):=by
 intro pins s σ H x y v u Q I rx ry h
 unfold rNeXM zbj6 at h
 split at h
 ·exact zay9 pins s σ H _ _ v u Q I rx ry ⟨rfl,by rw[zp0 (f:=V.int) fun a b e=>V.int.inj e];exact h⟩
 ·exact zay9 pins s σ H _ _ v u Q I rx ry ⟨rfl,by rw[zp0 (f:=V.bl) fun a b e=>V.bl.inj e];exact h⟩
 ·exact zay9 pins s σ H _ _ v u Q I rx ry ⟨rfl,by rw[zp0 (f:=V.str) fun a b e=>V.str.inj e];exact h⟩
 ·unfold rEqX at h
  rcases h with ⟨a,b,n,c,rfl,rfl,hn,h1,h2⟩|⟨a,b,ka,kb,rfl,rfl,ea,eb,h⟩|⟨d,e,hd,he,cd,ce,dd,h⟩
  ·cases rx
   cases ry
   exact EqR.rcNe I h1 (A:=X.A) (by omega) _ _ _ _ ⟨.bl (!c),H,I,rfl,h2⟩
  ·cases rx
   cases ry
   obtain⟨_,sa,vs,ra,da⟩:=zbl7 I.hok ea
   obtain⟨_,sb,ws,rb,db⟩:=zbl7 I.hok eb
   refine keq_ne sa sb da db (by omega) (fun _=>zay3 rb ra) ⟨.bl (!eqDI ka kb),H,I,?_,h⟩
   have la:vs.length=ka.length:=by rw[← ra.length];unfold dI;rw[zcq3]
   have lb:ws.length=kb.length:=by rw[← rb.length];unfold dI;rw[zcq3]
   rw[la,lb]
   rfl
  ·obtain⟨as,r1⟩:=hd.reads I rx
   obtain⟨bs,r2⟩:=he.reads I ry
   exact SeqAt.compareNe_reads r1 r2 cd ce (by have:=Nat.min_le_left d.depth e.depth;omega) ⟨.bl (!PyData.eqv d e),H,I,rfl,h⟩
theorem eqD_rd {a b:Addr}{ka kb:List (Int×Int)}(ea:H a=some (.dK (dI ka))) (eb:H b=some (.dK (dI kb))) (q:Q (.bl (eqDI ka kb)) H):rEqX K (.ref a) (.ref b) H Q:=by unfold rEqX;exact .inr (.inl ⟨a,b,ka,kb,rfl,rfl,ea,eb,q⟩)
end
end L2
set_option maxHeartbeats 4000000
namespace L2
open PySem PySem.Spec PyProof.Rows PySem.W
theorem zbq2 (l b:Addr) (x y:Int×Int) (t u t' u':Tok) (n n2:Nat) (dd dd2:Option Addr) (sl sl2:Array (Option Value)) :
  Meets (Builtin.«tuple.__lt__» ⟨[.ref l,.ref b],[]⟩)
   (fun A R s=>s.heap.get? l=some { cls:=.type "tuple",dict:=dd,data:=.seq #[.int x.1 t,.int x.2 u] n,slots:=sl }/\s.heap.get? b=some { cls:=.type "tuple",dict:=dd2,data:=.seq #[.int y.1 t',.int y.2 u'] n2,slots:=sl2 } /\
    R (.ok (.ret (.bool (ltP x y)))) s):=
 .of_wp fun prog w A R s h=>by
  obtain⟨hp,g,d,tk,os⟩:=s;obtain⟨hl,hb,h⟩:=h
  have f2:=AutoSeq1.sub_tuple_tuple
  wp_walk using wpAny_loadPart' hl,wpAny_loadPart' hb,wpAny_forIn_list _ (fun rest b s'=>b.1=none/\s'=⟨hp,g,d,tk,os⟩/\(rest=[(.int x.1 t,.int y.1 t'),(.int x.2 u,.int y.2 u')]∨(x.1=y.1/\rest=[(.int x.2 u,.int y.2 u')])∨(x.1=y.1/\x.2=y.2/\rest=[]))) _
  case turn=>
   rintro⟨p,q⟩ rest b s' ⟨hb',rfl,hz⟩
   rcases hz with hz|⟨e0,hz⟩|⟨_,_,hz⟩
   ·cases hz
    refine wpAny_bind (wpAny_eqBool_int ?_)
    cases e:(x.1==y.1)
    ·have h':R (Except.ok (Flow.ret (Value.bool (decide (x.1<y.1))))) ⟨hp,g,d,tk,os⟩:=by
      unfold ltP at h
      rw[if_neg (by rw[e];exact zcr2)] at h
      exact h
     simp only[Bool.not_false,if_true]
     refine wpAny_bind (wpAny_rule ?_)
     refine wpAny_bind ((lt_int (Q:=_) ?_:wpAny _ _ (compareOp .Lt _ _) _ _ _))
     wp_walk
     exact⟨_,rfl,h'⟩
    ·wp_walk
     exact⟨rfl,rfl,.inr (.inl ⟨by simpa using e,rfl⟩)⟩
   ·cases hz
    refine wpAny_bind (wpAny_eqBool_int ?_)
    cases e:(x.2==y.2)
    ·have h':R (Except.ok (Flow.ret (Value.bool (decide (x.2<y.2))))) ⟨hp,g,d,tk,os⟩:=by
      unfold ltP at h
      rw[if_pos (by rw[e0];exact beq_self_eq_true _),if_neg (by rw[e];exact zcr2)] at h
      exact h
     simp only[Bool.not_false,if_true]
     refine wpAny_bind (wpAny_rule ?_)
     refine wpAny_bind ((lt_int (Q:=_) ?_:wpAny _ _ (compareOp .Lt _ _) _ _ _))
     wp_walk
     exact⟨_,rfl,h'⟩
    ·wp_walk
     exact⟨rfl,rfl,.inr (.inr ⟨e0,by simpa using e,rfl⟩)⟩
   ·cases hz
  case fin=>
   rintro⟨b1,b2⟩ s' ⟨hb',rfl,hz⟩
   simp only at hb'
   subst hb'
   rcases hz with hz|⟨e0,hz⟩|⟨e0,e1,hz⟩
   ·cases hz
   ·cases hz
   ·have h':R (Except.ok (Flow.ret (Value.bool false))) ⟨hp,g,d,tk,os⟩:=by
     unfold ltP at h
     rw[if_pos (by rw[e0];exact beq_self_eq_true _),if_pos (by rw[e1];exact beq_self_eq_true _)] at h
     exact h
    wp_walk
    exact⟨_,rfl,h'⟩
  exact⟨rfl,rfl,.inl rfl⟩
section
variable {prog:Program}{w:World}{A:Around}{E:Value->Shared->Prop}{s:Shared}
theorem zbu6 {v v':Value}{x y:Int×Int}{Q:Value->Shared->Prop}(ha:TupI s.heap v x) (hb:TupI s.heap v' y) (hu:A.units<cLine) (h:Q (.bool (ltP x y)) s):wpAny (model prog w) A (compareOp .Lt v v') Q E s:=by
 obtain⟨a,⟨cls,dd,data,sl⟩,t,u,n,rfl,ho,hc,hd⟩:=ha
 obtain⟨b,⟨cls2,dd2,data2,sl2⟩,t',u',n2,rfl,ho2,hc2,hd2⟩:=hb
 simp only at hc hd hc2 hd2
 subst hc hd hc2 hd2
 exact richCompare_meets_room (op:=.Lt) ⟨_,ho,rfl⟩ ⟨_,ho2,rfl⟩ F.slot_tuple_lt F.entry_tuple_lt (F.args_tuple_lt_2 _ _) (zbq2 a b x y t u t' u' n n2 dd dd2 sl sl2)
  ⟨ho,ho2,show Value.bool (ltP x y)≠Value.notImplemented/\Q (.bool (ltP x y)) s from ⟨(fun x=>nomatch x),h⟩⟩ hu
end
section
variable {X:Cx}{K:zcq5}{H:Hp}{Q:VK}
def pV (x:Int×Int):List V:=[.int x.1,.int x.2]
@[irreducible] def rLtA (a b:Addr) (H:Hp) (Q:VK):Prop:=∃ x y:Int×Int,H a=some (.tup (pV x))/\H b=some (.tup (pV y))/\Q (.bl (ltP x y)) H
def rLtXM:R2:=fun x y H Q=>match x,y with
 | .int i,.int j=>Q (.bl (decide (i<j))) H
 | .ref a,.ref b=>rLtA a b H Q
 | _,_=>False
theorem zbl2 {pins:List (Addr×Obj)}{σ:St}{H:Hp}{s:Shared}{a:Addr}{x:Int×Int}(I:Inv X pins σ H s) (h:H a=some (.tup (pV x))):TupI s.heap (.ref a) x:=by
 obtain⟨_,its,rv,o,h1,h2,n,h3⟩:=(show zi2 X.prog X.w H s.heap a (.tup (pV x)) from I.hok a _ h)
 unfold pV at rv
 cases rv with
 | cons r1 rv=>
  cases rv with
  | cons r2 rv=>
   cases rv
   obtain⟨t,rfl⟩:=r1
   obtain⟨u,rfl⟩:=r2
   exact⟨a,o,t,u,n,rfl,h1,h2,h3⟩
theorem oLtX (hu:X.A.units+40<cLine):OpR X (compareOp .Lt) rLtXM:=by
 intro pins s σ H x y v u Q I rx ry h
 unfold rLtXM at h
 split at h
 ·exact op_lt pins s σ H _ _ v u Q I rx ry ⟨_,_,rfl,rfl,h⟩
 ·unfold rLtA at h
  obtain⟨x,y,ea,eb,h⟩:=h
  cases rx
  cases ry
  exact zbu6 (zbl2 I ea) (zbl2 I eb) (by omega) ⟨.bl (ltP x y),H,I,rfl,h⟩
 ·exact h.elim
theorem ltP_rd {a b:Addr}{x y:Int×Int}(ha:H a=some (.tup (pV x))) (hb:H b=some (.tup (pV y))) (q:Q (.bl (ltP x y)) H):rLtA a b H Q:=by unfold rLtA;exact⟨x,y,ha,hb,q⟩
@[irreducible] def rSlX (K:zcq5) (a:Addr) (lo hi:Option Int) (H:Hp) (Q:VK):Prop:=(∃ xs,SqL K H a xs/\∀ p H',H p=none->Same H H'->H' p=some (.lst (cutV xs lo hi))->Q (.ref p) H') ∨
 ∃ xs,SqT K H a xs/\¬ (HT.sIx xs.length 0 lo=0/\HT.sIx xs.length xs.length hi=xs.length)/\∀ p H',H p=none->Same H H'->H' p=some (.tup (cutV xs lo hi))->Q (.ref p) H'
def rSlXM (K:zcq5):V->Option Int->Option Int->Hp->VK->Prop:=fun x lo hi H Q=>match x with
 | .ref a=>rSlX K a lo hi H Q
 | _=>False
theorem slX:SlR X (rSlXM X.K):=by
 intro pins s σ H x v vl vu lo hi sl Q I rx hs pl pu h
 unfold rSlXM at h
 split at h
 ·unfold rSlX at h
  rcases h with ⟨xs,h1,q⟩|⟨xs,h1,h2,q⟩
  ·exact zci2 pins s σ H _ v vl vu lo hi sl Q I rx hs pl pu ⟨_,xs,rfl,h1,fun p hp=>q p _ hp (Same.upd hp) zc2⟩
  ·exact sl_tup pins s σ H _ v vl vu lo hi sl Q I rx hs pl pu ⟨_,xs,rfl,h1,h2,fun p hp=>q p _ hp (Same.upd hp) zc2⟩
 ·exact h.elim
theorem zal1 {a:Addr}{xs:List V}{lo hi:Option Int}(h:SqL K H a xs) (q:∀ p H',H p=none->Same H H'->H' p=some (.lst (cutV xs lo hi))->Q (.ref p) H'):rSlX K a lo hi H Q:=by unfold rSlX;exact .inl ⟨xs,h,q⟩
theorem zcc2 {a:Addr}{x y z:V}(h:H a=some (.tup [x,y,z])) (q:∀ p H',H p=none->Same H H'->H' p=some (.tup [x,y])->Q (.ref p) H'):rSlX K a none (some 2) H Q:=by
 unfold rSlX
 exact .inr ⟨[x,y,z],SqT.of h,(by decide:¬ (HT.sIx 3 0 none=0/\HT.sIx 3 3 (some 2)=3)),q⟩
theorem zai5 (hK:X.K=K) (hu:X.A.units+40<cLine):OpR X (compareOp .Eq) (zbj6 K):=by subst hK;exact oEqX hu
theorem oNeXK (hK:X.K=K) (hu:X.A.units+40<cLine):OpR X (compareOp .NotEq) (rNeXM K):=by subst hK;exact oNeX hu
theorem slXK (hK:X.K=K):SlR X (rSlXM K):=by subst hK;exact slX
def rIsXM:R2:=fun x y H Q=>match x,y with
 | .bl i,.bl j=>Q (.bl (decide (i=j))) H
 | x,.non=>Q (.bl (decide (x=.non))) H
 | _,_=>False
def zbc0:R2:=fun x y H Q=>match x,y with
 | .bl i,.bl j=>Q (.bl (!decide (i=j))) H
 | x,.non=>Q (.bl (!decide (x=.non))) H
 | _,_=>False
theorem zal3 (i j:Bool):isSame (.bool i) (.bool j)=pure (decide (i=j)):=by cases i<;>cases j<;>rfl
theorem oIsX:OpR X (compareOp .Is) rIsXM:=by
 intro pins s σ H x y v u Q I rx ry h
 unfold rIsXM at h
 split at h
 ·rename_i i j
  cases (show v=Value.bool i from rx)
  cases (show u=Value.bool j from ry)
  show wpAny _ _ (isSame (.bool i) (.bool j) >>= fun b=>pure (Value.bool b)) _ _ s
  rw[zal3]
  exact wpAny_bind (wpAny_pure (wpAny_pure ⟨.bl (decide (i=j)),H,I,rfl,h⟩))
 ·exact op_isN pins s σ H _ _ v u Q I rx ry ⟨rfl,h⟩
 ·exact h.elim
theorem zcj7:OpR X (compareOp .IsNot) zbc0:=by
 intro pins s σ H x y v u Q I rx ry h
 unfold zbc0 at h
 split at h
 ·rename_i i j
  cases (show v=Value.bool i from rx)
  cases (show u=Value.bool j from ry)
  show wpAny _ _ (isSame (.bool i) (.bool j) >>= fun b=>pure (Value.bool (!b))) _ _ s
  rw[zal3]
  exact wpAny_bind (wpAny_pure (wpAny_pure ⟨.bl (!decide (i=j)),H,I,rfl,h⟩))
 ·exact zcj8 pins s σ H _ _ v u Q I rx ry ⟨rfl,h⟩
 ·exact h.elim
theorem Wk.zipN {a b:Addr}{xs ys:List V}{n:Nat}{H1:Hp}(h:SqL K H1 a xs) (h':SqL K H1 b ys) (hx:n<=xs.length) (hy:n<=ys.length) (hn:xs.length=n∨ys.length=n):Wk (Itz K a b) n H1 fun i v H=>∃ p x y,v=.ref p/\H p=some (.tup [x,y])/\xs[i]?=some x/\ys[i]?=some y:=
 ⟨fun i H s hi=>⟨xs,ys,xs[i],ys[i],s.seq h,s.seq h',by simp,by simp⟩,fun H s=>⟨xs,ys,s.seq h,s.seq h',by omega⟩,fun i H v H' s _ y=>by
  obtain⟨p,x,y,rfl,y1,y2,y3,y4,y5⟩:=y
  exact⟨y2,p,x,y,rfl,y3,y4 xs (s.seq h),y5 ys (s.seq h')⟩⟩
end
end L2
set_option maxHeartbeats 4000000
namespace L2
open PySem PySem.Spec PyProof.Rows PySem.W
section
variable {X:Cx}
end
section
variable {X:Cx}{K:zcq5}{H:Hp}{Q:VK}
end
end L2
set_option maxHeartbeats 2000000
namespace L2
open PySem PySem.Spec PyProof.Rows
section
variable {X:Cx}{K:zcq5}
end
end L2
set_option maxHeartbeats 4000000
namespace L2
open PySem PySem.Spec PyProof.Rows PySem.W
section
variable {prog:Program}{w:World}{A:Around}{E:Value->Shared->Prop}{s:Shared}
end
section
variable {X:Cx}{K:zcq5}{H:Hp}{Q:VK}
end
end L2
namespace L2
end L2
set_option maxHeartbeats 2000000
namespace L2
open PySem PySem.Spec PyProof.Rows PySem.W
section
variable {X:Cx}{K:zcq5}
@[irreducible] def rMaxL (K:zcq5) (p:Addr) (H:Hp) (Q:VK):Prop:=∃ ns:List Int,SqL K H p (ns.map V.int)/\0<ns.length/\∀ M:Int,M∈ns->(∀ a∈ns,a<=M)->Q (.int M) H
def zca2 (K:zcq5):List V->Hp->VK->Prop:=fun xs H Q=>match xs with
 | [.ref p]=>rMaxL K p H Q
 | [.int i,.int j]=>Q (.int (if j>i then j else i)) H
 | _=>False
theorem cMaxK (hK:X.K=K) (hc:X.calm=true):zp7 X (.builtin "max") (zca2 K):=by
 subst hK
 intro pins s σ H xs us Q I r h
 unfold zca2 at h
 split at h
 ·unfold rMaxL at h
  obtain⟨ns,h1,h2,h3⟩:=h
  obtain⟨u,rfl,rx⟩:=zac3 r
  cases rx
  obtain⟨its,r',pl,hz⟩:=I.list h1
  have hi:=zaa5 r'
  obtain⟨ys,hx⟩:=hi.allInts.items
  have e1:ns=ys.toList.map (·.1):=by
   rw[← nums_intItems,← hx]
   exact (show numsOf its.toArray.toList=ns from hi.numsOf).symm
  have hs:0<ys.size:=by
   have z:ns.length=ys.size:=by
    conv=>lhs;rw[e1]
    rw[zcq3,Array.length_toList]
   omega
  have hl':s.heap.IsList _ (intItems ys):=hx▸pl.isList
  refine max_intList (I.ok.hd hc) hl' hs fun v h' tk hv hk=>?_
  obtain⟨t,rfl⟩:=intItems_at hv
  have best:=argBest_gt (numAt ys) (ys.size - 1)
  refine⟨.int _,H,I.kept hk,⟨t,rfl⟩,h3 _ ?_ fun a ha=>?_⟩
  ·rw[e1,numAt_eq]
   exact getD_mem (by rw[zcq3,Array.length_toList];omega)
  ·rw[e1] at ha
   obtain⟨j,hj,rfl⟩:=mem_getD ha
   rw[zcq3,Array.length_toList] at hj
   rw[← numAt_eq]
   exact best.2 j (by omega)
 ·exact zbj7 hc pins s σ H _ us Q I r ⟨_,_,rfl,h⟩
 ·exact h.elim
theorem zbn9 {p:Addr}{H:Hp}{Q:VK}{ns:List Int}(h:SqL K H p (ns.map V.int)) (h0:0<ns.length) (q:∀ M:Int,M∈ns->(∀ a∈ns,a<=M)->Q (.int M) H):rMaxL K p H Q:=by unfold rMaxL;exact⟨ns,h,h0,q⟩
end
section
variable {prog:Program}{w:World}{A:Around}{E:Value->Shared->Prop}{s:Shared}
theorem zae8:isSubtype (.type "range_iterator") (.type "reversed")=pure false:=by rw[isSubtype_type];kernel_rfl
abbrev revR (n:Int):Obj:={ cls:=.type "range_iterator",data:=.fields #[rawInt (n - 1),rawInt n,rawInt (-1)] }
theorem zbt5 (r:Addr) (n:Int) (t u v:Tok) (h0:0<=n) (h1:n<=10000) :
  Meets (Builtin.«range.__reversed__» ⟨[.ref r],[]⟩) (fun _ R s=>s.heap.get? r=some { cls:=.type "range",dict:=none,data:=.fields #[.int 0 t,.int n u,.int 1 v],slots:=#[] }/\R (.ok (.ret (Value.ref s.heap.objs.size))) { s with heap:=s.heap.push (revR n),toks:=s.toks }):=
 .of_wp fun prog w A R s h=>by
  obtain⟨hp,g,d,tk,os⟩:=s
  obtain⟨hl,h⟩:=h
  have e1:Builtin.Range.rangeSize 0 n 1=n:=by
   unfold Builtin.Range.rangeSize
   rw[if_pos (by decide)]
   split<;>omega
  have e2:(Builtin.Range.rangeFitsLong 0&&Builtin.Range.rangeFitsLong n&&Builtin.Range.rangeFitsLong 1&&Builtin.Range.rangeFitsLong (-1)&&Builtin.Range.rangeFitsLong (0 - 1)&&Builtin.Range.rangeFitsLong n)=true:=by
   simp only[Builtin.Range.rangeFitsLong,zcs9,decide_eq_true_eq]
   omega
  have hc0:¬ (!(Builtin.Range.rangeFitsLong 0&&Builtin.Range.rangeFitsLong n&&Builtin.Range.rangeFitsLong 1&&Builtin.Range.rangeFitsLong (-1)&&Builtin.Range.rangeFitsLong (0 - 1)&&Builtin.Range.rangeFitsLong (Builtin.Range.rangeSize 0 n 1)))=true:=by rw[e1,e2];decide
  have e3:revR n={ cls:=.type (if (Builtin.Range.rangeFitsLong 0&&Builtin.Range.rangeFitsLong n&&Builtin.Range.rangeFitsLong 1&&Builtin.Range.rangeFitsLong (-1)&&Builtin.Range.rangeFitsLong (0 - 1)&&Builtin.Range.rangeFitsLong (Builtin.Range.rangeSize 0 n 1))=true then "range_iterator" else "longrange_iterator"),data:=.fields #[rawInt (0+(Builtin.Range.rangeSize 0 n 1 - 1)*1),rawInt (Builtin.Range.rangeSize 0 n 1),rawInt (-1)] }:=by
   rw[e1,e2,if_pos rfl,show (0:Int)+(n - 1)*1=n - 1 by omega]
  rw[e3] at h
  wp_walk
  simp only[if_neg hc0]
  show wpAny (model prog w) A.in1 _ (fun fin s'=>∃ v,fin=Fin.done (Flow.ret v)/\R (Except.ok (Flow.ret v)) s') (fun e s'=>R (Except.error e) s') ⟨hp,g,d,tk,os⟩
  wp_walk
  exact⟨_,rfl,h⟩
theorem zai4 {r:Addr}{n:Int}{t u v:Tok}{Q₁:Value->Shared->Prop}(hr:IsRange s.heap r 0 n 1 t u v) (h0:0<=n) (h1:n<=10000) (h:Q₁ (.ref s.heap.objs.size) { s with heap:=s.heap.push (revR n) }) :
  codeAny (model prog w) A (.call (.builtin "reversed.__new__") ⟨[.type "reversed",.ref r],[]⟩) (wants Q₁ E) s:=by
 have hT:s.TypeIs (.ref r) "range":=⟨_,hr,rfl⟩
 refine codeAny_of_tree ?_
 show wpAny _ A.in1 (do checkBuiltinCall "reversed.__new__" ⟨[.type "reversed",.ref r],[]⟩;again (.builtin "reversed.__new__" ⟨[.type "reversed",.ref r],[]⟩)) _ _ s
 refine wpAny_bind (wpAny_of_eq (F.newCall_reversed_1 _) (wpAny_pure ⟨plainId_quiet F.plain_reversed_new _,codeAny_builtin F.entry_reversed_new ?_⟩))
 rw[Around.under_plainId F.plain_reversed_new _]
 unfold Builtin.«reversed.__new__»
 refine wpAny_bind (wpAny_of_eq (newClass_reversed _) ?_)
 try dsimp only
 refine wpAny_bind (wpAny_of_eq (a:=()) (by first|rfl|kernel_rfl) ?_)
 refine wpAny_bind (wpAny_of_eq (a:=()) (by first|rfl|kernel_rfl) ?_)
 try dsimp only
 refine wpAny_bind (wpAny_specialOf hT F.slot_range_reversed.lookup ?_)
 try dsimp only
 refine wpAny_bind (wpAny_of_eq (F.slot_range_reversed.bind _) ?_)
 try dsimp only
 first
  | rw[if_neg (show ¬ ((Value.builtin "range.__reversed__"==Value.none)=true) from zcr2)]
  | (show wpAny _ _ (if (Value.builtin "range.__reversed__"==Value.none)=true then _ else _) _ _ _;rw[if_neg (show ¬ ((Value.builtin "range.__reversed__"==Value.none)=true) from zcr2)])
 refine wpAny_bind (wpAny_rule ?_)
 refine wpAny_bind (m:=runValue (.call (.builtin "range.__reversed__") ⟨[.ref r],[]⟩)) (show wpAny _ _ (call (.builtin "range.__reversed__") [.ref r]) _ _ _ from call_meets F.slot_range_reversed hT F.entry_range_reversed (F.args_range_reversed_1 _) (zbt5 r n t u v h0 h1) ⟨hr,?_⟩)
 first
  | exact wpAny_pure h
  | exact wpAny_bind (wpAny_pure (wpAny_pure h))
theorem zai9 {r:Addr}{n:Int}{t u v:Tok}{Q:Value->Shared->Prop}(hr:IsRange s.heap r 0 n 1 t u v) (h0:0<=n) (h1:n<=10000) (h:Q (.ref s.heap.objs.size) { s with heap:=s.heap.push (revR n) }):wpAny (model prog w) A (call (.type "reversed") [.ref r]) Q E s:=by
 refine callType_other (U:="range_iterator") (Q₁:=fun obj s₁=>obj=.ref s.heap.objs.size/\s₁={ s with heap:=s.heap.push (revR n) }) (by decide +kernel) F.create_reversed ⟨_,_,F.mro_reversed⟩ F.made_reversed zae8 (F.typeCall_reversed_1 _) (zai4 hr h0 h1 ⟨rfl,rfl⟩) ?_
 rintro obj s₁ ⟨rfl,rfl⟩
 exact⟨⟨_,zcs4 _ rfl,rfl⟩,h⟩
end
section
variable {X:Cx}{K:zcq5}{tg:Expr}
@[irreducible] def rRevR (n:Int) (H:Hp) (R:It->Hp->Prop):Prop:=0<=n/\n<=10000/\R (Itd (n - 1) n.toNat) H
def qiRevR (ta:TA):TI:=fun σ H R=>ta σ H fun vs H1=>match vs with
 | [.int n]=>rRevR n H1 R
 | _=>False
theorem piRevR {a:Expr}{ta:TA}{p p2 pos pos2:Pos}(hl:X.mg "reversed"=none) (hm:X.mg "range"=none) (ha:PA X [a] ta) (hg:Gl X "range":=by rfl) (hg2:Gl X "reversed":=by rfl) (hs:starEach [a] X.env=[(false,eval a X.env)]:=by rfl)
  (he:starEach [.Call (.Name "range" p2) [a] [] pos2] X.env=[(false,eval (.Call (.Name "range" p2) [a] [] pos2) X.env)]:=by rfl) :
  PI X tg (.Call (.Name "reversed" p) [.Call (.Name "range" p2) [a] [] pos2] [] pos) (qiRevR ta):=by
 intro pins s σ H R I h
 refine Call_ (zy6 I hg2 hl boot_reversed ?_)
 refine PyProof.Rows.callWith_type1 ?_ (by rw[he];rfl) rfl
 rw[he]
 show wpAny _ _ (spliced ((false,eval (.Call (.Name "range" p2) [a] [] pos2) X.env) :: [])) _ _ s
 refine Calls.spliced_cons ?_
 refine Call_ (zy6 I hg hm boot_range (PyProof.Rows.callWith_type1 (thn (ha pos2 pins s σ H _ I h) fun us s1 ⟨vs,H1,I1,r1,q1⟩=>?_) hs rfl))
 dsimp only at q1
 split at q1
 ·rename_i n
  unfold rRevR at q1
  obtain⟨j0,j1,q⟩:=q1
  obtain⟨u,rfl,rx⟩:=zac3 r1
  obtain⟨t,rfl⟩:=rx
  refine call_range_1 (Calls.spliced_nil ?_)
  refine zai9 (IsRange.new ..) j0 j1 ?_
  have I2:Inv X pins σ H1 { s1 with heap:=s1.heap.push { cls:=.type "range",data:=.fields #[.int 0 s1.toks,.int n t,.int 1 (s1.toks+1)] },toks:=s1.toks+1+1 }:=I1.kept fun b o e=>zcq9 _ e
  have st:IsRangeIter ((s1.heap.push { cls:=.type "range",data:=.fields #[.int 0 s1.toks,.int n t,.int 1 (s1.toks+1)] }).push (revR n)) (s1.heap.push { cls:=.type "range",data:=.fields #[.int 0 s1.toks,.int n t,.int 1 (s1.toks+1)] }).objs.size (n - 1) n (-1):=zcs4 _ rfl
  refine wpAny_pyIter_rangeiter st ?_
  refine⟨_,[(s1.heap.push { cls:=.type "range",data:=.fields #[.int 0 s1.toks,.int n t,.int 1 (s1.toks+1)] }).objs.size],_,_,H1,rfl,
   I2.kept (t':=s1.toks+1+1) fun b o e=>zcq9 _ e,zba3 _ (n - 1) n.toNat,?_,fun b hb=>?_,q⟩
  ·show IsRangeIter _ _ (n - 1+((0:Nat):Int)*(-1)) (((n.toNat:Nat):Int) - ((0:Nat):Int)) (-1)
   rw[show n - 1+((0:Nat):Int)*(-1)=n - 1 by omega,show ((n.toNat:Nat):Int) - ((0:Nat):Int)=n by omega]
   exact st
  ·have e:b=(s1.heap.push { cls:=.type "range",data:=.fields #[.int 0 s1.toks,.int n t,.int 1 (s1.toks+1)] }).objs.size:=by simpa using hb
   subst e
   exact I2.fpOk (zcr9 _) (I2.hok.fresh (zcr9 _))
 ·exact q1.elim
theorem zcj4 {n:Int}{H:Hp}{R:It->Hp->Prop}(h0:0<=n) (h1:n<=10000) (q:R (Itd (n - 1) n.toNat) H):rRevR n H R:=by unfold rRevR;exact⟨h0,h1,q⟩
end
end L2
set_option maxHeartbeats 2000000
namespace L2
open PySem PySem.Spec PyProof.Rows PySem.W
section
variable {X:Cx}{K:zcq5}
@[irreducible] def rGetA (K:zcq5) (p:Addr) (i:Int) (H:Hp) (Q:VK):Prop:=∃ xs v,SqL K H p xs/\0<=i/\atI xs i=some v/\Q v H
def rGetM (K:zcq5):V->V->Hp->VK->Prop:=fun x y H Q=>match x,y with
 | .ref p,.int i=>rGetA K p i H Q
 | _,_=>False
theorem getM:PGet X (rGetM X.K):=by
 intro pins s σ H x y v u Q I rx ry h
 unfold rGetM at h
 split at h
 ·unfold rGetA at h
  obtain⟨xs,z,hq,h0,he,q⟩:=h
  cases rx
  obtain⟨t,rfl⟩:=ry
  obtain⟨its,r,pl,hz⟩:=I.list hq
  obtain⟨j,h1,h2,h3,h4,h5⟩:=zao3 he
  obtain⟨w,ew,rw'⟩:=r.get h2
  have hl:=r.length
  have hn:=zab1
  have hj:=h1
  rw[seqIndex_of h0 h5] at hj
  have hj:=Option.some.inj hj
  exact wpAny_getItem_list pl.isList h0 (by omega) (by rw[hj];simpa using ew) ⟨z,H,I,rw',q⟩
 ·exact h.elim
theorem get_rd {p:Addr}{i:Int}{H:Hp}{Q:VK}{xs:List V}{v:V}(h:H p=some (.lst xs)) (h0:0<=i) (e:atI xs i=some v) (q:Q v H):rGetA K p i H Q:=by unfold rGetA;exact⟨xs,v,SqL.of h,h0,e,q⟩
def ipIM (f:Int->Int->Int):TIp:=fun x y H Q=>match x,y with
 | .int i,.int j=>Q (.int (f i j)) H
 | _,_=>False
theorem ipAddM:PIp X .Add (ipIM fun i j=>i+j):=by
 intro pins s σ H x y v u Q I r1 r2 h
 unfold ipIM at h
 split at h
 ·exact ip_add pins s σ H _ _ v u Q I r1 r2 ⟨_,_,rfl,rfl,h⟩
 ·exact h.elim
theorem psAugS {o i e:Expr}{to ti te:TE}{pos tpos:Pos}(ho:PE X o to) (hi:PE X i ti) (he:PE X e te)
  (ha:∀ ov iv new,augStore i ov iv new=(do holding [new,ov,iv] (setItem ov iv new);release [new,ov,iv] [];pure .next):=by intros;rfl):PS X (.AugAssign (.Subscript o i tpos) .Add e pos) (tAugS to ti te (rGetM X.K) (ipIM fun i j=>i+j) rSetM):=zcg3 ho hi getM he ipAddM setM ha
end
section
variable {K:zcq5}{g:TG}{tt:TT}{te:TE}{σ0:St}{H1:Hp}{Q:VK}
theorem zv8 {a:Addr}{xs:List V}(hn:xs.length<sizeLine) (h:∀ acc H2,H1 acc=none->Same H1 H2->H2 acc=some (.lst [])->∃ Pv:Nat->List V->St->Hp->Prop,Pv 0 [] σ0 H2/\(∀ i ys σ H,Pv i ys σ H->SqL K H a xs) /\
  (∀ i m x ys σ H,xs[i]?=some x->i<xs.length->m=xs.length - i->ys.length<=i->H acc=some (.lst ys)->Pv i ys σ H->g x σ H fun σ2 H3=>tt σ2 H3 fun b H4=>br b (te σ2 H4 fun v H5=>cPut (cV xs.length acc Pv) acc ys i m σ2 v H5) (zah9 (cV xs.length acc Pv) ys i m σ2 H4)) /\
  ∀ ys σ H,H acc=some (.lst ys)->Pv xs.length ys σ H->Q (.ref acc) H):zx5 (Itl K a) g tt te σ0 H1 Q:=by
 unfold zx5
 intro acc H2 hf hs ha
 obtain⟨Pv,h0,hq,turn,fin⟩:=h acc H2 hf hs ha
 refine⟨cV xs.length acc Pv,⟨xs.length,by simp,zcu4 _,zcr9 _,ha,h0⟩,?_⟩
 rintro i m ys σ H ⟨hm,hi,hl,ha',hp⟩
 refine⟨ha',by omega,?_⟩
 have q:=hq i ys σ H hp
 by_cases hlt:i<xs.length
 ·refine .inr ⟨⟨xs,xs[i],q,by simp[hlt]⟩,fun x H' y=>?_⟩
  obtain⟨e,y⟩:=y
  subst e
  exact turn i m x ys σ _ (y xs q) hlt hm hl ha' hp
 ·have e:i=xs.length:=by omega
  subst e
  exact .inl ⟨⟨xs,q,zcr9 _⟩,fin ys σ H ha' hp⟩
end
end L2
set_option maxHeartbeats 1000000
namespace G
open PySem L2
def top (i:Nat):Stmt:=PySem.Challenge.pw_hostfields_k32_whole_no_plan_does_better.main.body.getD i (.Pass ⟨0,0,0,0⟩)
abbrev zp8:Stmt:=top 6
theorem zaz5:zb3 ["thing"] ["thing"] (za3 zp8):=⟨rfl,rfl,rfl,by decide +kernel,rfl,by decide +kernel,by decide +kernel⟩
abbrev zs7:Stmt:=top 7
theorem zbg1:zb3 ["thing","least"] ["thing","least"] (za3 zs7):=⟨rfl,rfl,rfl,by decide +kernel,rfl,by decide +kernel,by decide +kernel⟩
abbrev zl9:Stmt:=top 8
theorem zam3:zb3 ["thing","least","most"] ["thing","least","most"] (za3 zl9):=⟨rfl,rfl,rfl,by decide +kernel,rfl,by decide +kernel,by decide +kernel⟩
abbrev zs9:Stmt:=top 10
theorem zbh2:zb3 ["hosts","fields","plan"] ["hosts","fields","plan"] (za3 zs9):=⟨rfl,rfl,rfl,by decide +kernel,rfl,by decide +kernel,by decide +kernel⟩
abbrev zk0:Stmt:=top 11
theorem zai7:zb3 ["plan"] ["plan"] (za3 zk0):=⟨rfl,rfl,rfl,by decide +kernel,rfl,by decide +kernel,by decide +kernel⟩
abbrev zj9:Stmt:=top 15
theorem zs4:zb3 ["battle","number","field"] ["battle"] (za3 zj9):=⟨rfl,rfl,rfl,by decide +kernel,rfl,by decide +kernel,by decide +kernel⟩
abbrev zq4:Stmt:=top 16
theorem zax2:zb3 ["battle"] ["battle"] (za3 zq4):=⟨rfl,rfl,rfl,by decide +kernel,rfl,by decide +kernel,by decide +kernel⟩
abbrev zn8:Stmt:=top 17
theorem zav4:zb3 ["first","second"] ["first","second"] (za3 zn8):=⟨rfl,rfl,rfl,by decide +kernel,rfl,by decide +kernel,by decide +kernel⟩
abbrev zp9:Stmt:=top 18
theorem zba6:zb3 ["first","second","field"] ["first","second","field"] (za3 zp9):=⟨rfl,rfl,rfl,by decide +kernel,rfl,by decide +kernel,by decide +kernel⟩
abbrev zq1:Stmt:=top 19
theorem zba9:zb3 ["many_rows","many_numbers","rows"] ["many_rows","many_numbers","rows"] (za3 zq1):=⟨rfl,rfl,rfl,by decide +kernel,rfl,by decide +kernel,by decide +kernel⟩
abbrev zh9:Stmt:=top 20
theorem zah5:zb3 ["many_numbers","row"] ["many_numbers","row"] (za3 zh9):=⟨rfl,rfl,rfl,by decide +kernel,rfl,by decide +kernel,by decide +kernel⟩
abbrev zbi0:Stmt:=top 21
theorem sc_won:zb3 ["field","x","y"] ["field","x","y"] (za3 zbi0):=⟨rfl,rfl,rfl,by decide +kernel,rfl,by decide +kernel,by decide +kernel⟩
abbrev zm3:Stmt:=top 22
theorem zy8:zb3 ["battle","one","other","fields"] ["battle","one","other"] (za3 zm3):=⟨rfl,rfl,rfl,by decide +kernel,rfl,by decide +kernel,by decide +kernel⟩
abbrev zak0:Stmt:=top 23
theorem zcg6:zb3 ["battle","one","other"] ["battle","one","other"] (za3 zak0):=⟨rfl,rfl,rfl,by decide +kernel,rfl,by decide +kernel,by decide +kernel⟩
abbrev zl7:Stmt:=top 24
theorem zao9:zb3 ["fields","one","other"] ["fields","one","other"] (za3 zl7):=⟨rfl,rfl,rfl,by decide +kernel,rfl,by decide +kernel,by decide +kernel⟩
abbrev zn1:Stmt:=top 26
theorem zv3:zb3 ["hosts","fields","stream","comes_full","goes_empty"] ["hosts","fields","stream"] (za3 zn1):=⟨rfl,rfl,rfl,by decide +kernel,rfl,by decide +kernel,by decide +kernel⟩
abbrev zw1:Stmt:=top 27
theorem zbn4:zb3 ["stream"] ["stream"] (za3 zw1):=⟨rfl,rfl,rfl,by decide +kernel,rfl,by decide +kernel,by decide +kernel⟩
abbrev zv7:Stmt:=top 28
theorem zbn2:zb3 ["row"] ["row"] (za3 zv7):=⟨rfl,rfl,rfl,by decide +kernel,rfl,by decide +kernel,by decide +kernel⟩
abbrev zt2:Stmt:=top 29
theorem zbh7:zb3 ["thing"] ["thing"] (za3 zt2):=⟨rfl,rfl,rfl,by decide +kernel,rfl,by decide +kernel,by decide +kernel⟩
abbrev zaa7:Stmt:=top 30
theorem zbb5:zb3 ["ahead","row","leaving"] ["ahead","row"] (za3 zaa7):=⟨rfl,rfl,rfl,by decide +kernel,rfl,by decide +kernel,by decide +kernel⟩
abbrev zw3:Stmt:=top 31
theorem zz1:zb3 ["pairs","sums","key","amount"] ["pairs"] (za3 zw3):=⟨rfl,rfl,rfl,by decide +kernel,rfl,by decide +kernel,by decide +kernel⟩
abbrev zq0:Stmt:=top 32
theorem zay2:zb3 ["stream"] ["stream"] (za3 zq0):=⟨rfl,rfl,rfl,by decide +kernel,rfl,by decide +kernel,by decide +kernel⟩
abbrev zn9:Stmt:=top 34
theorem zaw7:zb3 ["side"] ["side"] (za3 zn9):=⟨rfl,rfl,rfl,by decide +kernel,rfl,by decide +kernel,by decide +kernel⟩
abbrev zo1:Stmt:=top 35
theorem zas3:zb3 ["battle","side"] ["battle","side"] (za3 zo1):=⟨rfl,rfl,rfl,by decide +kernel,rfl,by decide +kernel,by decide +kernel⟩
abbrev zj7:Stmt:=top 36
theorem zaj4:zb3 ["battle","side"] ["battle","side"] (za3 zj7):=⟨rfl,rfl,rfl,by decide +kernel,rfl,by decide +kernel,by decide +kernel⟩
abbrev zak7:Stmt:=top 37
theorem zbk1:zb3 ["battle","side","stream","most"] ["battle","side","stream"] (za3 zak7):=⟨rfl,rfl,rfl,by decide +kernel,rfl,by decide +kernel,by decide +kernel⟩
abbrev zq3:Stmt:=top 38
theorem zax5:zb3 ["field","side","row","most"] ["field","side","row","most"] (za3 zq3):=⟨rfl,rfl,rfl,by decide +kernel,rfl,by decide +kernel,by decide +kernel⟩
abbrev zbh8:Stmt:=top 39
theorem sc_due:zb3 ["field","side","row","count"] ["field","side","row","count"] (za3 zbh8):=⟨rfl,rfl,rfl,by decide +kernel,rfl,by decide +kernel,by decide +kernel⟩
abbrev zw2:Stmt:=top 40
theorem zbi5:zb3 ["field_dues","behind","count"] ["field_dues","behind","count"] (za3 zw2):=⟨rfl,rfl,rfl,by decide +kernel,rfl,by decide +kernel,by decide +kernel⟩
abbrev zw0:Stmt:=top 42
theorem zz6:zb3 ["battle","side","worth","paper","wrong"] ["battle","side","worth","paper"] (za3 zw0):=⟨rfl,rfl,rfl,by decide +kernel,rfl,by decide +kernel,by decide +kernel⟩
abbrev zl8:Stmt:=top 43
theorem zy9:zb3 ["battle","side","paper","fields"] ["battle","side","paper"] (za3 zl8):=⟨rfl,rfl,rfl,by decide +kernel,rfl,by decide +kernel,by decide +kernel⟩
abbrev zi0:Stmt:=top 44
theorem ze7:zb3 ["battle","side","paper","table","field","field_dues","behind","count","number"] ["battle","side","paper"] (za3 zi0):=⟨rfl,rfl,rfl,by decide +kernel,rfl,by decide +kernel,by decide +kernel⟩
abbrev zaa9:Stmt:=top 45
theorem zbx0:zb3 ["side","number","bound"] ["side","number","bound"] (za3 zaa9):=⟨rfl,rfl,rfl,by decide +kernel,rfl,by decide +kernel,by decide +kernel⟩
abbrev zk1:Stmt:=top 46
theorem zw6:zb3 ["battle","side","worth","paper","shown"] ["battle","side","worth","paper"] (za3 zk1):=⟨rfl,rfl,rfl,by decide +kernel,rfl,by decide +kernel,by decide +kernel⟩
abbrev zq5:Stmt:=top 48
theorem zae4:zb3 ["_law_number","_law_k","_law_mixed"] ["_law_number","_law_k"] (za3 zq5):=⟨rfl,rfl,rfl,by decide +kernel,rfl,by decide +kernel,by decide +kernel⟩
abbrev zh7:Stmt:=top 49
theorem zae5:zb3 ["_law_script","_law_k"] ["_law_script","_law_k"] (za3 zh7):=⟨rfl,rfl,rfl,by decide +kernel,rfl,by decide +kernel,by decide +kernel⟩
abbrev zo0:Stmt:=top 50
theorem zab4:zb3 ["_law_script","_law_k","_law_cell"] ["_law_script","_law_k"] (za3 zo0):=⟨rfl,rfl,rfl,by decide +kernel,rfl,by decide +kernel,by decide +kernel⟩
abbrev zn4:Stmt:=top 51
theorem zv4:zb3 ["_law_left_here","_law_base","_law_mixed","_law_digit"] ["_law_left_here","_law_base"] (za3 zn4):=⟨rfl,rfl,rfl,by decide +kernel,rfl,by decide +kernel,by decide +kernel⟩
abbrev zn6:Stmt:=top 52
theorem zac1:zb3 ["_law_left_here","_law_far"] ["_law_left_here"] (za3 zn6):=⟨rfl,rfl,rfl,by decide +kernel,rfl,by decide +kernel,by decide +kernel⟩
abbrev zn5:Stmt:=top 53
theorem zv6:zb3 ["_law_left_here","_law_first","_law_second","_law_kind","_law_worth"] ["_law_left_here","_law_first","_law_second"] (za3 zn5):=⟨rfl,rfl,rfl,by decide +kernel,rfl,by decide +kernel,by decide +kernel⟩
abbrev zj5:Stmt:=top 54
theorem zs3:zb3 ["_law_left_here","_law_most","_law_fields","_law_first","_law_second"] ["_law_left_here","_law_most","_law_fields"] (za3 zj5):=⟨rfl,rfl,rfl,by decide +kernel,rfl,by decide +kernel,by decide +kernel⟩
abbrev zn3:Stmt:=top 56
theorem zar0:zb3 ["_law_field","_law_x","_law_y"] ["_law_field","_law_x","_law_y"] (za3 zn3):=⟨rfl,rfl,rfl,by decide +kernel,rfl,by decide +kernel,by decide +kernel⟩
abbrev zn2:Stmt:=top 57
theorem zm4:zb3 ["_law_left_here","_law_hosts","_law_many","_law_plan_here","_law_rest","_law_k","_law_at"] ["_law_left_here","_law_hosts","_law_many"] (za3 zn2):=⟨rfl,rfl,rfl,by decide +kernel,rfl,by decide +kernel,by decide +kernel⟩
abbrev zm0:Stmt:=top 58
theorem zk3:zb3 ["_law_mix_here","_law_flows_here","_law_plan_here","_law_weight","_law_k","_law_spot"] ["_law_mix_here"] (za3 zm0):=⟨rfl,rfl,rfl,by decide +kernel,rfl,by decide +kernel,by decide +kernel⟩
abbrev zj8:Stmt:=top 59
theorem zo5:zb3 ["_law_top","_law_bottom","_law_one","_law_other"] ["_law_top","_law_bottom"] (za3 zj8):=⟨rfl,rfl,rfl,by decide +kernel,rfl,by decide +kernel,by decide +kernel⟩
abbrev zm9:Stmt:=top 60
theorem zd2:zb3 ["_law_battle_here","_law_side","_law_stream","_law_found","_law_k","_law_some_here","_law_count","_law_total","_law_rest","_law_sent","_law_flow","_law_x","_law_y"] ["_law_battle_here","_law_side","_law_stream"] (za3 zm9):=⟨rfl,rfl,rfl,by decide +kernel,rfl,by decide +kernel,by decide +kernel⟩
abbrev zm2:Stmt:=top 61
theorem zam0:zb3 ["_law_owed","_law_table_here","_law_k","_law_rest"] ["_law_owed","_law_table_here","_law_k","_law_rest"] (za3 zm2):=⟨rfl,rfl,rfl,by decide +kernel,rfl,by decide +kernel,by decide +kernel⟩
abbrev zm1:Stmt:=top 62
theorem zj6:zb3 ["_law_battle_here","_law_side","_law_stream","_law_owed","_law_table_here","_law_k","_law_rest","_law_some_here"] ["_law_battle_here","_law_side","_law_stream"] (za3 zm1):=⟨rfl,rfl,rfl,by decide +kernel,rfl,by decide +kernel,by decide +kernel⟩
abbrev zf4:Stmt:=top 63
theorem zg2:zb3 ["_law_hosts","_law_many","_law_found","_law_sent"] ["_law_hosts","_law_many"] (za3 zf4):=⟨rfl,rfl,rfl,by decide +kernel,rfl,by decide +kernel,by decide +kernel⟩
abbrev zh8:Stmt:=top 64
theorem zc8:zb3 ["_law_battle_here","_law_side","_law_mix_here","_law_found","_law_plan_here","_law_total","_law_one","_law_weight","_law_x","_law_y"] ["_law_battle_here","_law_side","_law_mix_here"] (za3 zh8):=⟨rfl,rfl,rfl,by decide +kernel,rfl,by decide +kernel,by decide +kernel⟩
abbrev zk2:Stmt:=top 65
theorem zi1:zb3 ["_law_left_here","_law_battle_here","_law_side","_law_stream","_law_table_here","_law_loose","_law_drawn","_law_tight","_law_k"] ["_law_left_here","_law_battle_here","_law_side","_law_stream"] (za3 zk2):=⟨rfl,rfl,rfl,by decide +kernel,rfl,by decide +kernel,by decide +kernel⟩
abbrev zao6:Stmt:=top 66
theorem zp1:zb3 ["_law_script","_law_cell","_law_left_here","_law_battle_here","_law_side","_law_mix_here","_law_k","_law_plan_here","_law_stream","_law_whole","_law_best","_law_tables_here","_law_word","_law_table_here","_law_more","_law_worth"] ["_law_script"] (za3 zao6):=⟨rfl,rfl,rfl,by decide +kernel,rfl,by decide +kernel,by decide +kernel⟩
abbrev zm5:Stmt:=zci0 (top 2) 0
theorem zam2:zb3 ["self","field"] ["self","field"] (za3 zm5):=⟨rfl,rfl,rfl,by decide +kernel,rfl,by decide +kernel,by decide +kernel⟩
theorem zab7 {P:Program}{w:World}{K:zcq5}{mg:Str->Option Value}{base:Heap}{C aH f:Addr}(F:IniF K "NoBattle.__init__" zm5 f "field") (Z:IniK K C aH f "field"):IniOk P w K mg base C f "field":=by
 obtain⟨fd,F,hb⟩:=F
 refine⟨_,fd,F.ok zam2 (fun vs H Q E h=>by unfold zab0 at h;obtain⟨_,_,rfl,_⟩:=h;rfl) (fun cdv A outer s H vs Q E hr h=>?_),hb⟩
 unfold zab0 at h
 obtain⟨e,v,rfl,he,q⟩:=h
 refine⟨_,(za6 (psFldX (K:=K) rfl Z (pq 0) (pq 1))),?_⟩
 (conv=>whnf)
 exact zcd4 he q
theorem nb_0:(["sent"]:List Str).Nodup:=by decide +kernel
theorem nb_1:(["number"]:List Str).Nodup:=by decide +kernel
theorem nb_2:(["row","many_numbers"]:List Str).Nodup:=by decide +kernel
theorem nb_3:(["field","x","y"]:List Str).Nodup:=by decide +kernel
theorem nb_4:(["thing"]:List Str).Nodup:=by decide +kernel
theorem nb_5:(["one","other"]:List Str).Nodup:=by decide +kernel
theorem nb_6:(["left","sent","flow"]:List Str).Nodup:=by decide +kernel
theorem nb_7:(["row"]:List Str).Nodup:=by decide +kernel
theorem nb_8:(["left","sent","flow","hosts"]:List Str).Nodup:=by decide +kernel
theorem nb_9:(["left","sent","flow"]:List Str).Nodup:=by decide +kernel
theorem nb_10:(["ahead","row"]:List Str).Nodup:=by decide +kernel
theorem nb_11:(["left","sent","flow"]:List Str).Nodup:=by decide +kernel
theorem zbh9:(["left","sent","flow","field","count"]:List Str).Nodup:=by decide +kernel
theorem nb_13:(["count","field","side","row"]:List Str).Nodup:=by decide +kernel
theorem nb_14:(["field","row","side","most"]:List Str).Nodup:=by decide +kernel
theorem nb_15:(["sent","field_dues","behind","count"]:List Str).Nodup:=by decide +kernel
theorem nb_16:(["bound","side","number"]:List Str).Nodup:=by decide +kernel
theorem nb_17:(["_law_x","_law_second","_law_left_here"]:List Str).Nodup:=by decide +kernel
theorem nb_18:(["_law_y","_law_left_here"]:List Str).Nodup:=by decide +kernel
theorem nb_19:(["_law_k","_law_left_here","_law_first","_law_second"]:List Str).Nodup:=by decide +kernel
theorem nb_20:(["_law_place"]:List Str).Nodup:=by decide +kernel
theorem nb_21:(["_law_flow"]:List Str).Nodup:=by decide +kernel
theorem nb_22:(["_law_rest","_law_sent","_law_flow"]:List Str).Nodup:=by decide +kernel
theorem nb_23:(["_law_sent","_law_owed","_law_k","_law_table_here","_law_rest"]:List Str).Nodup:=by decide +kernel
theorem nb_24:(["_law_row"]:List Str).Nodup:=by decide +kernel
theorem nb_25:(["_law_rest","_law_sent"]:List Str).Nodup:=by decide +kernel
theorem nb_26:(["_law_row","_law_side","_law_left_here"]:List Str).Nodup:=by decide +kernel
theorem nb_27:(["_law_number","_law_side","_law_left_here"]:List Str).Nodup:=by decide +kernel
theorem nb_28:(["_law_row","_law_left_here"]:List Str).Nodup:=by decide +kernel
theorem nb_29:(["_law_number","_law_left_here"]:List Str).Nodup:=by decide +kernel
theorem nb_30:(["_law_row"]:List Str).Nodup:=by decide +kernel
theorem nb_31:(["_law_plan_here","_law_weight"]:List Str).Nodup:=by decide +kernel
structure Cz (K:zcq5) (mg:Str->Option Value) (base:Heap) (zck3 zck0 zck8 zck2 zck6:Addr):Prop where
 g_HostError:mg "HostError"=some (.ref zck3)
 g_NoBattle:mg "NoBattle"=some (.ref zck0)
 g_NoPlan:mg "NoPlan"=some (.ref zck8)
 g_NoSide:mg "NoSide"=some (.ref zck2)
 z_NoBattle:IniK K zck0 zck3 zck6 "field"
 fi_NoBattle:IniF K "NoBattle.__init__" zm5 zck6 "field"
 hd_NoBattle:PySem.W.hasDictIn K zck0=true
 k_NoBattle:ExcK K zck0
 c_NoBattle:(zcy1 K zck0).isSome=true
 m_NoBattle:PySem.W.exmOne K (.ref zck0) (.ref zck3)=some true
 v_NoBattle:zcu1 K (.ref zck0) (.type "ValueError")=some true
 i_NoBattle_HostError:zcu1 K (.ref zck0) (.ref zck3)=some true
 i_NoBattle_NoBattle:zcu1 K (.ref zck0) (.ref zck0)=some true
 i_NoBattle_NoPlan:zcu1 K (.ref zck0) (.ref zck8)=some false
 i_NoBattle_NoSide:zcu1 K (.ref zck0) (.ref zck2)=some false
 o_NoSide:PyProof.Rows.OwnCls "NoSide" zck2 bmV newV mg base
 k_NoSide:ExcK K zck2
 c_NoSide:(zcy1 K zck2).isSome=true
 m_NoSide:PySem.W.exmOne K (.ref zck2) (.ref zck3)=some true
 v_NoSide:zcu1 K (.ref zck2) (.type "ValueError")=some true
 i_NoSide_HostError:zcu1 K (.ref zck2) (.ref zck3)=some true
 i_NoSide_NoBattle:zcu1 K (.ref zck2) (.ref zck0)=some false
 i_NoSide_NoPlan:zcu1 K (.ref zck2) (.ref zck8)=some false
 i_NoSide_NoSide:zcu1 K (.ref zck2) (.ref zck2)=some true
 n_HostError:zcu1 K (.type "NoneType") (.ref zck3)=some false
 n_NoBattle:zcu1 K (.type "NoneType") (.ref zck0)=some false
 n_NoPlan:zcu1 K (.type "NoneType") (.ref zck8)=some false
 n_NoSide:zcu1 K (.type "NoneType") (.ref zck2)=some false
structure Nm (mg:Str->Option Value):Prop where
 all_:mg "all"=none
 bool_:mg "bool"=none
 enumerate_:mg "enumerate"=none
 int_:mg "int"=none
 isinstance_:mg "isinstance"=none
 len_:mg "len"=none
 list_:mg "list"=none
 max_:mg "max"=none
 min_:mg "min"=none
 range_:mg "range"=none
 reversed_:mg "reversed"=none
 sorted_:mg "sorted"=none
 sum_:mg "sum"=none
 tuple_:mg "tuple"=none
 zip_:mg "zip"=none
local macro_rules | `(tactic| walk_at "hp")=>`(tactic| first|assumption|(refine Same.at (H:=?H) ?s ?e;(case s=>assumption);(case e=>walk_at "hp"))|(refine Chg.at (a:=?a) (H:=?H) ?c ?e ?n;(case c=>assumption);(case n=>walk_at "ne");(case e=>walk_at "hp"))|fail "hp")
local macro_rules | `(tactic| walk_at "ne")=>`(tactic| first|assumption|(apply Ne.symm;assumption)|fail "ne")
local macro_rules | `(tactic| walk_at "wh")=>`(tactic| (conv=>whnf))
local macro_rules | `(tactic| walk_at "st")=>`(tactic| (conv=>whnf);first
 | refine zce7 (by omega) (by omega) ?_
 | refine zad8 (by omega) (by omega) ?_
 | refine zaf7 (by omega) (fun r h0 h1=>?_)
 | refine div_rd (by omega) (by omega) ?_
 | (refine zcb2 ⟨by decide,by decide,by decide⟩ ?_;simp only[Int.reduceToNat,Int.reducePow])
 | (refine zb2 (xs:=?xs) (v:=?v) ?hp ?ev ?_;(case hp=>walk_at "hp");(case ev=>rfl))
 | (refine zb6 (xs:=?xs) (v:=?v) ?hp ?ev ?_;(case hp=>walk_at "hp");(case ev=>rfl))
 | refine zd9 (fun p H' hf hs ha=>?_)
 | refine zc7 (fun p H' hf hs ha=>?_)
 | refine zay7 ?_
 | (refine zae7 (xs:=?xs) ?hp ?_;(case hp=>walk_at "hp"))
 | (refine zan4 (xs:=?xs) ?hp ?_;(case hp=>walk_at "hp"))
 | (refine zq7 (xs:=?xs) ?hp ?_;(case hp=>walk_at "hp"))
 | (refine zf3 (xs:=?xs) ?hp ?_;(case hp=>walk_at "hp"))
 | refine zba4 ?_
 | refine br_T ?_
 | refine br_F ?_
 | refine zt3 (by omega) ?_
 | refine zr8 (by omega) ?_
 | fail "st")
def g0 (f t:Nat):Int:=if f=0/\t=0 then 1 else 0
def Fall:Nat->List Nat->Prop
 | _,[]=>True
 | m,x :: xs=>x<=m/\Fall x xs
theorem Fall.drop:∀ {xs:List Nat}{m:Nat}(i:Nat),Fall m xs->∃ m',m'<=m/\Fall m' (xs.drop i)
 | xs,m,0,h=>⟨m,zcr9 _,h⟩
 | [],m,i+1,_=>⟨m,zcr9 _,trivial⟩
 | x :: xs,m,i+1,h=>by
  obtain⟨m',a,b⟩:=Fall.drop i h.2
  exact⟨m',zcv1 a h.1,b⟩
def pl (ns:List Nat):List V:=ns.map fun (n:Nat)=>V.int (n:Int)
def il (ns:List Nat):List Int:=ns.map fun (n:Nat)=>(n:Int)
local macro_rules | `(tactic| walk_at "om")=>`(tactic| first|decide|omega)
section
variable {P:Program}{w:World}{K:zcq5}{mg:Str->Option Value}{base:Heap}{zck3:Addr}{zck0:Addr}{zck8:Addr}{zck2:Addr}{zck6:Addr}
def isW:PyData->Bool
 | .int _=>true
 | _=>false
def zu1 (l:Int):PyData->Bool
 | .int i=>decide (l<=i)
 | _=>false
def zan8 (l m:Int):PyData->Bool
 | .int i=>decide (l<=i/\i<=m)
 | _=>false
theorem zac7 {p q:Prop}[Decidable p] [Decidable q] (h:p):decide (p/\q)=decide q:=by simp[h]
theorem zad2 {p q:Prop}[Decidable p] [Decidable q] (h:¬ p):decide (p/\q)=false:=by simp[h]
@[irreducible] def zf7:Sp:=fun vs H Q _=>∃ (v:V) (d:PyData),vs=[v]/\ShV H v d/\Q (.bl (isW d)) H
theorem zbk0 {H:Hp}{v:V}{d:PyData}{Q:VK}{E:XK}(h:ShV H v d) (q:Q (.bl (isW d)) H):zf7 [v] H Q E:=by unfold zf7;exact⟨v,d,rfl,h,q⟩
theorem zcb3 {H:Hp}{i:Int}{Q:VK}{E:XK}(q:Q (.bl true) H):zf7 [.int i] H Q E:=zbk0 (.int i) q
theorem zaz4 {f:Addr}{fd:FuncData}(F:Fun K "is_whole" "is_whole" zp8 f fd) (N:Nm mg):FnOk P w K mg base CX0 1 f fd ["thing"] zf7:=by
 refine F.ok zaz5 (fun vs H Q E h=>by unfold zf7 at h;obtain⟨_,_,rfl,_⟩:=h;rfl) (fun cdv A outer s H vs Q E hr h=>?_)
 unfold zf7 at h
 obtain⟨v,d,rfl,h,q⟩:=h
 refine⟨_,(za6 (zb0 (zt5 (pB (zah7 (K:=K) rfl) N.isinstance_ zd7 (za0 (pq 0) (za0 (pTy N.int_ zbe2) za1))) (zt1 (peNot (pB (zah7 (K:=K) rfl) N.isinstance_ zd7 (za0 (pq 0) (za0 (pTy N.bool_ zcf4) za1)))))))),?_⟩
 refine zy1 h (.inl rfl) ?_
 cases h
 case int i=>
  refine br_T ?_
  refine zay7 ?_
  walk_at "wh"
  exact q
 case bl b=>
  refine br_T ?_
  refine zba4 ?_
  walk_at "wh"
  exact q
 all_goals (walk_at "wh";refine br_F ?_;walk_at "wh";exact q)
@[irreducible] def zg3:Sp:=fun vs H Q _=>∃ (v:V) (d:PyData) (l:Int),vs=[v,.int l]/\ShV H v d/\Q (.bl (zu1 l d)) H
theorem zag3 {H:Hp}{v:V}{d:PyData}{l:Int}{Q:VK}{E:XK}(h:ShV H v d) (q:Q (.bl (zu1 l d)) H):zg3 [v,.int l] H Q E:=by unfold zg3;exact⟨v,d,l,rfl,h,q⟩
theorem zcb9 {H:Hp}{i l:Int}{Q:VK}{E:XK}(q:Q (.bl (decide (l<=i))) H):zg3 [.int i,.int l] H Q E:=zag3 (.int i) q
theorem zbh1 {f:Addr}{fd:FuncData}(F:Fun K "is_from" "is_from" zs7 f fd) (N:Nm mg) (zcl0:Def P w K mg base CX0 1 "is_whole" ["thing"] zf7):FnOk P w K mg base CX0 2 f fd ["thing","least"] zg3:=by
 refine F.ok zbg1 (fun vs H Q E h=>by unfold zg3 at h;obtain⟨_,_,_,rfl,_⟩:=h;rfl) (fun cdv A outer s H vs Q E hr h=>?_)
 unfold zg3 at h
 obtain⟨v,d,l,rfl,h,q⟩:=h
 refine⟨_,(za6 (zb0 (zt5 (pD zcl0 hr zb7 (za0 (pq 0) za1)) (zt1 (peC oLe (pq 1) (pq 0)))))),?_⟩
 refine zbk0 h ?_
 cases h
 case int i=>
  refine br_T ?_
  walk_at "wh"
  exact q
 all_goals (walk_at "wh";refine br_F ?_;walk_at "wh";exact q)
@[irreducible] def zd5:Sp:=fun vs H Q _=>∃ (v:V) (d:PyData) (l m:Int),vs=[v,.int l,.int m]/\ShV H v d/\Q (.bl (zan8 l m d)) H
theorem zbo8 {H:Hp}{v:V}{d:PyData}{l m:Int}{Q:VK}{E:XK}(h:ShV H v d) (q:Q (.bl (zan8 l m d)) H):zd5 [v,.int l,.int m] H Q E:=by unfold zd5;exact⟨v,d,l,m,rfl,h,q⟩
theorem zbs4 {H:Hp}{i l m:Int}{Q:VK}{E:XK}(q:Q (.bl (decide (l<=i/\i<=m))) H):zd5 [.int i,.int l,.int m] H Q E:=zbo8 (.int i) q
theorem zap6 {f:Addr}{fd:FuncData}(F:Fun K "is_between" "is_between" zl9 f fd) (N:Nm mg) (zck7:Def P w K mg base CX0 2 "is_from" ["thing","least"] zg3):FnOk P w K mg base CX0 3 f fd ["thing","least","most"] zd5:=by
 refine F.ok zam3 (fun vs H Q E h=>by unfold zd5 at h;obtain⟨_,_,_,_,rfl,_⟩:=h;rfl) (fun cdv A outer s H vs Q E hr h=>?_)
 unfold zd5 at h
 obtain⟨v,d,l,m,rfl,h,q⟩:=h
 refine⟨_,(za6 (zb0 (zt5 (pD zck7 hr zb7 (za0 (pq 0) (za0 (pq 1) za1))) (zt1 (peC oLe (pq 0) (pq 2)))))),?_⟩
 refine zag3 h ?_
 cases h
 case int i=>
  have q:Q (.bl (decide (l<=i/\i<=m))) H:=q
  refine zf5 (fun h=>?_) (fun h=>?_)
  ·walk_at "wh"
   rw[zac7 h] at q
   exact q
  ·walk_at "wh"
   rw[zad2 h] at q
   exact q
 all_goals (walk_at "wh";refine br_F ?_;walk_at "wh";exact q)
def zl0:PyData->List PyData
 | .list ds=>ds
 | _=>[]
def intD:PyData->Int
 | .int i=>i
 | _=>0
def zal5:PyData->Bool
 | .list ds=>ds.all (zu1 0)
 | _=>false
theorem zy2 {l:Int}{d:PyData}(h:zu1 l d=true):∃ i:Int,d=.int i/\l<=i:=by
 cases d with
 | int i=>exact⟨i,rfl,of_decide_eq_true h⟩
 | _=>simp[zu1] at h
theorem zx1 {ds:List PyData}(h:sml (.list ds)=true):ds.length<=1000/\∀ d∈ds,sml d=true:=by
 simp only[sml,zcs9,decide_eq_true_eq] at h
 exact⟨h.1,zal4 h.2⟩
theorem zaa6 {ds:List PyData}(g:PyData->Bool):(List.range ds.length).map (fun i=>V.bl (g (ds.getD i .none)))=(ds.map g).map V.bl:=by
 apply zcw2
 intro i
 rw[zcq8,zcq8,zcq8]
 by_cases h:i<ds.length
 ·rw[zcv3 h,zcq4 h]
  simp[h]
 ·rw[zct2 (by simp;omega),zct2 (by walk_at "om")]
  rfl
theorem zam4 {ds:List PyData}(g:PyData->Bool):(ds.map g).all id=ds.all g:=by rw[zcx6];rfl
@[irreducible] def zg1:Sp:=fun vs H Q _=>∃ (v:V) (d:PyData),vs=[v]/\ShV H v d/\sml d=true/\∀ H',Same H H'->Q (.bl (zal5 d)) H'
theorem zbk4 {H:Hp}{v:V}{d:PyData}{Q:VK}{E:XK}(h:ShV H v d) (hs:sml d=true) (q:∀ H',Same H H'->Q (.bl (zal5 d)) H'):zg1 [v] H Q E:=by unfold zg1;exact⟨v,d,rfl,h,hs,q⟩
theorem zaj0 {f:Addr}{fd:FuncData}(F:Fun K "sends_hosts" "sends_hosts" zk0 f fd) (N:Nm mg) (zck7:Def P w K mg base CX0 2 "is_from" ["thing","least"] zg3):FnOk P w K mg base CX0 3 f fd ["plan"] zg1:=by
 refine F.ok zai7 (fun vs H Q E h=>by unfold zg1 at h;obtain⟨_,_,rfl,_⟩:=h;rfl) (fun cdv A outer s H vs Q E hr h=>?_)
 unfold zg1 at h
 obtain⟨v,d,rfl,h,hs,q⟩:=h
 refine⟨_,(za6 (zb0 (zt5 (pB (zah7 (K:=K) rfl) N.isinstance_ zd7 (za0 (pq 0) (za0 (pTy N.list_ zaa0) za1))) (zt1 (pB (zaj3 (K:=K) rfl rfl) N.all_ zw8 (za0 (zf2 (N:=["sent"]) (ks:=[none]) (ze3 (K:=K) rfl (pq 0)) (fun cl C s3 H3 fp=>(za7 (i:=0) nb_0 rfl (by first|exact Or.inl rfl|exact Or.inr rfl))) (fun cl C s3 H3 fp=>zc4) (fun cl C s3 H3 fp=>(pD zck7 hr zb7 (za0 (pq 0) (za0 za2 za1)))) (.skip .nil)) za1)))))),?_⟩
 refine zy1 h (.inr (.inr (.inl rfl))) ?_
 cases h
 case lst a xs ds e l=>
  have ll:=l.len
  obtain⟨dl,dm⟩:=zx1 hs
  refine br_T ?_
  refine zb8 e ?_
  refine zm7 (Wk.list (SqL.of e)) (by rw[sizeLine_eq];omega) (fun i=>.bl (zu1 0 (ds.getD i .none))) (fun _=>true) (fun j σ=>∃ t:Option V,σ=[t]) ⟨none,rfl⟩ ?_ ?_
  ·rintro j x σ H1 R S hj s1 hx ⟨t,rfl⟩ k _
   obtain⟨d,ed,hd⟩:=l.get j x hx
   have eg:ds.getD j .none=d:=by rw[zcq7,ed];rfl
   refine br_T ?_
   refine zag3 (hd.same s1) ?_
   walk_at "wh"
   rw[← eg]
   exact k rfl _ _ (Same.refl _) ⟨_,rfl⟩
  intro acc H1 f1 s1 h1
  rw[ze0,ll,zaa6 (zu1 0)] at h1
  refine zu7 h1 ?_
  rw[zam4]
  walk_at "wh"
  exact q _ s1
 all_goals (walk_at "wh";refine br_F ?_;walk_at "wh";exact q _ (Same.refl _))
theorem zbd1 {H:Hp}:∀ {xs:List V}{ds:List PyData},ShL H xs ds->(∀ d∈ds,zu1 0 d=true)->∃ ns:List Int,xs=ns.map V.int/\ds=ns.map PyData.int/\∀ x∈ns,0<=x
 | _,_,.nil,_=>⟨[],rfl,rfl,fun _ h=>by cases h⟩
 | _,_,.cons (x:=x) (d:=d) a b,h=>by
  obtain⟨i,rfl,hi⟩:=zy2 (h d (.head _))
  obtain⟨ns,e1,e2,e3⟩:=zbd1 b fun y hy=>h y (.tail _ hy)
  cases a
  refine⟨i :: ns,by rw[e1];rfl,by rw[e2];rfl,fun y hy=>?_⟩
  rcases zcs2.mp hy with rfl|hy
  ·exact hi
  ·exact e3 y hy
theorem zbf5 {H:Hp}{v:V}{d:PyData}(h:ShV H v d) (e:zal5 d=true):∃ (a:Addr) (ns:List Int),v=.ref a/\H a=some (.lst (ns.map V.int))/\d=.list (ns.map PyData.int)/\∀ x∈ns,0<=x:=by
 cases h
 case lst a xs ds e1 l=>
  have e:ds.all (zu1 0)=true:=e
  rw[zct4] at e
  obtain⟨ns,rfl,rfl,e3⟩:=zbd1 l e
  exact⟨a,ns,rfl,e1,rfl,e3⟩
 all_goals simp[zal5] at e
def numsD (d:PyData):List Int:=(zl0 d).map intD
theorem zak1 (ns:List Int):numsD (.list (ns.map PyData.int))=ns:=by
 unfold numsD zl0
 rw[zct5]
 exact (zcs6 fun x _=>rfl).trans (List.map_id _)
def zbf1 (h f:Int) (d:PyData):Bool:=zal5 d&&decide (((numsD d).length:Int)=f)&&decide ((numsD d).sum=h)
@[irreducible] def zo2:Sp:=fun vs H Q _=>∃ (h f:Int) (v:V) (d:PyData),vs=[.int h,.int f,v]/\ShV H v d/\sml d=true/\∀ H',Same H H'->Q (.bl (zbf1 h f d)) H'
theorem zbc4 {H:Hp}{h f:Int}{v:V}{d:PyData}{Q:VK}{E:XK}(hv:ShV H v d) (hs:sml d=true) (q:∀ H',Same H H'->Q (.bl (zbf1 h f d)) H'):zo2 [.int h,.int f,v] H Q E:=by unfold zo2;exact⟨h,f,v,d,rfl,hv,hs,q⟩
theorem zbh6 {f:Addr}{fd:FuncData}(F:Fun K "is_plan" "is_plan" zs9 f fd) (N:Nm mg) (zcl9:Def P w K mg base CX0 3 "sends_hosts" ["plan"] zg1):FnOk P w K mg base CX0 4 f fd ["hosts","fields","plan"] zo2:=by
 refine F.ok zbh2 (fun vs H Q E h=>by unfold zo2 at h;obtain⟨_,_,_,_,rfl,_⟩:=h;rfl) (fun cdv A outer s H vs Q E hr h=>?_)
 unfold zo2 at h
 obtain⟨h,f,v,d,rfl,hv,hs,q⟩:=h
 have hu:=hu40 hr
 refine⟨_,(za6 (zb0 (zt5 (pD zcl9 hr zb7 (za0 (pq 2) za1)) (zt5 (peC (zai5 (K:=K) rfl (by exact hu)) (pB (zo8 (K:=K) rfl) N.len_ zg5 (za0 (pq 2) za1)) (pq 1)) (zt1 (peC (zai5 (K:=K) rfl (by exact hu)) (pB (zbb2 (K:=K) rfl rfl) N.sum_ zah4 (za0 (pq 2) za1)) (pq 0))))))),?_⟩
 refine zbk4 hv hs (fun H1 s1=>?_)
 have q:=q _ s1
 cases es:zal5 d
 ·walk_at "wh"
  refine br_F ?_
  walk_at "wh"
  unfold zbf1 at q
  rw[es] at q
  exact q
 ·obtain⟨a,ns,rfl,ha,rfl,nn⟩:=zbf5 hv es
  have q:Q (.bl (decide ((ns.length:Int)=f)&&decide (ns.sum=h))) H1:=by
   unfold zbf1 at q
   rw[es,zak1,zcv4] at q
   exact q
  refine br_T ?_
  refine zf3 (s1 _ _ ha) ?_
  rw[zcq3]
  refine zf5 (fun h2=>?_) (fun h2=>?_)
  ·rw[decide_eq_true h2,zcv4] at q
   refine zag4 (s1 _ _ ha) ?_
   walk_at "wh"
   exact q
  ·rw[decide_eq_false h2,Bool.false_and] at q
   walk_at "wh"
   exact q
theorem zcj0 {H:Hp}{xs:List V}{ds:List PyData}(l:ShL H xs ds) (e:xs.length=2):∃ x y a b,xs=[x,y]/\ds=[a,b]/\ShV H x a/\ShV H y b:=by
 cases l with
 | nil=>simp at e
 | cons h1 l=>
  cases l with
  | nil=>simp at e
  | cons h2 l=>
   cases l with
   | nil=>exact⟨_,_,_,_,rfl,rfl,h1,h2⟩
   | cons _ _=>simp at e
theorem getD_some {ds:List PyData}{i:Nat}{d:PyData}(h:ds[i]?=some d):ds.getD i .none=d:=by rw[zcq7,h];rfl
structure zr7 (H:Hp) (m:Addr) (ts:List (Addr×Addr)) (ms:List (List Int×Int)):Prop where
 out:H m=some (.lst (ts.map fun t=>V.ref t.1))
 len:ts.length=ms.length
 part:∀ (i:Nat) t x,ts[i]?=some t->ms[i]?=some x->H t.1=some (.tup [.ref t.2,.int x.2])/\H t.2=some (.lst (x.1.map V.int))
theorem zr7.same {H H':Hp}{m:Addr}{ts:List (Addr×Addr)}{ms:List (List Int×Int)}(M:zr7 H m ts ms) (s:Same H H'):zr7 H' m ts ms:=⟨s _ _ M.out,M.len,fun i t x h1 h2=>⟨s _ _ (M.part i t x h1 h2).1,s _ _ (M.part i t x h1 h2).2⟩⟩
theorem zr7.get {H:Hp}{m:Addr}{ts:List (Addr×Addr)}{ms:List (List Int×Int)}(M:zr7 H m ts ms) {i:Nat}(hi:i<ms.length):∃ t x,ts[i]?=some t/\ms[i]?=some x/\H t.1=some (.tup [.ref t.2,.int x.2])/\H t.2=some (.lst (x.1.map V.int)):=
 ⟨_,_,zcq4 (by have:=M.len;omega),zcq4 hi,M.part i _ _ (zcq4 (by have:=M.len;omega)) (zcq4 hi)⟩
theorem zr7.elt {H:Hp}{m:Addr}{ts:List (Addr×Addr)}{ms:List (List Int×Int)}(M:zr7 H m ts ms) {i:Nat}{v:V}(e:(ts.map fun t=>V.ref t.1)[i]?=some v):∃ t x,v=.ref t.1/\ts[i]?=some t/\ms[i]?=some x/\H t.1=some (.tup [.ref t.2,.int x.2])/\H t.2=some (.lst (x.1.map V.int)):=by
 rw[zcq8] at e
 obtain⟨t,et,rfl⟩:=zcr1.mp e
 obtain⟨t',x,h1,h2,h3⟩:=M.get (i:=i) (by have:=(zcq6.mp et).1;have:=M.len;omega)
 rw[et] at h1
 cases h1
 exact⟨t,x,rfl,et,h2,h3⟩
theorem zr7.ix {H:Hp}{m:Addr}{ts:List (Addr×Addr)}{ms:List (List Int×Int)}(M:zr7 H m ts ms) {k:Nat}{x:List Int×Int}(e:ms[k]?=some x):∃ t,ts[k]?=some t/\atI (ts.map fun t=>V.ref t.1) (k:Int)=some (.ref t.1)/\H t.1=some (.tup [.ref t.2,.int x.2])/\H t.2=some (.lst (x.1.map V.int)):=by
 obtain⟨t,x',h1,h2,h3⟩:=M.get (i:=k) ((zcq6.mp e).1)
 rw[e] at h2
 cases h2
 exact⟨t,h1,zc5 (by rw[zcq8,h1];rfl),h3⟩
def rm (p:Addr) (H:Hp):Hp:=fun b=>if b=p then none else H b
def nw (H H':Hp):Hp:=fun b=>match H b with
 | none=>H' b
 | some _=>none
theorem zo7 {p b:Addr}{H:Hp}{o:HO}(n:b≠p) (h:H b=some o):rm p H b=some o:=by unfold rm;rw[if_neg n];exact h
theorem zh4 {p b:Addr}{H:Hp}{o:HO}(h:rm p H b=some o):b≠p/\H b=some o:=by
 unfold rm at h
 by_cases e:b=p
 ·rw[if_pos e] at h;cases h
 ·rw[if_neg e] at h;exact⟨e,h⟩
theorem zu4 {b:Addr}{H H':Hp}{o:HO}(n:H b=none) (h:H' b=some o):nw H H' b=some o:=by unfold nw;rw[n];exact h
theorem zaf5 {b:Addr}{H H':Hp}{o:HO}(h:nw H H' b=some o):H b=none/\H' b=some o:=by
 unfold nw at h
 cases e:H b with
 | none=>rw[e] at h;exact⟨rfl,h⟩
 | some v=>rw[e] at h;cases h
theorem zk6 (p:Addr) (H:Hp):Same (rm p H) H:=fun b o h=>(zh4 h).2
theorem zci3 (H H':Hp):Same (nw H H') H':=fun b o h=>(zaf5 h).2
theorem Same.rm {p:Addr}{H H':Hp}(s:Same H H'):Same (rm p H) (G.rm p H'):=fun b o h=>zo7 (zh4 h).1 (s _ _ (zh4 h).2)
theorem Chg.rm {p:Addr}{H H':Hp}(s:Chg p H H'):Same (rm p H) (G.rm p H'):=fun b o h=>zo7 (zh4 h).1 (s _ _ (zh4 h).1 (zh4 h).2)
theorem nw_up {H H' H'':Hp}(s:Same H' H''):Same (nw H H') (nw H H''):=fun b o h=>zu4 (zaf5 h).1 (s _ _ (zaf5 h).2)
theorem zci1 {H0 H H':Hp}(s:Same H0 H):Same (nw H H') (nw H0 H'):=fun b o h=>zu4 (s.free (zaf5 h).1) (zaf5 h).2
theorem nw_rm {p:Addr}{o:HO}{H H':Hp}(hp:H p=some o):Same (nw H H') (rm p H'):=fun b o h=>zo7 (fun z=>by have:=(zaf5 h).1;rw[z,hp] at this;cases this) (zaf5 h).2
def zx6:PyData->Bool
 | .tuple [a,b,c]=>zu1 0 a&&zan8 0 (intD a) b&&zu1 1 c
 | _=>false
theorem zbc3 {ds:List PyData}(h:ds.length≠3):zx6 (.tuple ds)=false:=by
 match ds,h with
 | [],_=>rfl
 | [_],_=>rfl
 | [_,_],_=>rfl
 | [_,_,_],h=>simp at h
 | _ :: _ :: _ :: _ :: _,_=>rfl
theorem zaq9 {H:Hp}{xs:List V}{ds:List PyData}(l:ShL H xs ds) (e:xs.length=3):∃ x y z a b c,xs=[x,y,z]/\ds=[a,b,c]/\ShV H x a/\ShV H y b/\ShV H z c:=by
 cases l with
 | nil=>simp at e
 | cons h1 l=>
  obtain⟨y,z,b,c,rfl,rfl,h2,h3⟩:=zcj0 l (by simpa using e)
  exact⟨_,_,_,_,_,_,rfl,rfl,h1,h2,h3⟩
@[irreducible] def zn0:Sp:=fun vs H Q _=>∃ (v:V) (d:PyData),vs=[v]/\ShV H v d/\Q (.bl (zx6 d)) H
theorem zbw1 {H:Hp}{v:V}{d:PyData}{Q:VK}{E:XK}(h:ShV H v d) (q:Q (.bl (zx6 d)) H):zn0 [v] H Q E:=by unfold zn0;exact⟨v,d,rfl,h,q⟩
theorem zbf4 {f:Addr}{fd:FuncData}(F:Fun K "is_flow" "is_flow" zt2 f fd) (N:Nm mg) (zck5:Def P w K mg base CX0 3 "is_between" ["thing","least","most"] zd5) (zck7:Def P w K mg base CX0 2 "is_from" ["thing","least"] zg3):FnOk P w K mg base CX0 4 f fd ["thing"] zn0:=by
 refine F.ok zbh7 (fun vs H Q E h=>by unfold zn0 at h;obtain⟨_,_,rfl,_⟩:=h;rfl) (fun cdv A outer s H vs Q E hr h=>?_)
 unfold zn0 at h
 obtain⟨v,d,rfl,h,q⟩:=h
 have hu:=hu40 hr
 refine⟨_,(za4 (psIf (ptW (pwOr (zr1 (ptV (pB (zah7 (K:=K) rfl) N.isinstance_ zd7 (za0 (pq 0) (za0 (pTy N.tuple_ zan2) za1))))) (zaj8 (ptC (oNeXK (K:=K) rfl (by exact hu)) (pB (zo8 (K:=K) rfl) N.len_ zg5 (za0 (pq 0) za1)) za2)))) (za6 (zb0 zan1)) zc1)
   (za6 (zb0 (zt5 (pD zck7 hr zb7 (za0 (za8 (K:=K) rfl (pq 0) za2) (za0 za2 za1))) (zt5 (pD zck5 hr zb7 (za0 (za8 (K:=K) rfl (pq 0) za2) (za0 za2 (za0 (za8 (K:=K) rfl (pq 0) za2) za1)))) (zt1 (pD zck7 hr zb7 (za0 (za8 (K:=K) rfl (pq 0) za2) (za0 za2 za1))))))))),?_⟩
 refine zy1 h (.inr (.inr (.inr rfl))) ?_
 cases h
 case tup t xs ds e l=>
  have ll:=l.len
  refine zd8 (br_T ?_)
  refine zq7 e ?_
  refine zd8 (zf5 (fun h3=>?_) (fun h3=>?_))
  ·obtain⟨x,y,z,a,b,c,rfl,rfl,ha,hb,hc⟩:=zaq9 l (by walk_at "om")
   have q:Q (.bl (zu1 0 a&&zan8 0 (intD a) b&&zu1 1 c)) H:=q
   refine zb2 (v:=x) e rfl ?_
   refine zag3 ha ?_
   cases e1:zu1 0 a
   ·rw[e1] at q
    refine br_F ?_
    walk_at "wh"
    exact q
   ·rw[e1,zcv4] at q
    obtain⟨i,rfl,hi⟩:=zy2 e1
    cases ha
    refine br_T ?_
    refine zb2 (v:=y) e rfl ?_
    refine zb2 (v:=.int i) e rfl ?_
    refine zbo8 hb ?_
    have q:Q (.bl (zan8 0 i b&&zu1 1 c)) H:=q
    cases e2:zan8 0 i b
    ·rw[e2] at q
     refine br_F ?_
     walk_at "wh"
     exact q
    ·rw[e2,zcv4] at q
     refine br_T ?_
     refine zb2 (v:=z) e rfl ?_
     refine zag3 hc ?_
     walk_at "wh"
     exact q
  ·rw[zbc3 (by walk_at "om")] at q
   walk_at "wh"
   exact q
 all_goals (walk_at "wh";refine zd8 (br_F ?_);walk_at "wh";refine br_T ?_;walk_at "wh";exact q)
theorem zbm0 {l m:Int}{d:PyData}(h:zan8 l m d=true):∃ i,d=.int i/\l<=i/\i<=m:=by
 cases d with
 | int i=>have:=of_decide_eq_true h;exact⟨i,rfl,this⟩
 | _=>simp[zan8] at h
theorem zba1 {H:Hp}{v:V}{d:PyData}(h:ShV H v d) (e:zx6 d=true):∃ (t:Addr) (i j w:Int),v=.ref t/\H t=some (.tup [.int i,.int j,.int w])/\d=.tuple [.int i,.int j,.int w]/\0<=j/\j<=i/\1<=w:=by
 cases h
 case tup t xs ds e1 l=>
  have l3:ds.length=3:=Classical.byContradiction fun z=>by rw[zbc3 z] at e;cases e
  obtain⟨x,y,z,a,b,c,rfl,rfl,ha,hb,hc⟩:=zaq9 l (by rw[l.len];exact l3)
  have e:(zu1 0 a&&zan8 0 (intD a) b&&zu1 1 c)=true:=e
  rw[zcs9,zcs9] at e
  obtain⟨i,rfl,hi⟩:=zy2 e.1.1
  obtain⟨j,rfl,hj1,hj2⟩:=zbm0 e.1.2
  obtain⟨w,rfl,hw⟩:=zy2 e.2
  cases ha
  cases hb
  cases hc
  exact⟨t,i,j,w,rfl,e1,rfl,hj1,hj2,hw⟩
 all_goals simp[zx6] at e
def keyD:PyData->Int×Int
 | .tuple (a :: b :: _)=>(intD a,intD b)
 | _=>(0,0)
def incD (ds:List PyData):Bool:=(List.range (ds.length - 1)).all fun i=>ltP (keyD (ds.getD i .none)) (keyD (ds.getD (i+1) .none))
def rowD:PyData->Bool
 | .list ds=>ds.all zx6&&incD ds
 | _=>false
@[irreducible] def zo9:Sp:=fun vs H Q _=>∃ (v:V) (d:PyData),vs=[v]/\ShV H v d/\sml d=true/\∀ H',Same H H'->Q (.bl (rowD d)) H'
theorem zbl1 {H:Hp}{v:V}{d:PyData}{Q:VK}{E:XK}(h:ShV H v d) (hs:sml d=true) (q:∀ H',Same H H'->Q (.bl (rowD d)) H'):zo9 [v] H Q E:=by unfold zo9;exact⟨v,d,rfl,h,hs,q⟩
theorem zbm6 {f:Addr}{fd:FuncData}(F:Fun K "is_row" "is_row" zv7 f fd) (N:Nm mg) (zcp0:Def P w K mg base CX0 4 "is_flow" ["thing"] zn0):FnOk P w K mg base CX0 5 f fd ["row"] zo9:=by
 refine F.ok zbn2 (fun vs H Q E h=>by unfold zo9 at h;obtain⟨_,_,rfl,_⟩:=h;rfl) (fun cdv A outer s H vs Q E hr h=>?_)
 unfold zo9 at h
 obtain⟨v,d,rfl,h,hs,q⟩:=h
 have hu:=hu40 hr
 refine⟨_,(za4 (psIf (ptW (pwOr (zr1 (ptV (pB (zah7 (K:=K) rfl) N.isinstance_ zd7 (za0 (pq 0) (za0 (pTy N.list_ zaa0) za1))))) (zaj8 (zr1 (ptV (pB (zaj3 (K:=K) rfl rfl) N.all_ zw8 (za0 (zf2 (N:=["thing"]) (ks:=[none]) (ze3 (K:=K) rfl (pq 0)) (fun cl C s3 H3 fp=>(za7 (i:=0) nb_4 rfl (by first|exact Or.inl rfl|exact Or.inr rfl))) (fun cl C s3 H3 fp=>zc4) (fun cl C s3 H3 fp=>(pD zcp0 hr zb7 (za0 (pq 0) za1))) (.skip .nil)) za1))))))) (za6 (zb0 zan1)) zc1)
   (za6 (zb0 (pB (zaj3 (K:=K) rfl rfl) N.all_ zw8 (za0 (zf2 (N:=["one","other"]) (ks:=[none,none]) (zbi6 (K:=K) rfl N.zip_ (za0 (pq 0) (za0 (zr9 (slXK (K:=K) rfl) (pq 0) (zab9 za2) zu9) za1))) (fun cl C s3 H3 fp=>(zk4 (K:=K) (n:=2) rfl rfl (zb4 (za7 (i:=0) nb_5 rfl (by first|exact Or.inl rfl|exact Or.inr rfl)) (zb4 (za7 (i:=1) nb_5 rfl (by first|exact Or.inl rfl|exact Or.inr rfl)) zk5)))) (fun cl C s3 H3 fp=>zc4) (fun cl C s3 H3 fp=>(peC (oLtX (by exact hu)) (zr9 (slXK (K:=K) rfl) (pq 0) zu9 (zab9 za2)) (zr9 (slXK (K:=K) rfl) (pq 1) zu9 (zab9 za2)))) (.skip (.skip .nil))) za1))))),?_⟩
 refine zy1 h (.inr (.inr (.inl rfl))) ?_
 cases h
 case lst a xs ds e l=>
  have ll:=l.len
  obtain⟨dl,dm⟩:=zx1 hs
  refine zd8 (br_T ?_)
  refine zb8 e ?_
  refine zm7 (Wk.list (SqL.of e)) (by rw[sizeLine_eq];omega) (fun i=>.bl (zx6 (ds.getD i .none))) (fun _=>true) (fun j σ=>∃ t:Option V,σ=[t]) ⟨none,rfl⟩ ?_ ?_
  ·rintro j x σ H1 R S hj s1 hx ⟨t,rfl⟩ k _
   obtain⟨d,ed,hd⟩:=l.get j x hx
   refine br_T ?_
   refine zbw1 (hd.same s1) ?_
   walk_at "wh"
   rw[← getD_some ed]
   exact k rfl _ _ (Same.refl _) ⟨_,rfl⟩
  intro acc H1 f1 s1 h1
  rw[ze0,ll,zaa6 zx6] at h1
  refine zu7 h1 ?_
  rw[zam4]
  cases ea:ds.all zx6
  ·walk_at "wh"
   refine zd8 (br_F ?_)
   walk_at "wh"
   have q:Q (.bl (ds.all zx6&&incD ds)) H1:=q _ s1
   rw[ea] at q
   exact q
  have ea':∀ d∈ds,zx6 d=true:=zct4.mp ea
  refine zd8 (br_T ?_)
  have e1:=s1 _ _ e
  refine zal1 (SqL.of e1) (fun p2 H2 f2 s2 h2=>?_)
  rw[zad3 (by walk_at "om")] at h2
  refine zbq5 (SqL.of (s2 _ _ e1)) (SqL.of h2) ?_
  refine zm7 (Wk.zipN (n:=ds.length - 1) (SqL.of (s2 _ _ e1)) (SqL.of h2) (by walk_at "om") (by rw[zcw1];show _<=_ - 1;omega) (.inr (by rw[zcw1,ll];rfl))) (by rw[sizeLine_eq];omega) (fun i=>.bl (ltP (keyD (ds.getD i .none)) (keyD (ds.getD (i+1) .none)))) (fun _=>true) (fun j σ=>∃ t u:Option V,σ=[t,u]) ⟨none,none,rfl⟩ ?_ ?_
  ·rintro j v σ H3 R S hj s3 ⟨p,x,y,rfl,hp,hx,hy⟩ ⟨t,u,rfl⟩ k _
   rw[List.getElem?_drop,show (1:Int).toNat+j=j+1 by show 1+j=j+1;omega] at hy
   obtain⟨d,ed,hd⟩:=l.get j x hx
   obtain⟨d',ed',hd'⟩:=l.get (j+1) y hy
   have s03:=(s1.trans s2).trans s3
   obtain⟨t1,i1,j1,w1,rfl,ht1,rfl,_⟩:=zba1 (hd.same s03) (ea' d (zcr0 ed))
   obtain⟨t2,i2,j2,w2,rfl,ht2,rfl,_⟩:=zba1 (hd'.same s03) (ea' d' (zcr0 ed'))
   rw[getD_some ed,getD_some ed'] at k
   refine zd4 hp ?_
   refine br_T ?_
   refine zcc2 ht1 (fun p4 H4 f4 s4 h4=>?_)
   refine zcc2 (s4 _ _ ht2) (fun p5 H5 f5 s5 h5=>?_)
   refine ltP_rd (x:=(i1,j1)) (y:=(i2,j2)) (s5 _ _ h4) h5 ?_
   walk_at "wh"
   exact k rfl _ _ (s4.trans s5) ⟨_,_,rfl⟩
  intro acc2 H3 f3 s3 h3
  rw[ze0] at h3
  have h3:H3 acc2=some (.lst (((List.range (ds.length - 1)).map fun i=>ltP (keyD (ds.getD i .none)) (keyD (ds.getD (i+1) .none))).map V.bl)):=by rw[h3,zct5];rfl
  refine zu7 h3 ?_
  have q:Q (.bl (ds.all zx6&&incD ds)) H3:=q _ ((s1.trans s2).trans s3)
  rw[ea,zcv4] at q
  rw[zcx6]
  exact q
 all_goals (walk_at "wh";refine zd8 (br_F ?_);walk_at "wh";refine br_T ?_;walk_at "wh";exact q _ (Same.refl _))
def valG {κ:Type}[DecidableEq κ] (kv:List (κ×Int)) (k:κ):Option Int:=(kv.find? fun z=>decide (z.1=k)).map (·.2)
def putG {κ:Type}[DecidableEq κ] (kv:List (κ×Int)) (k:κ) (n:Int):List (κ×Int):=if (kv.any fun z=>decide (z.1=k))=true then kv.map (fun z=>if z.1=k then (z.1,n) else z) else kv++[(k,n)]
def addG {κ:Type}[DecidableEq κ] (s:List (κ×Int)) (z:κ×Int):List (κ×Int):=putG s z.1 ((valG s z.1).getD 0+z.2)
def sumG {κ:Type}[DecidableEq κ] (zs:List (κ×Int)):List (κ×Int):=zs.foldl addG []
def dF {κ κ':Type}(f:κ->κ') (kv:List (κ×Int)):List (κ'×V):=kv.map fun z=>(f z.1,V.int z.2)
section
variable {κ κ':Type}[DecidableEq κ] [DecidableEq κ']
theorem zp5 {z:κ×Int}{kv:List (κ×Int)}{k:κ}(e:z.1=k):valG (z :: kv) k=some z.2:=by unfold valG;rw[zcw4,decide_eq_true e];rfl
theorem zp4 {z:κ×Int}{kv:List (κ×Int)}{k:κ}(e:¬ z.1=k):valG (z :: kv) k=valG kv k:=by unfold valG;rw[zcw4,decide_eq_false e]
theorem zaf3 {f:κ->κ'}(hf:∀ a b,f a=f b->a=b) (k:κ):∀ kv:List (κ×Int),valV (dF f kv) (f k)=(valG kv k).map V.int
 | []=>rfl
 | z :: kv=>by
  show valV ((f z.1,V.int z.2) :: dF f kv) (f k)=_
  by_cases e:z.1=k
  ·rw[zx9 (p:=(f z.1,V.int z.2)) (congrArg f e),zp5 e];rfl
  ·rw[zz4 (p:=(f z.1,V.int z.2)) (fun q=>e (hf _ _ q)),zaf3 hf k kv,zp4 e]
theorem zax0 {f:κ->κ'}(hf:∀ a b,f a=f b->a=b) (kv:List (κ×Int)) (k:κ) (n:Int):putK (dF f kv) (f k) (.int n)=dF f (putG kv k n):=by
 unfold putK putG dF
 have e1:((kv.map fun z=>(f z.1,V.int z.2)).any fun kv=>decide (kv.1=f k))=kv.any fun z=>decide (z.1=k):=by
  rw[List.any_map]
  congr 1;funext z
  exact decide_eq_decide.mpr ⟨hf _ _,congrArg f⟩
 rw[e1]
 split
 ·rw[zct5,zct5]
  refine zcs6 fun z _=>?_
  show (if f z.1=f k then (f z.1,V.int n) else (f z.1,V.int z.2))=(f (if z.1=k then (z.1,n) else z).1,V.int (if z.1=k then (z.1,n) else z).2)
  by_cases e:z.1=k
  ·rw[if_pos (congrArg f e),if_pos e]
  ·rw[if_neg (fun q=>e (hf _ _ q)),if_neg e]
 ·rw[zcs3];rfl
theorem zbv6 (kv:List (κ×Int)) (k:κ) (n:Int):(putG kv k n).length<=kv.length+1:=by
 unfold putG
 split
 ·rw[zcq3];omega
 ·rw[zcr6];exact zcr9 _
theorem zy4 (zs:List (κ×Int)) (z:κ×Int):sumG (zs++[z])=addG (sumG zs) z:=by unfold sumG;rw[List.foldl_append];rfl
theorem zao7 (zs:List (κ×Int)):(sumG zs).length<=zs.length:=by
 have:∀ (zs s:List (κ×Int)),(zs.foldl addG s).length<=s.length+zs.length:=fun zs=>by
  induction zs with
  | nil=>exact fun s=>zcr9 _
  | cons z zs ih=>
   intro s
   have h1:=ih (addG s z)
   have h2:(addG s z).length<=s.length+1:=zbv6 _ _ _
   rw[List.foldl_cons,zct0]
   omega
 have:=this zs []
 unfold sumG
 simpa using this
theorem zaw4 {zs:List (κ×Int)}{i:Nat}{z:κ×Int}(h:zs[i]?=some z):sumG (zs.take (i+1))=addG (sumG (zs.take i)) z:=by
 rw[List.take_succ,h];exact zy4 _ _
end
theorem zbd7 (a b:Int) (h:(Sum.inl a:Key)=Sum.inl b):a=b:=Sum.inl.inj h
theorem zae9 (a b:Int×Int) (h:pK a=pK b):a=b:=by
 unfold pK at h
 simp only[List.cons.injEq,Sum.inl.injEq,and_true] at h
 exact Prod.ext h.1 h.2
@[irreducible] def zr3:Sp:=fun vs H Q _=>
 (∃ (p:Addr) (ts:List Addr) (zs:List (Int×Int)),vs=[.ref p]/\H p=some (.lst (ts.map V.ref))/\ts.length=zs.length/\zs.length<=2000/\(∀ (i:Nat) t z,ts[i]?=some t->zs[i]?=some z->H t=some (.tup [.int z.1,.int z.2]))/\∀ r H',H r=none->Same H H'->H' r=some (.dK (dF Sum.inl (sumG zs)))->Q (.ref r) H') ∨
 ∃ (p:Addr) (ts:List (Addr×Addr)) (zs:List ((Int×Int)×Int)),vs=[.ref p]/\H p=some (.lst (ts.map fun t=>V.ref t.1))/\ts.length=zs.length/\zs.length<=2000/\(∀ (i:Nat) t z,ts[i]?=some t->zs[i]?=some z->H t.1=some (.tup [.ref t.2,.int z.2])/\H t.2=some (.tup (pV z.1)))/\∀ r H',H r=none->Same H H'->H' r=some (.dT (dF pK (sumG zs)))->Q (.ref r) H'
theorem zal0 {H:Hp}{p:Addr}{ts:List Addr}{zs:List (Int×Int)}{Q:VK}{E:XK}(hp:H p=some (.lst (ts.map V.ref))) (hl:ts.length=zs.length) (hz:zs.length<=2000) (ht:∀ (i:Nat) t z,ts[i]?=some t->zs[i]?=some z->H t=some (.tup [.int z.1,.int z.2])) (q:∀ r H',H r=none->Same H H'->H' r=some (.dK (dF Sum.inl (sumG zs)))->Q (.ref r) H'):zr3 [.ref p] H Q E:=by
 unfold zr3;exact .inl ⟨p,ts,zs,rfl,hp,hl,hz,ht,q⟩
theorem zbn5 {f:Addr}{fd:FuncData}(F:Fun K "summed" "summed" zw3 f fd) (N:Nm mg):FnOk P w K mg base CX0 1 f fd ["pairs"] zr3:=by
 refine F.ok zz1 (fun vs H Q E h=>by unfold zr3 at h;rcases h with ⟨_,_,_,rfl,_⟩|⟨_,_,_,rfl,_⟩<;>rfl) (fun cdv A outer s H vs Q E hr h=>?_)
 unfold zr3 at h
 have hu:=hu40 hr
 refine⟨_,(za4 (psS (i:=1) zz1.nd zbo7)
   (za4 (zt9 PassesOwn.never rfl (ze3 (K:=K) rfl (pq 0)) (zk4 (K:=K) (n:=2) rfl rfl (zb4 (za7 (i:=2) zz1.nd rfl (by first|exact Or.inl rfl|exact Or.inr rfl)) (zb4 (za7 (i:=3) zz1.nd rfl (by first|exact Or.inl rfl|exact Or.inr rfl)) zk5))) (za6 (zbz6 (by exact hu) (pq 1) (pq 2) (zb5 oAdd (zbc6 (by exact hu) (pq 1) (pq 2) za2) (pq 3)))))
   (za6 (zb0 (pq 1))))),?_⟩
 rcases h with ⟨p,ts,zs,rfl,hp,hl,hz,ht,q⟩|⟨p,ts,zs,rfl,hp,hl,hz,ht,q⟩
 ·walk_at "wh"
  refine dnK_rd (fun r H1 f1 s1 h1=>?_)
  have npr:p≠r:=za5 hp f1
  refine zb8 (s1 _ _ hp) ?_
  refine zm8 (xs:=ts.map V.ref) (fun i σ I=>∃ t u:Option V,σ=[some (.ref p),some (.ref r),t,u]/\Chg r H1 I/\I r=some (.dK (dF Sum.inl (sumG (zs.take i))))) ?_ ?_ ?_ ?_
  ·exact⟨_,_,rfl,Chg.refl _ _,h1⟩
  ·rintro i σ I _ ⟨_,_,_,c,_⟩
   exact SqL.of (c _ _ npr (s1 _ _ hp))
  ·rintro i v σ I hi ⟨t',u',rfl,c,hr'⟩
   rw[zcq8] at hi
   obtain⟨t,et,rfl⟩:=zcr1.mp hi
   obtain⟨z,ez⟩:∃ z,zs[i]?=some z:=⟨_,zcq4 (by have:=(zcq6.mp et).1;omega)⟩
   have e0:=ht i t z et ez
   have e1:=c _ _ (za5 e0 f1) (s1 _ _ e0)
   refine zd4 e1 ?_
   refine zce4 hr' ?_
   refine zcc3 hr' ?_
   have ev:(valV (dF Sum.inl (sumG (zs.take i))) (Sum.inl z.1:Key)).getD (V.int 0)=.int ((valG (sumG (zs.take i)) z.1).getD 0):=by
    rw[zaf3 zbd7]
    cases valG (sumG (zs.take i)) z.1<;>rfl
   rw[ev]
   refine dpK_rd hr' (by unfold dF;rw[zcq3,sizeLine_eq];have:=zao7 (zs.take i);rw[zcw0] at this;omega) (fun I2 c2 h2=>?_)
   rw[zax0 zbd7] at h2
   walk_at "wh"
   exact⟨_,_,rfl,c.trans c2,by rw[zaw4 ez];exact h2⟩
  ·rintro σ I ⟨t',u',rfl,c,hr'⟩
   rw[zcq3,hl,zcy2] at hr'
   walk_at "wh"
   exact q r I f1 (s1.chg f1 c) hr'
 ·walk_at "wh"
  refine zca9 (fun r H1 f1 s1 h1=>?_)
  have npr:p≠r:=za5 hp f1
  refine zb8 (s1 _ _ hp) ?_
  refine zm8 (xs:=ts.map fun t=>V.ref t.1) (fun i σ I=>∃ t u:Option V,σ=[some (.ref p),some (.ref r),t,u]/\Chg r H1 I/\I r=some (.dT (dF pK (sumG (zs.take i))))) ?_ ?_ ?_ ?_
  ·exact⟨_,_,rfl,Chg.refl _ _,h1⟩
  ·rintro i σ I _ ⟨_,_,_,c,_⟩
   exact SqL.of (c _ _ npr (s1 _ _ hp))
  ·rintro i v σ I hi ⟨t',u',rfl,c,hr'⟩
   rw[zcq8] at hi
   obtain⟨t,et,rfl⟩:=zcr1.mp hi
   obtain⟨z,ez⟩:∃ z,zs[i]?=some z:=⟨_,zcq4 (by have:=(zcq6.mp et).1;omega)⟩
   obtain⟨e0,e0'⟩:=ht i t z et ez
   have e1:=c _ _ (za5 e0 f1) (s1 _ _ e0)
   have e2:=c _ _ (za5 e0' f1) (s1 _ _ e0')
   refine zd4 e1 ?_
   refine zbr0 hr' ?_
   refine zbp8 hr' (k:=pK z.1) e2 ?_
   have ev:(valV (dF pK (sumG (zs.take i))) (pK z.1)).getD (V.int 0)=.int ((valG (sumG (zs.take i)) z.1).getD 0):=by
    rw[zaf3 zae9]
    cases valG (sumG (zs.take i)) z.1<;>rfl
   rw[ev]
   refine zcb8 hr' (k:=pK z.1) e2 (by unfold dF;rw[zcq3,sizeLine_eq];have:=zao7 (zs.take i);rw[zcw0] at this;omega) (fun I2 c2 h2=>?_)
   rw[zax0 zae9] at h2
   walk_at "wh"
   exact⟨_,_,rfl,c.trans c2,by rw[zaw4 ez];exact h2⟩
  ·rintro σ I ⟨t',u',rfl,c,hr'⟩
   rw[zcq3,hl,zcy2] at hr'
   walk_at "wh"
   exact q r I f1 (s1.chg f1 c) hr'
def triD:PyData->Int×Int×Int
 | .tuple [a,b,c]=>(intD a,intD b,intD c)
 | _=>(0,0,0)
def rowF (d:PyData):List (Int×Int×Int):=(zl0 d).map triD
def zaa3:PyData->Bool
 | .list ds=>decide (0<ds.length)&&rowD (ds.getD 0 .none)&&decide (0<(zl0 (ds.getD 0 .none)).length)
 | _=>false
theorem zar7 {H:Hp}{v:V}{d:PyData}(h:ShV H v d) (e:rowD d=true):∃ (a:Addr) (ts:List Addr) (ds:List PyData),v=.ref a/\d=.list ds/\H a=some (.lst (ts.map V.ref))/\ts.length=ds.length/\(∀ (i:Nat) t x,ts[i]?=some t->(rowF d)[i]?=some x->H t=some (.tup [.int x.1,.int x.2.1,.int x.2.2]))/\∀ x∈rowF d,0<=x.2.1/\x.2.1<=x.1/\1<=x.2.2:=by
 cases h
 case lst a xs ds e1 l=>
  have e:(ds.all zx6&&incD ds)=true:=e
  have ea:=zct4.mp (Bool.and_eq_true_iff.mp e).1
  have key:∀ {xs:List V}{ds:List PyData},ShL H xs ds->(∀ d∈ds,zx6 d=true)->∃ ts:List Addr,xs=ts.map V.ref/\(∀ (i:Nat) t x,ts[i]?=some t->(ds.map triD)[i]?=some x->H t=some (.tup [.int x.1,.int x.2.1,.int x.2.2]))/\∀ x∈ds.map triD,0<=x.2.1/\x.2.1<=x.1/\1<=x.2.2:=fun {xs ds} l ea=>by
   induction ds generalizing xs with
   | nil=>cases l;exact⟨[],rfl,fun i t x h=>by simp at h,fun x h=>by cases h⟩
   | cons d ds ih=>
    cases l with
    | cons h1 l=>
     obtain⟨ts,rfl,k1,k2⟩:=ih l fun d hd=>ea d (.tail _ hd)
     obtain⟨t,i,j,w,rfl,ht,rfl,hj1,hj2,hw⟩:=zba1 h1 (ea _ (.head _))
     refine⟨t :: ts,rfl,fun n t' x g1 g2=>?_,fun x hx=>?_⟩
     ·match n with
      | 0=>cases g1;cases g2;exact ht
      | n+1=>exact k1 n t' x g1 g2
     ·rcases zcs2.mp hx with rfl|hx
      ·exact⟨hj1,hj2,hw⟩
      ·exact k2 x hx
  obtain⟨ts,rfl,k1,k2⟩:=key l ea
  exact⟨a,ts,ds,rfl,rfl,e1,by have:=l.len;rwa [zcq3] at this,k1,k2⟩
 all_goals simp[rowD] at e
theorem zo4 (ds:List PyData):(rowF (.list ds)).length=ds.length:=by unfold rowF;rw[zcq3];rfl
@[irreducible] def zr4:Sp:=fun vs H Q _=>∃ (v:V) (d:PyData),vs=[v]/\ShV H v d/\sml d=true/\∀ H',Same H H'->Q (.bl (zaa3 d)) H'
theorem zbg2 {H:Hp}{v:V}{d:PyData}{Q:VK}{E:XK}(h:ShV H v d) (hs:sml d=true) (q:∀ H',Same H H'->Q (.bl (zaa3 d)) H'):zr4 [v] H Q E:=by unfold zr4;exact⟨v,d,rfl,h,hs,q⟩
theorem zbk7 {f:Addr}{fd:FuncData}(F:Fun K "begins" "begins" zw1 f fd) (N:Nm mg) (zcn0:Def P w K mg base CX0 5 "is_row" ["row"] zo9):FnOk P w K mg base CX0 6 f fd ["stream"] zr4:=by
 refine F.ok zbn4 (fun vs H Q E h=>by unfold zr4 at h;obtain⟨_,_,rfl,_⟩:=h;rfl) (fun cdv A outer s H vs Q E hr h=>?_)
 unfold zr4 at h
 obtain⟨v,d,rfl,h,hs,q⟩:=h
 have hu:=hu40 hr
 refine⟨_,(za6 (zb0 (zt5 (pB (zah7 (K:=K) rfl) N.isinstance_ zd7 (za0 (pq 0) (za0 (pTy N.list_ zaa0) za1))) (zt5 (peC oGt (pB (zo8 (K:=K) rfl) N.len_ zg5 (za0 (pq 0) za1)) za2) (zt5 (pD zcn0 hr zb7 (za0 (za8 (K:=K) rfl (pq 0) za2) za1)) (zt1 (peC oGt (pB (zo8 (K:=K) rfl) N.len_ zg5 (za0 (za8 (K:=K) rfl (pq 0) za2) za1)) za2))))))),?_⟩
 refine zy1 h (.inr (.inr (.inl rfl))) ?_
 cases h
 case lst a xs ds e l=>
  have ll:=l.len
  obtain⟨dl,dm⟩:=zx1 hs
  have q:∀ H',Same H H'->Q (.bl (decide (0<ds.length)&&rowD (ds.getD 0 .none)&&decide (0<(zl0 (ds.getD 0 .none)).length))) H':=q
  refine br_T ?_
  refine zf3 e ?_
  rw[ll]
  refine zf5 (fun h0=>?_) (fun h0=>?_)
  ·rw[decide_eq_true (show 0<ds.length by walk_at "om"),zcv4] at q
   obtain⟨x0,ex0⟩:∃ x,xs[0]?=some x:=⟨_,zcq4 (by walk_at "om")⟩
   obtain⟨d0,ed0,hd0⟩:=l.get 0 x0 ex0
   rw[getD_some ed0] at q
   have at0:atI xs 0=some x0:=zc5 (j:=0) ex0
   refine zb6 (v:=x0) e at0 ?_
   refine zbl1 hd0 (dm d0 (zcr0 ed0)) (fun H1 s1=>?_)
   cases er:rowD d0
   ·have q:=q _ s1
    rw[er] at q
    refine br_F ?_
    walk_at "wh"
    exact q
   ·have q:=q _ s1
    rw[er,zcv4] at q
    obtain⟨b,ts,es,rfl,rfl,hb,hl,_⟩:=zar7 hd0 er
    refine br_T ?_
    refine zb6 (v:=.ref b) (s1 _ _ e) at0 ?_
    refine zf3 (s1 _ _ hb) ?_
    rw[zcq3,hl]
    walk_at "wh"
    have ed:decide ((es.length:Int)>0)=decide (0<(zl0 (.list es)).length):=decide_eq_decide.mpr (by show (es.length:Int)>0↔0<es.length;omega)
    first|(rw[← ed] at q;exact q)|exact q
  ·have q:=q _ (Same.refl _)
   rw[decide_eq_false (show ¬ 0<ds.length by walk_at "om")] at q
   walk_at "wh"
   exact q
 all_goals (walk_at "wh";refine br_F ?_;walk_at "wh";exact q _ (Same.refl _))
def zad6 (a b:PyData):Bool:=eqDI (sumG ((rowF a).map fun z=>(z.1 - z.2.1,z.2.2))) (sumG ((rowF b).map fun z=>(z.1,z.2.2)))
@[irreducible] def zt4:Sp:=fun vs H Q _=>∃ (v u:V) (d e:PyData),vs=[v,u]/\ShV H v d/\ShV H u e/\rowD d=true/\rowD e=true/\(zl0 d).length<=1000/\(zl0 e).length<=1000/\∀ H',Same H H'->Q (.bl (zad6 d e)) H'
theorem zbq1 {H:Hp}{v u:V}{d e:PyData}{Q:VK}{E:XK}(hv:ShV H v d) (hu:ShV H u e) (rd:rowD d=true) (re:rowD e=true) (ld:(zl0 d).length<=1000) (le:(zl0 e).length<=1000) (q:∀ H',Same H H'->Q (.bl (zad6 d e)) H'):zt4 [v,u] H Q E:=by unfold zt4;exact⟨v,u,d,e,rfl,hv,hu,rd,re,ld,le,q⟩
theorem zby3 {f:Addr}{fd:FuncData}(F:Fun K "meets" "meets" zaa7 f fd) (N:Nm mg) (zco8:Def P w K mg base CX0 1 "summed" ["pairs"] zr3):FnOk P w K mg base CX0 2 f fd ["ahead","row"] zt4:=by
 refine F.ok zbb5 (fun vs H Q E h=>by unfold zt4 at h;obtain⟨_,_,_,_,rfl,_⟩:=h;rfl) (fun cdv A outer s H vs Q E hr h=>?_)
 unfold zt4 at h
 obtain⟨v,u,d,e,rfl,hv,hu',rd,re,ld,le,q⟩:=h
 have hu:=hu40 hr
 obtain⟨a,ts,ds,rfl,rfl,ha,hl,hp,_⟩:=zar7 hv rd
 obtain⟨b,us,es,rfl,rfl,hb,hl',hp',_⟩:=zar7 hu' re
 have ld:ds.length<=1000:=ld
 have le:es.length<=1000:=le
 refine⟨_,(za4 (psS (i:=2) zbb5.nd (pD zco8 hr zb7 (za0 (zf2 (N:=["left","sent","flow"]) (ks:=[none,none,none]) (ze3 (K:=K) rfl (pq 0)) (fun cl C s3 H3 fp=>(zk4 (K:=K) (n:=3) rfl rfl (zb4 (za7 (i:=0) nb_6 rfl (by first|exact Or.inl rfl|exact Or.inr rfl)) (zb4 (za7 (i:=1) nb_6 rfl (by first|exact Or.inl rfl|exact Or.inr rfl)) (zb4 (za7 (i:=2) nb_6 rfl (by first|exact Or.inl rfl|exact Or.inr rfl)) zk5))))) (fun cl C s3 H3 fp=>zc4) (fun cl C s3 H3 fp=>(zp3 (za0 (zb5 oSub (pq 0) (pq 1)) (za0 (pq 2) za1)))) (.skip (.skip (.skip .nil)))) za1)))
   (za6 (zb0 (peC (zai5 (K:=K) rfl (by exact hu)) (pq 2) (pD zco8 hr zb7 (za0 (zf2 (N:=["left","sent","flow"]) (ks:=[none,none,none]) (ze3 (K:=K) rfl (pq 1)) (fun cl C s3 H3 fp=>(zk4 (K:=K) (n:=3) rfl rfl (zb4 (za7 (i:=0) nb_6 rfl (by first|exact Or.inl rfl|exact Or.inr rfl)) (zb4 (za7 (i:=1) nb_6 rfl (by first|exact Or.inl rfl|exact Or.inr rfl)) (zb4 (za7 (i:=2) nb_6 rfl (by first|exact Or.inl rfl|exact Or.inr rfl)) zk5))))) (fun cl C s3 H3 fp=>zc4) (fun cl C s3 H3 fp=>(zp3 (za0 (pq 0) (za0 (pq 2) za1)))) (.skip (.skip (.skip .nil)))) za1)))))),?_⟩
 refine zb8 ha ?_
 refine zac0 (Wk.list (SqL.of ha)) (by rw[zcq3,sizeLine_eq];omega) (fun i=>.tup [.int (((rowF (.list ds)).getD i (0,0,0)).1 - ((rowF (.list ds)).getD i (0,0,0)).2.1),.int ((rowF (.list ds)).getD i (0,0,0)).2.2]) (fun j σ=>∃ t u w:Option V,σ=[t,u,w]) ⟨none,none,none,rfl⟩ ?_ ?_
 ·rintro i x σ I R S hi s1 hx ⟨_,_,_,rfl⟩ k
  rw[zcq3] at hi
  rw[zcq8] at hx
  obtain⟨t,et,rfl⟩:=zcr1.mp hx
  obtain⟨z,ez⟩:∃ z,(rowF (.list ds))[i]?=some z:=⟨_,zcq4 (by rw[zo4];omega)⟩
  rw[show (rowF (.list ds)).getD i (0,0,0)=z by rw[zcq7,ez];rfl] at k
  refine zd4 (s1 _ _ (hp i t z et ez)) ?_
  refine br_T ?_
  refine zd9 (fun p I1 f1 r1 k1=>?_)
  walk_at "wh"
  exact k _ _ _ f1 r1 k1 ⟨_,_,_,rfl⟩
 rintro l1 ps1 H1 F1
 rw[zcq3] at F1
 refine zal0 (zs:=(rowF (.list ds)).map fun z=>(z.1 - z.2.1,z.2.2)) F1.out (by rw[F1.len,zcq3,zo4];exact hl) (by rw[zcq3,zo4];omega) (fun i t z g1 g2=>?_) (fun r2 H2 f2 s2 h2=>?_)
 ·rw[zcq8] at g2
  obtain⟨y,ey,rfl⟩:=zcr1.mp g2
  have:=(F1.row i t g1).2
  rw[show (rowF (.list ds)).getD i (0,0,0)=y by rw[zcq7,ey];rfl] at this
  exact this
 have hb2:=s2 _ _ (F1.same _ _ hb)
 refine zb8 hb2 ?_
 refine zac0 (Wk.list (SqL.of hb2)) (by rw[zcq3,sizeLine_eq];omega) (fun i=>.tup [.int ((rowF (.list es)).getD i (0,0,0)).1,.int ((rowF (.list es)).getD i (0,0,0)).2.2]) (fun j σ=>∃ t u w:Option V,σ=[t,u,w]) ⟨none,none,none,rfl⟩ ?_ ?_
 ·rintro i x σ I R S hi s1 hx ⟨_,_,_,rfl⟩ k
  rw[zcq3] at hi
  rw[zcq8] at hx
  obtain⟨t,et,rfl⟩:=zcr1.mp hx
  obtain⟨z,ez⟩:∃ z,(rowF (.list es))[i]?=some z:=⟨_,zcq4 (by rw[zo4];omega)⟩
  rw[show (rowF (.list es)).getD i (0,0,0)=z by rw[zcq7,ez];rfl] at k
  refine zd4 (s1 _ _ (s2 _ _ (F1.same _ _ (hp' i t z et ez)))) ?_
  refine br_T ?_
  refine zd9 (fun p I1 f1 r1 k1=>?_)
  walk_at "wh"
  exact k _ _ _ f1 r1 k1 ⟨_,_,_,rfl⟩
 rintro l3 ps3 H3 F3
 rw[zcq3] at F3
 refine zal0 (zs:=(rowF (.list es)).map fun z=>(z.1,z.2.2)) F3.out (by rw[F3.len,zcq3,zo4];exact hl') (by rw[zcq3,zo4];omega) (fun i t z g1 g2=>?_) (fun r4 H4 f4 s4 h4=>?_)
 ·rw[zcq8] at g2
  obtain⟨y,ey,rfl⟩:=zcr1.mp g2
  have:=(F3.row i t g1).2
  rw[show (rowF (.list es)).getD i (0,0,0)=y by rw[zcq7,ey];rfl] at this
  exact this
 refine eqD_rd (s4 _ _ (F3.same _ _ h2)) h4 ?_
 walk_at "wh"
 exact q _ (((F1.same.trans s2).trans F3.same).trans s4)
def fullD (h:Int) (d:PyData):Bool:=(rowF d).all fun z=>decide (z.1=h)
def goneD (d:PyData):Bool:=(rowF d).all fun z=>decide (z.1=z.2.1)
def zad9 (ds:List PyData):Bool:=(List.range (ds.length - 1)).all fun i=>zad6 (ds.getD i .none) (ds.getD (i+1) .none)
def zt8 (h f:Int) (d:PyData):Bool:=zaa3 d&&(decide (((zl0 d).length:Int)=f)&&((zl0 d).all rowD&&(fullD h ((zl0 d).getD 0 .none)&&(goneD ((zl0 d).getD ((zl0 d).length - 1) .none)&&zad9 (zl0 d)))))
theorem zbe7 {α:Type}(g:α->Bool) (xs:List α):(xs.map g).all id=xs.all g:=by rw[zcx6];rfl
theorem zaq8 {xs:List (Int×Int×Int)}(g:Int×Int×Int->Bool):(List.range xs.length).map (fun i=>V.bl (g (xs.getD i (0,0,0))))=(xs.map g).map V.bl:=by
 apply zcw2
 intro i
 rw[zcq8,zcq8,zcq8]
 by_cases h:i<xs.length
 ·rw[zcv3 h,zcq4 h]
  simp[h]
 ·rw[zct2 (by simp;omega),zct2 (by walk_at "om")]
  rfl
@[irreducible] def zi4:Sp:=fun vs H Q _=>∃ (h f:Int) (v:V) (d:PyData),vs=[.int h,.int f,v]/\ShV H v d/\sml d=true/\∀ H',Same H H'->Q (.bl (zt8 h f d)) H'
theorem zbi3 {H:Hp}{h f:Int}{v:V}{d:PyData}{Q:VK}{E:XK}(hv:ShV H v d) (hs:sml d=true) (q:∀ H',Same H H'->Q (.bl (zt8 h f d)) H'):zi4 [.int h,.int f,v] H Q E:=by unfold zi4;exact⟨h,f,v,d,rfl,hv,hs,q⟩
set_option maxHeartbeats 0 in
theorem zau9 {f:Addr}{fd:FuncData}(F:Fun K "is_stream" "is_stream" zn1 f fd) (N:Nm mg) (zcp1:Def P w K mg base CX0 6 "begins" ["stream"] zr4) (zcn0:Def P w K mg base CX0 5 "is_row" ["row"] zo9) (zcp6:Def P w K mg base CX0 2 "meets" ["ahead","row"] zt4):FnOk P w K mg base CX0 7 f fd ["hosts","fields","stream"] zi4:=by
 refine F.ok zv3 (fun vs H Q E h=>by unfold zi4 at h;obtain⟨_,_,_,_,rfl,_⟩:=h;rfl) (fun cdv A outer s H vs Q E hr h=>?_)
 unfold zi4 at h
 obtain⟨h,f,v,d,rfl,hv,hs,q⟩:=h
 have hu:=hu40 hr
 refine⟨_,(za4 (psIf (ptW (pwOr (zr1 (ptV (pD zcp1 hr zb7 (za0 (pq 2) za1)))) (pwOr (ptC (oNeXK (K:=K) rfl (by exact hu)) (pB (zo8 (K:=K) rfl) N.len_ zg5 (za0 (pq 2) za1)) (pq 1)) (zaj8 (zr1 (ptV (pB (zaj3 (K:=K) rfl rfl) N.all_ zw8 (za0 (zf2 (N:=["row"]) (ks:=[none]) (ze3 (K:=K) rfl (pq 2)) (fun cl C s3 H3 fp=>(za7 (i:=0) nb_7 rfl (by first|exact Or.inl rfl|exact Or.inr rfl))) (fun cl C s3 H3 fp=>zc4) (fun cl C s3 H3 fp=>(pD zcn0 hr zb7 (za0 (pq 0) za1))) (.skip .nil)) za1)))))))) (za6 (zb0 zan1)) zc1)
   (za4 (psS (i:=3) zv3.nd (pB (zaj3 (K:=K) rfl rfl) N.all_ zw8 (za0 (zf2 (N:=["left","sent","flow","hosts"]) (ks:=[none,none,none,some 0]) (ze3 (K:=K) rfl (za8 (K:=K) rfl (pq 2) za2)) (fun cl C s3 H3 fp=>(zk4 (K:=K) (n:=3) rfl rfl (zb4 (za7 (i:=0) nb_8 rfl (by first|exact Or.inl rfl|exact Or.inr rfl)) (zb4 (za7 (i:=1) nb_8 rfl (by first|exact Or.inl rfl|exact Or.inr rfl)) (zb4 (za7 (i:=2) nb_8 rfl (by first|exact Or.inl rfl|exact Or.inr rfl)) zk5))))) (fun cl C s3 H3 fp=>zc4) (fun cl C s3 H3 fp=>(peC (zai5 (K:=K) rfl (by exact hu)) (pq 0) (pq 3))) (.skip (.skip (.skip (.take rfl rfl (by first|exact Or.inl rfl|exact Or.inr rfl) .nil))))) za1)))
   (za4 (psS (i:=4) zv3.nd (pB (zaj3 (K:=K) rfl rfl) N.all_ zw8 (za0 (zf2 (N:=["left","sent","flow"]) (ks:=[none,none,none]) (ze3 (K:=K) rfl (za8 (K:=K) rfl (pq 2) (zai3 uNeg za2))) (fun cl C s3 H3 fp=>(zk4 (K:=K) (n:=3) rfl rfl (zb4 (za7 (i:=0) nb_9 rfl (by first|exact Or.inl rfl|exact Or.inr rfl)) (zb4 (za7 (i:=1) nb_9 rfl (by first|exact Or.inl rfl|exact Or.inr rfl)) (zb4 (za7 (i:=2) nb_9 rfl (by first|exact Or.inl rfl|exact Or.inr rfl)) zk5))))) (fun cl C s3 H3 fp=>zc4) (fun cl C s3 H3 fp=>(peC (zai5 (K:=K) rfl (by exact hu)) (pq 0) (pq 1))) (.skip (.skip (.skip .nil)))) za1)))
   (za6 (zb0 (zt5 (pq 3) (zt5 (pq 4) (zt1 (pB (zaj3 (K:=K) rfl rfl) N.all_ zw8 (za0 (zf2 (N:=["ahead","row"]) (ks:=[none,none]) (zbi6 (K:=K) rfl N.zip_ (za0 (pq 2) (za0 (zr9 (slXK (K:=K) rfl) (pq 2) (zab9 za2) zu9) za1))) (fun cl C s3 H3 fp=>(zk4 (K:=K) (n:=2) rfl rfl (zb4 (za7 (i:=0) nb_10 rfl (by first|exact Or.inl rfl|exact Or.inr rfl)) (zb4 (za7 (i:=1) nb_10 rfl (by first|exact Or.inl rfl|exact Or.inr rfl)) zk5)))) (fun cl C s3 H3 fp=>zc4) (fun cl C s3 H3 fp=>(pD zcp6 hr zb7 (za0 (pq 0) (za0 (pq 1) za1)))) (.skip (.skip .nil))) za1)))))))))),?_⟩
 refine zbg2 hv hs (fun H1 s1=>?_)
 unfold zt8 at q
 cases eb:zaa3 d
 ·have q:=q _ s1
  rw[eb] at q
  refine zd8 (br_F ?_)
  refine br_T ?_
  walk_at "wh"
  exact q
 cases hv
 case lst a xs ds e l=>
  have q:∀ H',Same H H'->Q (.bl (true&&(decide ((ds.length:Int)=f)&&(ds.all rowD&&(fullD h (ds.getD 0 .none)&&(goneD (ds.getD (ds.length - 1) .none)&&zad9 ds)))))) H':=fun H' s'=>by
   have q:=q H' s'
   rw[eb] at q
   exact q
  have ll:=l.len
  obtain⟨dl,dm⟩:=zx1 hs
  have d0:0<ds.length:=by
   have eb:(decide (0<ds.length)&&rowD (ds.getD 0 .none)&&decide (0<(zl0 (ds.getD 0 .none)).length))=true:=eb
   rw[zcs9,zcs9] at eb
   exact of_decide_eq_true eb.1.1
  have e1:=s1 _ _ e
  refine zd8 (br_T ?_)
  refine zf3 e1 ?_
  rw[ll]
  refine zd8 (zf5 (fun hf=>?_) (fun hf=>?_))
  ·rw[decide_eq_true hf,zcv4,zcv4] at q
   refine zb8 e1 ?_
   refine zm7 (Wk.list (SqL.of e1)) (by rw[sizeLine_eq];omega) (fun i=>.bl (rowD (ds.getD i .none))) (fun _=>true) (fun j σ=>∃ t:Option V,σ=[t]) ⟨none,rfl⟩ ?_ ?_
   ·rintro j x σ H2 R S hj s2 hx ⟨t,rfl⟩ k _
    obtain⟨d,ed,hd⟩:=l.get j x hx
    refine br_T ?_
    refine zbl1 (hd.same (s1.trans s2)) (dm d (zcr0 ed)) (fun H3 s3=>?_)
    walk_at "wh"
    rw[← getD_some ed]
    exact k rfl _ _ s3 ⟨_,rfl⟩
   intro acc H2 f2 s2 h2
   rw[ze0,ll,zaa6 rowD] at h2
   have s02:=s1.trans s2
   refine zu7 h2 ?_
   rw[zam4]
   cases ea:ds.all rowD
   ·have q:=q _ s02
    rw[ea] at q
    refine zd8 (br_F ?_)
    walk_at "wh"
    exact q
   have ea':∀ d∈ds,rowD d=true:=zct4.mp ea
   rw[ea,zcv4] at q
   refine zd8 (br_T ?_)
   obtain⟨x0,ex0⟩:∃ x,xs[0]?=some x:=⟨_,zcq4 (by walk_at "om")⟩
   obtain⟨d0',ed0,hd0⟩:=l.get 0 x0 ex0
   have m0:=dm d0' (zcr0 ed0)
   obtain⟨r0,ts0,es0,rfl,rfl,hr0,hl0,hp0,_⟩:=zar7 hd0 (ea' d0' (zcr0 ed0))
   have b0:=(zx1 m0).1
   rw[getD_some ed0] at q
   have e2:=s2 _ _ e1
   refine zb6 (v:=.ref r0) e2 (zc5 (j:=0) ex0) ?_
   refine zb8 (s02 _ _ hr0) ?_
   refine zm7 (Wk.list (SqL.of (s02 _ _ hr0))) (by rw[zcq3,sizeLine_eq];omega) (fun i=>.bl (decide (((rowF (.list es0)).getD i (0,0,0)).1=h))) (fun _=>true) (fun j σ=>∃ t u w:Option V,σ=[t,u,w,some (.int h)]) ⟨none,none,none,rfl⟩ ?_ ?_
   ·rintro i x σ I R S hi s3 hx ⟨_,_,_,rfl⟩ k _
    rw[zcq3] at hi
    rw[zcq8] at hx
    obtain⟨t,et,rfl⟩:=zcr1.mp hx
    obtain⟨z,ez⟩:∃ z,(rowF (.list es0))[i]?=some z:=⟨_,zcq4 (by rw[zo4];omega)⟩
    rw[show (rowF (.list es0)).getD i (0,0,0)=z by rw[zcq7,ez];rfl] at k
    refine zd4 (s3 _ _ (s02 _ _ (hp0 i t z et ez))) ?_
    refine br_T ?_
    walk_at "wh"
    exact k rfl _ _ (Same.refl _) ⟨_,_,_,rfl⟩
   intro acc3 H3 f3 s3 h3
   rw[ze0,zcq3,hl0,← zo4 es0,zaq8 fun z=>decide (z.1=h)] at h3
   refine zu7 h3 ?_
   rw[zbe7]
   obtain⟨x1,ex1⟩:∃ x,xs[ds.length - 1]?=some x:=⟨_,zcq4 (by walk_at "om")⟩
   obtain⟨d1',ed1,hd1⟩:=l.get _ x1 ex1
   have m1:=dm d1' (zcr0 ed1)
   obtain⟨r1,ts1,es1,rfl,rfl,hr1,hl1,hp1,_⟩:=zar7 hd1 (ea' d1' (zcr0 ed1))
   have b1:=(zx1 m1).1
   rw[getD_some ed1] at q
   have s03:=s02.trans s3
   have e3:=s3 _ _ e2
   refine zb6 (v:=.ref r1) e3 (zax1 (n:=ds.length - 1) (by walk_at "om") ex1) ?_
   refine zb8 (s03 _ _ hr1) ?_
   refine zm7 (Wk.list (SqL.of (s03 _ _ hr1))) (by rw[zcq3,sizeLine_eq];omega) (fun i=>.bl (decide (((rowF (.list es1)).getD i (0,0,0)).1=((rowF (.list es1)).getD i (0,0,0)).2.1))) (fun _=>true) (fun j σ=>∃ t u w:Option V,σ=[t,u,w]) ⟨none,none,none,rfl⟩ ?_ ?_
   ·rintro i x σ I R S hi s4 hx ⟨_,_,_,rfl⟩ k _
    rw[zcq3] at hi
    rw[zcq8] at hx
    obtain⟨t,et,rfl⟩:=zcr1.mp hx
    obtain⟨z,ez⟩:∃ z,(rowF (.list es1))[i]?=some z:=⟨_,zcq4 (by rw[zo4];omega)⟩
    rw[show (rowF (.list es1)).getD i (0,0,0)=z by rw[zcq7,ez];rfl] at k
    refine zd4 (s4 _ _ (s03 _ _ (hp1 i t z et ez))) ?_
    refine br_T ?_
    walk_at "wh"
    exact k rfl _ _ (Same.refl _) ⟨_,_,_,rfl⟩
   intro acc4 H4 f4 s4 h4
   rw[ze0,zcq3,hl1,← zo4 es1,zaq8 fun z=>decide (z.1=z.2.1)] at h4
   refine zu7 h4 ?_
   rw[zbe7]
   have s04:=s03.trans s4
   have e4:=s4 _ _ e3
   have q:∀ H',Same H H'->Q (.bl ((rowF (.list es0)).all (fun z=>decide (z.1=h))&&((rowF (.list es1)).all (fun z=>decide (z.1=z.2.1))&&zad9 ds))) H':=q
   walk_at "wh"
   cases e5:(rowF (.list es0)).all (fun z=>decide (z.1=h))
   ·have q:=q _ s04
    rw[e5] at q
    refine br_F ?_
    walk_at "wh"
    exact q
   rw[e5,zcv4] at q
   refine br_T ?_
   walk_at "wh"
   cases e6:(rowF (.list es1)).all (fun z=>decide (z.1=z.2.1))
   ·have q:=q _ s04
    rw[e6] at q
    refine br_F ?_
    walk_at "wh"
    exact q
   rw[e6,zcv4] at q
   refine br_T ?_
   refine zal1 (SqL.of e4) (fun p5 H5 f5 s5 h5=>?_)
   rw[zad3 (by walk_at "om")] at h5
   have s05:=s04.trans s5
   refine zbq5 (SqL.of (s5 _ _ e4)) (SqL.of h5) ?_
   refine zm7 (Wk.zipN (n:=ds.length - 1) (SqL.of (s5 _ _ e4)) (SqL.of h5) (by walk_at "om") (by rw[zcw1];show _<=_ - 1;omega) (.inr (by rw[zcw1,ll];rfl))) (by rw[sizeLine_eq];omega) (fun i=>.bl (zad6 (ds.getD i .none) (ds.getD (i+1) .none))) (fun _=>true) (fun j σ=>∃ t u:Option V,σ=[t,u]) ⟨none,none,rfl⟩ ?_ ?_
   ·rintro j v σ H6 R S hj s6 ⟨p,x,y,rfl,hp,hx,hy⟩ ⟨t,u,rfl⟩ k _
    rw[List.getElem?_drop,show (1:Int).toNat+j=j+1 by show 1+j=j+1;omega] at hy
    obtain⟨d,ed,hd⟩:=l.get j x hx
    obtain⟨d',ed',hd'⟩:=l.get (j+1) y hy
    have s06:=s05.trans s6
    rw[getD_some ed,getD_some ed'] at k
    have il:∀ {d:PyData},sml d=true->rowD d=true->(zl0 d).length<=1000:=fun {d} m r=>by
     cases d with
     | list es=>exact (zx1 m).1
     | _=>simp[rowD] at r
    have rd:=ea' d (zcr0 ed)
    have rd':=ea' d' (zcr0 ed')
    refine zd4 hp ?_
    refine br_T ?_
    refine zbq1 (hd.same s06) (hd'.same s06) rd rd' (il (dm d (zcr0 ed)) rd) (il (dm d' (zcr0 ed')) rd') (fun H7 s7=>?_)
    walk_at "wh"
    exact k rfl _ _ s7 ⟨_,_,rfl⟩
   intro acc6 H6 f6 s6 h6
   rw[ze0] at h6
   have h6:H6 acc6=some (.lst (((List.range (ds.length - 1)).map fun i=>zad6 (ds.getD i .none) (ds.getD (i+1) .none)).map V.bl)):=by rw[h6,zct5];rfl
   refine zu7 h6 ?_
   rw[zcx6]
   exact q _ (s05.trans s6)
  ·have q:=q _ s1
   rw[decide_eq_false hf] at q
   refine br_T ?_
   walk_at "wh"
   exact q
 all_goals simp[zaa3] at eb
structure RwAt (H:Hp) (p:Addr) (bs:List Addr) (xs:List (Int×Int×Int)):Prop where
 out:H p=some (.lst (bs.map V.ref))
 len:bs.length=xs.length
 row:∀ (i:Nat) b x,bs[i]?=some b->xs[i]?=some x->H b=some (.tup [.int x.1,.int x.2.1,.int x.2.2])
theorem RwAt.same {H H':Hp}{p:Addr}{bs:List Addr}{xs:List (Int×Int×Int)}(R:RwAt H p bs xs) (s:Same H H'):RwAt H' p bs xs:=⟨s _ _ R.out,R.len,fun i b x e1 e2=>s _ _ (R.row i b x e1 e2)⟩
def flw (ms:List (List Int×Int)) (i:Nat):List ((Int×Int)×Int):=ms.map fun x=>(((x.1.drop i).sum,x.1.getD i 0),x.2)
def keyT (z:Int×Int×Int):Int×Int:=(z.1,z.2.1)
def zz0 (ms:List (List Int×Int)) (i:Nat) (xs:List (Int×Int×Int)):Prop:=OrdK (xs.map keyT)/\(∀ k,k∈xs.map keyT↔k∈(sumG (flw ms i)).map (·.1))/\∀ z∈xs,valG (sumG (flw ms i)) (keyT z)=some z.2.2
theorem zbb3 {κ:Type}[DecidableEq κ] {k:κ}:∀ {kv:List (κ×Int)},k∈kv.map (·.1)->∃ n,valG kv k=some n
 | [],h=>by cases h
 | z :: kv,h=>by
  by_cases e:z.1=k
  ·exact⟨z.2,zp5 e⟩
  ·rw[zp4 e]
   rw[zcs8] at h
   rcases zcs2.mp h with h|h
   ·exact absurd h.symm e
   ·exact zbb3 h
structure StAt (H:Hp) (p:Addr) (rs:List (Addr×List Addr)) (xss:List (List (Int×Int×Int))):Prop where
 out:H p=some (.lst (rs.map fun r=>V.ref r.1))
 len:rs.length=xss.length
 row:∀ (i:Nat) r xs,rs[i]?=some r->xss[i]?=some xs->RwAt (rm p H) r.1 r.2 xs
 nd:(rs.map (·.1)).Nodup
theorem StAt.same {H H':Hp}{p:Addr}{rs:List (Addr×List Addr)}{xss:List (List (Int×Int×Int))}(R:StAt H p rs xss) (s:Same H H'):StAt H' p rs xss:=⟨s _ _ R.out,R.len,fun i r xs e1 e2=>(R.row i r xs e1 e2).same (Same.rm s),R.nd⟩
def zau5 (ms:List (List Int×Int)) (f:Nat) (xss:List (List (Int×Int×Int))):Prop:=xss.length=f/\∀ (i:Nat) xs,xss[i]?=some xs->zz0 ms i xs/\xs.length<=ms.length
theorem zc9 {α:Type}{as:List α}{a b:α}{i:Nat}(h:(as++[a])[i]?=some b):(i<as.length/\as[i]?=some b)∨(i=as.length/\b=a):=by
 by_cases hi:i<as.length
 ·rw[zct1 hi] at h
  exact .inl ⟨hi,h⟩
 ·rw[zcu2 (by walk_at "om")] at h
  have:i - as.length=0:=by
   have:=(zcq6.mp h).1
   simp at this;omega
  rw[this] at h
  cases h
  exact .inr ⟨by walk_at "om",rfl⟩
theorem zcc5 {H1 I I1:Hp}{acc r:Addr}{rs:List (Addr×List Addr)}{xss:List (List (Int×Int×Int))}{bs:List Addr}(nd:(rs.map (·.1)).Nodup) (hl:rs.length=xss.length) (rp:∀ (i:Nat) r xs,rs[i]?=some r->xss[i]?=some xs->RwAt (rm acc (nw H1 I)) r.1 r.2 xs) (hr:I r=none):((rs++[(r,bs)]).map (·.1)).Nodup:=by
 rw[zcs3,List.nodup_append]
 refine⟨nd,by simp,fun a ha b hb=>?_⟩
 obtain⟨r',hr',rfl⟩:=zcs5.mp ha
 obtain⟨i,ei⟩:=zcv6 hr'
 obtain⟨xs,ex⟩:∃ xs,xss[i]?=some xs:=⟨_,zcq4 (by have:=(zcq6.mp ei).1;omega)⟩
 have o:=zci3 _ _ _ _ (zk6 _ _ _ _ (rp i r' xs ei ex).out)
 rw[show b=r by simpa using hb]
 exact za5 o hr
def okD (n:Nat) (d:PyData):Prop:=sml d=true/\d.canLay0=true/\d.depth<=n
def Rd (H:Hp) (v:V) (n:Nat):Prop:=∃ d,ShV H v d/\okD n d/\(zl0 d).length<60
theorem Rd.same {H H':Hp}{v:V}{n:Nat}(h:Rd H v n) (s:Same H H'):Rd H' v n:=by obtain⟨d,h1,h2⟩:=h;exact⟨d,h1.same s,h2⟩
theorem okD.up {n m:Nat}{d:PyData}(h:okD n d) (l:n<=m):okD m d:=⟨h.1,h.2.1,zcv1 h.2.2 l⟩
theorem Rd.up {H:Hp}{v:V}{n m:Nat}(h:Rd H v n) (l:n<=m:=by decide):Rd H v m:=by obtain⟨d,h1,h2⟩:=h;exact⟨d,h1,h2.1.up l,h2.2⟩
theorem Rd.int {H:Hp}(i:Int) (n:Nat):Rd H (.int i) n:=⟨.int i,.int i,⟨rfl,rfl,zcu4 _⟩,by show (0:Nat)<60;decide⟩
theorem Rd.non {H:Hp}(n:Nat):Rd H .non n:=⟨.none,.non,⟨rfl,rfl,zcu4 _⟩,by show (0:Nat)<60;decide⟩
theorem zbz5 {ds:List PyData}(h:∀ d∈ds,d.canLay0=true):PyData.canLayAll0 ds=true:=by
 induction ds with
 | nil=>rfl
 | cons d ds ih=>
  show (d.canLay0&&PyData.canLayAll0 ds)=true
  rw[h d (.head _),ih fun x hx=>h x (.tail _ hx)];rfl
theorem zca0 {ds:List PyData}{n:Nat}(h:∀ d∈ds,d.depth<=n):PyData.depthAll ds<=n:=by
 induction ds with
 | nil=>exact zcu4 _
 | cons d ds ih=>
  rw[show PyData.depthAll (d :: ds)=max d.depth (PyData.depthAll ds) from rfl]
  exact Nat.max_le.mpr ⟨h d (.head _),ih fun x hx=>h x (.tail _ hx)⟩
theorem okD.list {n:Nat}{ds:List PyData}(l:ds.length<=1000) (h:∀ d∈ds,okD n d):okD (n+1) (.list ds):=
 ⟨by simp only[sml,zcs9,decide_eq_true_eq];exact⟨by walk_at "om",zv2 fun d hd=>(h d hd).1⟩,zbz5 fun d hd=>(h d hd).2.1,Nat.succ_le_succ (zca0 fun d hd=>(h d hd).2.2)⟩
theorem okD.tuple {n:Nat}{ds:List PyData}(l:ds.length<=1000) (h:∀ d∈ds,okD n d):okD (n+1) (.tuple ds):=
 ⟨by simp only[sml,zcs9,decide_eq_true_eq];exact⟨by walk_at "om",zv2 fun d hd=>(h d hd).1⟩,zbz5 fun d hd=>(h d hd).2.1,Nat.succ_le_succ (zca0 fun d hd=>(h d hd).2.2)⟩
theorem Rd.lst {H:Hp}{a:Addr}{xs:List V}{n:Nat}(e:H a=some (.lst xs)) (l:xs.length<60) (h:∀ x∈xs,Rd H x n):Rd H (.ref a) (n+1):=by
 obtain⟨ds,h1,h2⟩:=ShL.ex (P:=fun d=>okD n d) fun x hx=>by obtain⟨d,h1,h2,_⟩:=h x hx;exact⟨d,h1,h2⟩
 exact⟨.list ds,.lst e h1,okD.list (by rw[← h1.len];omega) h2,by show ds.length<60;rw[← h1.len];exact l⟩
theorem Rd.tup {H:Hp}{a:Addr}{xs:List V}{n:Nat}(e:H a=some (.tup xs)) (l:xs.length<60) (h:∀ x∈xs,Rd H x n):Rd H (.ref a) (n+1):=by
 obtain⟨ds,h1,h2⟩:=ShL.ex (P:=fun d=>okD n d) fun x hx=>by obtain⟨d,h1,h2,_⟩:=h x hx;exact⟨d,h1,h2⟩
 exact⟨.tuple ds,.tup e h1,okD.tuple (by rw[← h1.len];omega) h2,by show (0:Nat)<60;decide⟩
theorem zj4:∀ {ns:List Int},(∀ x∈ns,0<=x)->(∀ x∈ns,x<=ns.sum)/\0<=ns.sum
 | [],_=>⟨fun x h=>by (cases h),Int.le_refl _⟩
 | n :: ns,h=>by
  have h0:=h n (.head _)
  obtain⟨i1,i2⟩:=zj4 (ns:=ns) fun y hy=>h y (.tail _ hy)
  rw[zcu6]
  refine⟨fun x hx=>?_,by walk_at "om"⟩
  rcases zcs2.mp hx with rfl|hx
  ·omega
  ·have:=i1 x hx;omega
section
variable {κ μ:Type}[DecidableEq κ] [DecidableEq μ]
def atG (zs:List (κ×Int)) (k:κ):Int:=((zs.filter fun z=>decide (z.1=k)).map (·.2)).sum
theorem zbo0 {kv:List (κ×Int)}{k:κ}:k ∉ kv.map (·.1)->valG kv k=none:=by
 induction kv with
 | nil=>intro _;rfl
 | cons z kv ih=>
  intro h
  rw[zcs8,zcs2,not_or] at h
  rw[zp4 (fun e=>h.1 e.symm),ih h.2]
theorem zbz2 (kv:List (κ×Int)) (k j:κ) (n:Int):valG (kv.map fun z=>if z.1=k then (z.1,n) else z) j=if j=k then (if j∈kv.map (·.1) then some n else none) else valG kv j:=by
 induction kv with
 | nil=>by_cases e:j=k<;>simp[e,valG]
 | cons z kv ih=>
  rw[zcs8]
  by_cases ez:z.1=j
  ·subst ez
   by_cases ek:z.1=k
   ·rw[if_pos ek,if_pos ek,zp5 (z:=(z.1,n)) rfl,if_pos (by simp)]
   ·rw[if_neg ek,if_neg ek,zp5 rfl,zp5 rfl]
  ·have:¬ (if z.1=k then (z.1,n) else z).1=j:=by split<;>exact ez
   rw[zp4 this,ih,zp4 ez]
   by_cases ek:j=k
   ·rw[if_pos ek,if_pos ek]
    have:(j∈(z :: kv).map (·.1))↔j∈kv.map (·.1):=by
     rw[zcs8,zcs2]
     exact⟨fun h=>h.resolve_left fun e=>ez e.symm,.inr⟩
    by_cases h:j∈kv.map (·.1)
    ·rw[if_pos h,if_pos (this.mpr h)]
    ·rw[if_neg h,if_neg fun z=>h (this.mp z)]
   ·rw[if_neg ek,if_neg ek]
theorem zao0 (kv:List (κ×Int)) (k:κ):(kv.any fun z=>decide (z.1=k))=true↔k∈kv.map (·.1):=by
 rw[List.any_eq_true,zcs5]
 exact⟨fun ⟨z,h1,h2⟩=>⟨z,h1,of_decide_eq_true h2⟩,fun ⟨z,h1,h2⟩=>⟨z,h1,decide_eq_true h2⟩⟩
theorem zbt7 (kv:List (κ×Int)) (z:κ×Int) (j:κ):valG (kv++[z]) j=match valG kv j with|some n=>some n|none=>if z.1=j then some z.2 else none:=by
 induction kv with
 | nil=>
  by_cases e:z.1=j
  ·show valG [z] j=if z.1=j then some z.2 else none;rw[zp5 e,if_pos e]
  ·show valG [z] j=if z.1=j then some z.2 else none;rw[zp4 e,if_neg e];rfl
 | cons y kv ih=>
  rw[List.cons_append]
  by_cases e:y.1=j
  ·rw[zp5 e,zp5 e]
  ·rw[zp4 e,zp4 e,ih]
theorem zby7 (kv:List (κ×Int)) (k j:κ) (n:Int):valG (putG kv k n) j=if j=k then some n else valG kv j:=by
 unfold putG
 by_cases h:(kv.any fun z=>decide (z.1=k))=true
 ·rw[if_pos h,zbz2]
  by_cases e:j=k
  ·rw[if_pos e,if_pos e,if_pos (by rw[e];exact (zao0 kv k).mp h)]
  ·rw[if_neg e,if_neg e]
 ·rw[if_neg h,zbt7]
  have hk:k ∉ kv.map (·.1):=fun z=>h ((zao0 kv k).mpr z)
  by_cases e:j=k
  ·subst e
   rw[zbo0 hk,if_pos rfl]
   first|done|exact if_pos rfl
  ·rw[if_neg e]
   cases valG kv j with
   | none=>exact if_neg fun z=>e z.symm
   | some m=>rfl
theorem zby6 (zs:List (κ×Int)) (z:κ×Int) (k:κ):atG (zs++[z]) k=atG zs k+if z.1=k then z.2 else 0:=by
 unfold atG
 rw[List.filter_append,zcs3,zcy5]
 by_cases e:z.1=k
 ·rw[if_pos e,zcw9,if_pos (decide_eq_true e)];simp
 ·rw[if_neg e,zcw9,if_neg (by rw[decide_eq_false e];exact zcr2)];simp
theorem zao4 (zs:List (κ×Int)) (z:κ×Int) (k:κ):atG (z :: zs) k=(if z.1=k then z.2 else 0)+atG zs k:=by
 unfold atG
 by_cases e:z.1=k
 ·rw[if_pos e,zcw9,if_pos (decide_eq_true e)];simp
 ·rw[if_neg e,zcw9,if_neg (by rw[decide_eq_false e];exact zcr2)];simp
theorem zbe1 {α:Type}{P:List α->Prop}(h0:P []) (hs:∀ xs x,P xs->P (xs++[x])) (xs:List α):P xs:=by
 have:∀ n (xs:List α),xs.length=n->P xs:=fun n=>by
  induction n with
  | zero=>intro xs h;rw[List.length_eq_zero_iff.mp h];exact h0
  | succ n ih=>
   intro xs h
   have hn:xs≠[]:=fun z=>by rw[z] at h;simp at h
   rw[← List.dropLast_concat_getLast hn]
   exact hs _ _ (ih _ (by rw[List.length_dropLast];omega))
 exact this _ xs rfl
theorem zae2 (zs:List (κ×Int)) (k:κ):valG (sumG zs) k=if k∈zs.map (·.1) then some (atG zs k) else none:=by
 induction zs using zbe1 with
 | h0=>rfl
 | hs zs z ih=>
  rw[zy4]
  unfold addG
  rw[zby7,zby6]
  have mm:k∈(zs++[z]).map (·.1)↔(k∈zs.map (·.1)∨k∈[z].map (·.1)):=by rw[zcs3,zcu8]
  by_cases e:k=z.1
  ·subst e
   rw[if_pos rfl,if_pos (mm.mpr (.inr (by simp))),if_pos rfl,ih]
   by_cases h:z.1∈zs.map (·.1)
   ·rw[if_pos h];rfl
   ·rw[if_neg h]
    have:atG zs z.1=0:=by
     unfold atG
     rw[List.filter_eq_nil_iff.mpr fun y hy hd=>h (zcs5.mpr ⟨y,hy,of_decide_eq_true hd⟩)];rfl
    rw[this];rfl
  ·have z0:(if z.1=k then z.2 else 0)=0:=if_neg fun q=>e q.symm
   rw[if_neg e,ih,z0,Int.add_zero]
   have:(k∈zs.map (·.1)∨k∈[z].map (·.1))↔k∈zs.map (·.1):=⟨fun h=>h.resolve_right fun q=>e (by simpa using q),.inl⟩
   by_cases h:k∈zs.map (·.1)
   ·rw[if_pos h,if_pos (mm.mpr (.inl h))]
   ·rw[if_neg h,if_neg fun q=>h (this.mp (mm.mp q))]
theorem zbx9 (kv:List (κ×Int)) (k:κ) (n:Int):(putG kv k n).map (·.1)=if k∈kv.map (·.1) then kv.map (·.1) else kv.map (·.1)++[k]:=by
 unfold putG
 by_cases h:(kv.any fun z=>decide (z.1=k))=true
 ·rw[if_pos h,if_pos ((zao0 kv k).mp h),zct5]
  refine zcs6 fun z _=>?_
  show (if z.1=k then (z.1,n) else z).1=z.1
  split<;>rfl
 ·rw[if_neg h,if_neg fun z=>h ((zao0 kv k).mpr z),zcs3];rfl
theorem zo6 (zs:List (κ×Int)):((sumG zs).map (·.1)).Nodup/\∀ k,k∈(sumG zs).map (·.1)↔k∈zs.map (·.1):=by
 induction zs using zbe1 with
 | h0=>exact⟨List.nodup_nil,fun k=>Iff.rfl⟩
 | hs zs z ih=>
  rw[zy4]
  unfold addG
  rw[zbx9]
  by_cases h:z.1∈(sumG zs).map (·.1)
  ·rw[if_pos h]
   refine⟨ih.1,fun k=>?_⟩
   rw[ih.2,zcs3,zcu8]
   exact⟨.inl,fun q=>q.elim id fun q=>by rw[show k=z.1 by simpa using q];exact (ih.2 _).mp h⟩
  ·rw[if_neg h]
   refine⟨?_,fun k=>?_⟩
   ·rw[List.nodup_append]
    refine⟨ih.1,by simp,fun a ha b hb=>?_⟩
    rw[show b=z.1 by simpa using hb]
    exact fun q=>h (q▸ha)
   ·rw[zcu8,ih.2,zcs3,zcu8];rfl
theorem zbz1 {kv:List (κ×Int)}(nd:(kv.map (·.1)).Nodup) {z:κ×Int}(h:z∈kv):valG kv z.1=some z.2:=by
 induction kv with
 | nil=>cases h
 | cons y kv ih=>
  rw[zcs8,zcy3] at nd
  rcases zcs2.mp h with rfl|h
  ·exact zp5 rfl
  ·rw[zp4 (fun e=>nd.1 (e▸zcs5.mpr ⟨z,h,rfl⟩))]
   exact ih nd.2 h
theorem atG_ge {zs:List (κ×Int)}(h1:∀ z∈zs,1<=z.2):∀ {k:κ},(0<=atG zs k)/\(k∈zs.map (·.1)->1<=atG zs k):=by
 induction zs with
 | nil=>exact fun {k}=>⟨Int.le_refl _,fun h=>by cases h⟩
 | cons z zs ih=>
  intro k
  obtain⟨i1,i2⟩:=ih (fun y hy=>h1 y (.tail _ hy)) (k:=k)
  have z1:=h1 z (.head _)
  rw[zao4]
  by_cases e:z.1=k
  ·rw[if_pos e]
   exact⟨by walk_at "om",fun _=>by walk_at "om"⟩
  ·rw[if_neg e]
   refine⟨by walk_at "om",fun h=>?_⟩
   rw[zcs8,zcs2] at h
   have:=i2 (h.resolve_left fun q=>e q.symm)
   omega
theorem zax7 {p:κ->Bool}{a:κ}{c:Int}:∀ {ks:List κ},ks.Nodup->((ks.filter p).map fun k=>if a=k then c else 0).sum=if a∈ks/\p a=true then c else 0
 | [],_=>by simp
 | k :: ks,nd=>by
  rw[zcy3] at nd
  have ih:=zax7 (p:=p) (a:=a) (c:=c) nd.2
  rw[zcw9]
  by_cases e:a=k
  ·subst e
   have:¬ (a∈ks/\p a=true):=fun h=>nd.1 h.1
   rw[if_neg this] at ih
   by_cases hp:p a=true
   ·rw[if_pos hp,zcs8,zcu6,ih,if_pos rfl,if_pos ⟨.head _,hp⟩];omega
   ·rw[if_neg hp,ih,if_neg fun h=>hp h.2]
  ·have:(a∈k :: ks/\p a=true)↔(a∈ks/\p a=true):=by rw[zcs2];exact⟨fun h=>⟨h.1.resolve_left e,h.2⟩,fun h=>⟨.inr h.1,h.2⟩⟩
   have st:∀ b,(if b=true then k :: ks.filter p else ks.filter p).map (fun k=>if a=k then c else 0)=if b=true then 0 :: (ks.filter p).map (fun k=>if a=k then c else 0) else (ks.filter p).map fun k=>if a=k then c else 0:=fun b=>by
    cases b
    ·rfl
    ·show (if a=k then c else 0) :: _=_
     rw[if_neg e];rfl
   rw[st]
   have s0:(if p k=true then (0:Int) :: (ks.filter p).map (fun k=>if a=k then c else 0) else (ks.filter p).map fun k=>if a=k then c else 0).sum=((ks.filter p).map fun k=>if a=k then c else 0).sum:=by
    split
    ·rw[zcu6,zcx7]
    ·rfl
   rw[s0,ih]
   by_cases h:a∈ks/\p a=true
   ·rw[if_pos h,if_pos (this.mpr h)]
   ·rw[if_neg h,if_neg fun q=>h (this.mp q)]
theorem zad4 {α:Type}(f g:α->Int):∀ xs:List α,(xs.map fun x=>f x+g x).sum=(xs.map f).sum+(xs.map g).sum
 | []=>rfl
 | x :: xs=>by
  have:=zad4 f g xs
  simp only[zcs8,zcu6]
  omega
theorem zbq4 {p:κ->Bool}{ks:List κ}(nd:ks.Nodup):∀ {zs:List (κ×Int)},(∀ z∈zs,z.1∈ks)->((ks.filter p).map (atG zs)).sum=((zs.filter fun z=>p z.1).map (·.2)).sum
 | [],_=>by
  have:((ks.filter p).map (atG ([]:List (κ×Int)))).sum=0:=by
   induction (ks.filter p) with
   | nil=>rfl
   | cons k l ih=>rw[zcs8,zcu6,ih];rfl
  rw[this];rfl
 | z :: zs,h=>by
  have ih:=zbq4 (p:=p) nd (zs:=zs) fun y hy=>h y (.tail _ hy)
  have e:(ks.filter p).map (atG (z :: zs))=(ks.filter p).map fun k=>(if z.1=k then z.2 else 0)+atG zs k:=zcs6 fun k _=>zao4 zs z k
  rw[e,zad4,zax7 nd,ih,zcw9]
  by_cases hp:p z.1=true
  ·rw[if_pos ⟨h z (.head _),hp⟩,if_pos hp];rfl
  ·rw[if_neg fun q=>hp q.2,if_neg hp,zcx7]
end
theorem zch7 {za zb:List (Int×Int)}(h:∀ k,valG (sumG za) k=valG (sumG zb) k):eqDI (sumG za) (sumG zb)=true:=by
 obtain⟨na,ma⟩:=zo6 za
 obtain⟨nb,mb⟩:=zo6 zb
 have keys:∀ k,k∈(sumG za).map (·.1)↔k∈(sumG zb).map (·.1):=fun k=>by
  rw[ma,mb]
  have:=h k
  rw[zae2,zae2] at this
  by_cases h1:k∈za.map (·.1)<;>by_cases h2:k∈zb.map (·.1)<;>simp[h1,h2] at this ⊢
 have len:=((List.perm_ext_iff_of_nodup na nb).mpr keys).length_eq
 rw[zcq3,zcq3] at len
 unfold eqDI
 rw[len,beq_self_eq_true,zcv4,zct4]
 intro z hz
 have e:valI (sumG zb) z.1=valG (sumG zb) z.1:=rfl
 rw[e,← h,zbz1 na hz]
 exact beq_self_eq_true _
theorem zap4 {x y:Int×Int}:ltP x y=true↔x.1<y.1∨(x.1=y.1/\x.2<y.2):=by
 unfold ltP
 by_cases e:x.1=y.1
 ·rw[if_pos (by simpa using e)]
  by_cases e2:x.2=y.2
  ·rw[if_pos (by simpa using e2)]
   exact⟨fun h=>by (cases h),fun h=>by walk_at "om"⟩
  ·rw[if_neg (by simpa using e2),decide_eq_true_iff];omega
 ·rw[if_neg (by simpa using e),decide_eq_true_iff];omega
def zy0 (z:Int×Int×Int):PyData:=.tuple [.int z.1,.int z.2.1,.int z.2.2]
def zl1 (xs:List (Int×Int×Int)):PyData:=.list (xs.map zy0)
def stmD (xss:List (List (Int×Int×Int))):PyData:=.list (xss.map zl1)
theorem zac8 (xs:List (Int×Int×Int)):rowF (zl1 xs)=xs:=by
 unfold rowF zl1
 show (xs.map zy0).map triD=xs
 rw[zct5]
 exact (zcs6 fun x _=>rfl).trans (List.map_id _)
theorem zx8 {ns:List Int}(nn:∀ n∈ns,0<=n) {i:Nat}(hi:i<ns.length):0<=ns.getD i 0/\ns.getD i 0<=(ns.drop i).sum/\(ns.drop i).sum - ns.getD i 0=(ns.drop (i+1)).sum:=by
 have e:ns.drop i=ns[i] :: ns.drop (i+1):=List.drop_eq_getElem_cons hi
 have g:ns.getD i 0=ns[i]:=by rw[zcq7,zcq4 hi];rfl
 have z:=(zj4 (ns:=ns.drop (i+1)) fun n hn=>nn n (List.mem_of_mem_drop hn)).2
 rw[g,e,zcu6]
 exact⟨nn _ (zcw5 hi),by walk_at "om",by walk_at "om"⟩
structure OkS (ms:List (List Int×Int)) (h:Int) (f:Nat):Prop where
 ne:1<=ms.length
 f1:1<=f
 all:∀ x∈ms,(∀ n∈x.1,0<=n)/\x.1.length=f/\x.1.sum=h/\1<=x.2
theorem zap5 {ms:List (List Int×Int)}{i:Nat}{xs:List (Int×Int×Int)}(R:zz0 ms i xs) {z:Int×Int×Int}(hz:z∈xs):∃ x∈ms,z.1=(x.1.drop i).sum/\z.2.1=x.1.getD i 0:=by
 have:keyT z∈(sumG (flw ms i)).map (·.1):=(R.2.1 _).mp (zcs5.mpr ⟨z,hz,rfl⟩)
 rw[(zo6 _).2,zcs5] at this
 obtain⟨y,hy,ey⟩:=this
 unfold flw at hy
 obtain⟨x,hx,rfl⟩:=zcs5.mp hy
 have ey:((x.1.drop i).sum,x.1.getD i 0)=(z.1,z.2.1):=ey
 exact⟨x,hx,(congrArg Prod.fst ey).symm,(congrArg Prod.snd ey).symm⟩
theorem zt6 {ms:List (List Int×Int)}{h:Int}{f i:Nat}{xs:List (Int×Int×Int)}(O:OkS ms h f) (hi:i<f) (R:zz0 ms i xs) {z:Int×Int×Int}(hz:z∈xs):0<=z.2.1/\z.2.1<=z.1/\z.2.2=atG (flw ms i) (keyT z)/\1<=z.2.2:=by
 obtain⟨x,hx,e1,e2⟩:=zap5 R hz
 obtain⟨nn,xl,_,_⟩:=O.all x hx
 obtain⟨a,b,_⟩:=zx8 nn (i:=i) (by walk_at "om")
 have v:=R.2.2 z hz
 rw[zae2] at v
 have km:keyT z∈(flw ms i).map (·.1):=(zo6 _).2 _ |>.mp ((R.2.1 _).mp (zcs5.mpr ⟨z,hz,rfl⟩))
 rw[if_pos km] at v
 have v:=Option.some.inj v
 have w:∀ y∈flw ms i,1<=y.2:=fun y hy=>by
  unfold flw at hy
  obtain⟨x,hx,rfl⟩:=zcs5.mp hy
  exact (O.all x hx).2.2.2
 have g:=(atG_ge w (k:=keyT z)).2 km
 exact⟨by walk_at "om",by walk_at "om",v.symm,by walk_at "om"⟩
theorem zcb1 {ms:List (List Int×Int)}{h:Int}{f i:Nat}{xs:List (Int×Int×Int)}(O:OkS ms h f) (hi:i<f) (R:zz0 ms i xs):rowD (zl1 xs)=true:=by
 show ((xs.map zy0).all zx6&&incD (xs.map zy0))=true
 rw[zcs9]
 constructor
 ·rw[zcx6,zct4]
  intro z hz
  obtain⟨a,b,_,c⟩:=zt6 O hi R hz
  show (decide ((0:Int)<=z.1)&&decide ((0:Int)<=z.2.1/\z.2.1<=z.1)&&decide ((1:Int)<=z.2.2))=true
  rw[decide_eq_true (show (0:Int)<=z.1 by walk_at "om"),decide_eq_true (show (0:Int)<=z.2.1/\z.2.1<=z.1 from ⟨a,b⟩),decide_eq_true c];rfl
 ·unfold incD
  rw[zcq3,zct4]
  intro j hj
  have hj:=zcu9.mp hj
  have p:=List.pairwise_iff_getElem.mp R.1.2 j (j+1) (by rw[zcq3];omega) (by rw[zcq3];omega) (by walk_at "om")
  have g:∀ (j:Nat) (hj:j<xs.length),keyD ((xs.map zy0).getD j .none)=(xs.map keyT)[j]'(by rw[zcq3];exact hj):=fun j hj=>by
   rw[zcq7,zcq8,zcq4 hj,List.getElem_map];rfl
  rw[g j (by walk_at "om"),g (j+1) (by walk_at "om")]
  exact p
theorem zav2 {ms:List (List Int×Int)}{i:Nat}{xs:List (Int×Int×Int)}(R:zz0 ms i xs) (hv:∀ z∈xs,z.2.2=atG (flw ms i) (keyT z)) (g:Int×Int->Int) (k:Int):valG (sumG (xs.map fun z=>(g (keyT z),z.2.2))) k=valG (sumG ((flw ms i).map fun z=>(g z.1,z.2))) k:=by
 rw[zae2,zae2]
 have mem:k∈(xs.map fun z=>(g (keyT z),z.2.2)).map (·.1)↔k∈((flw ms i).map fun z=>(g z.1,z.2)).map (·.1):=by
  rw[zct5,zct5,zcs5,zcs5]
  constructor
  ·rintro⟨z,hz,rfl⟩
   have:=(zo6 _).2 _ |>.mp ((R.2.1 _).mp (zcs5.mpr ⟨z,hz,rfl⟩))
   obtain⟨y,hy,ey⟩:=zcs5.mp this
   exact⟨y,hy,congrArg g ey⟩
  ·rintro⟨y,hy,rfl⟩
   have:y.1∈xs.map keyT:=(R.2.1 _).mpr ((zo6 _).2 _ |>.mpr (zcs5.mpr ⟨y,hy,rfl⟩))
   obtain⟨z,hz,ez⟩:=zcs5.mp this
   exact⟨z,hz,congrArg g ez⟩
 have at1:atG (xs.map fun z=>(g (keyT z),z.2.2)) k=(((xs.map keyT).filter fun q=>decide (g q=k)).map (atG (flw ms i))).sum:=by
  unfold atG
  rw[List.filter_map,List.filter_map,zct5,zct5]
  refine congrArg List.sum (zcs6 fun z hz=>?_)
  exact hv z (List.mem_filter.mp hz).1
 have at2:atG ((flw ms i).map fun z=>(g z.1,z.2)) k=(((flw ms i).filter fun z=>decide (g z.1=k)).map (·.2)).sum:=by
  unfold atG
  rw[List.filter_map,zct5]
  rfl
 rw[at1,at2,zbq4 (p:=fun q=>decide (g q=k)) R.1.1 fun z hz=>(R.2.1 _).mpr ((zo6 _).2 _ |>.mpr (zcs5.mpr ⟨z,hz,rfl⟩))]
 by_cases h:k∈(xs.map fun z=>(g (keyT z),z.2.2)).map (·.1)
 ·rw[if_pos h,if_pos (mem.mp h)]
 ·rw[if_neg h,if_neg fun q=>h (mem.mpr q)]
theorem zbp4 {ms:List (List Int×Int)}{h:Int}{f i:Nat}{xs ys:List (Int×Int×Int)}(O:OkS ms h f) (hi:i+1<f) (R1:zz0 ms i xs) (R2:zz0 ms (i+1) ys):zad6 (zl1 xs) (zl1 ys)=true:=by
 unfold zad6
 rw[zac8,zac8]
 refine zch7 fun k=>?_
 have a:=zav2 R1 (fun z hz=>(zt6 O (by walk_at "om") R1 hz).2.2.1) (fun q=>q.1 - q.2) k
 have b:=zav2 R2 (fun z hz=>(zt6 O hi R2 hz).2.2.1) (fun q=>q.1) k
 have e:((flw ms i).map fun z=>(z.1.1 - z.1.2,z.2))=(flw ms (i+1)).map fun z=>(z.1.1,z.2):=by
  unfold flw
  rw[zct5,zct5]
  refine zcs6 fun x hx=>?_
  obtain⟨nn,xl,_,_⟩:=O.all x hx
  obtain⟨_,_,c⟩:=zx8 nn (i:=i) (by walk_at "om")
  show ((x.1.drop i).sum - x.1.getD i 0,x.2)=((x.1.drop (i+1)).sum,x.2)
  rw[c]
 have a:valG (sumG (xs.map fun z=>(z.1 - z.2.1,z.2.2))) k=valG (sumG ((flw ms i).map fun z=>(z.1.1 - z.1.2,z.2))) k:=a
 have b:valG (sumG (ys.map fun z=>(z.1,z.2.2))) k=valG (sumG ((flw ms (i+1)).map fun z=>(z.1.1,z.2))) k:=b
 rw[a,e,b]
theorem stm_ok {ms:List (List Int×Int)}{h:Int}{f:Nat}{xss:List (List (Int×Int×Int))}(O:OkS ms h f) (S:zau5 ms f xss):zt8 h f (stmD xss)=true:=by
 have f1:=O.f1
 have gd:∀ (i:Nat) (hi:i<xss.length),(xss.map zl1).getD i .none=zl1 xss[i]:=fun i hi=>by
  rw[zcq7,zcq8,zcq4 hi];rfl
 have ri:∀ (i:Nat) (hi:i<xss.length),zz0 ms i xss[i]:=fun i hi=>(S.2 i _ (zcq4 hi)).1
 have sl:=S.1
 have l0:0<xss.length:=by walk_at "om"
 have r0:=ri 0 l0
 obtain⟨x0,ex0⟩:∃ x,ms[0]?=some x:=⟨_,zcq4 (by have:=O.ne;omega)⟩
 have n0:0<(xss[0]).length:=by
  have:((x0.1.drop 0).sum,x0.1.getD 0 0)∈(xss[0]).map keyT:=(r0.2.1 _).mpr ((zo6 _).2 _ |>.mpr (by
   unfold flw
   rw[zct5]
   exact zcs5.mpr ⟨x0,zcr0 ex0,rfl⟩))
  obtain⟨z,hz,_⟩:=zcs5.mp this
  exact List.length_pos_of_mem hz
 have items:zl0 (stmD xss)=xss.map zl1:=rfl
 unfold zt8
 rw[items]
 have b:zaa3 (stmD xss)=true:=by
  show (decide (0<(xss.map zl1).length)&&rowD ((xss.map zl1).getD 0 .none)&&decide (0<(zl0 ((xss.map zl1).getD 0 .none)).length))=true
  rw[gd 0 l0,zcq3,decide_eq_true l0,zcb1 O (by walk_at "om") r0]
  show (true&&true&&decide (0<((xss[0]).map zy0).length))=true
  rw[zcq3,decide_eq_true n0];rfl
 have c1:decide ((((xss.map zl1).length:Nat):Int)=(f:Int))=true:=decide_eq_true (by rw[zcq3,sl])
 have c2:(xss.map zl1).all rowD=true:=by
  rw[zcx6,zct4]
  intro xs hx
  obtain⟨i,ei⟩:=zcv6 hx
  exact zcb1 O (by have:=(zcq6.mp ei).1;omega) (S.2 i xs ei).1
 have c3:fullD h ((xss.map zl1).getD 0 .none)=true:=by
  rw[gd 0 l0]
  unfold fullD
  rw[zac8,zct4]
  intro z hz
  obtain⟨x,hx,e1,_⟩:=zap5 r0 hz
  rw[e1,List.drop_zero]
  exact decide_eq_true (O.all x hx).2.2.1
 have c4:goneD ((xss.map zl1).getD ((xss.map zl1).length - 1) .none)=true:=by
  rw[zcq3,gd (xss.length - 1) (by walk_at "om")]
  unfold goneD
  rw[zac8,zct4]
  intro z hz
  obtain⟨x,hx,e1,e2⟩:=zap5 (ri _ (by walk_at "om")) hz
  obtain⟨nn,xl,_,_⟩:=O.all x hx
  obtain⟨_,_,c⟩:=zx8 nn (i:=xss.length - 1) (by walk_at "om")
  rw[zcx4 (i:=xss.length - 1+1) (by walk_at "om")] at c
  have:([]:List Int).sum=0:=rfl
  rw[e1,e2]
  exact decide_eq_true (by walk_at "om")
 have c5:zad9 (xss.map zl1)=true:=by
  unfold zad9
  rw[zcq3,zct4]
  intro i hi
  have hi:=zcu9.mp hi
  rw[gd i (by walk_at "om"),gd (i+1) (by walk_at "om")]
  exact zbp4 O (by walk_at "om") (ri i (by walk_at "om")) (ri (i+1) (by walk_at "om"))
 rw[b,c1,c2,c3,c4,c5];rfl
theorem RwAt.shL {H:Hp}{p:Addr}{bs:List Addr}{xs:List (Int×Int×Int)}(R:RwAt H p bs xs):ShL H (bs.map V.ref) (xs.map zy0):=ShL.idx (by rw[zcq3,zcq3,R.len]) fun i x d h1 h2=>by
 rw[zcq8] at h1 h2
 obtain⟨b,eb,rfl⟩:=zcr1.mp h1
 obtain⟨z,ez,rfl⟩:=zcr1.mp h2
 exact .tup (R.row i b z eb ez) (.cons (.int _) (.cons (.int _) (.cons (.int _) .nil)))
theorem RwAt.sh {H:Hp}{p:Addr}{bs:List Addr}{xs:List (Int×Int×Int)}(R:RwAt H p bs xs):ShV H (.ref p) (zl1 xs):=.lst R.out R.shL
def row7 (c:Bool) (xs:List (Int×Int×Int)):PyData:=.list (xs.map zy0++if c=true then [.int 7] else [])
theorem row7_F (xs:List (Int×Int×Int)):row7 false xs=zl1 xs:=by unfold row7 zl1;rw[if_neg zcr2,List.append_nil]
theorem tri_ok (z:Int×Int×Int):okD 1 (zy0 z):=okD.tuple (n:=0) (by show 3<=1000;decide) fun d hd=>by
 simp only[zcs2,zcu0,or_false] at hd
 rcases hd with rfl|rfl|rfl<;>exact⟨rfl,rfl,zcu4 _⟩
theorem zci4 {c:Bool}{xs:List (Int×Int×Int)}(h:xs.length<64):okD 2 (row7 c xs):=okD.list (n:=1) (by rw[zcr6,zcq3];split<;>simp<;>omega) fun d hd=>by
 rcases zcu8.mp hd with hd|hd
 ·obtain⟨z,_,rfl⟩:=zcs5.mp hd;exact tri_ok z
 ·split at hd
  ·rw[zcx8.mp hd];exact⟨rfl,rfl,zcu4 _⟩
  ·cases hd
theorem zce3 {c:Bool}{xss:List (List (Int×Int×Int))}(hl:xss.length<64) (h:∀ xs∈xss,xs.length<64):okD 3 (.list (xss.map (row7 c))):=okD.list (n:=2) (by rw[zcq3];omega) fun d hd=>by
 obtain⟨xs,hx,rfl⟩:=zcs5.mp hd
 exact zci4 (h xs hx)
theorem zbv8 (xss:List (List (Int×Int×Int))):stmD xss=.list (xss.map (row7 false)):=by
 unfold stmD
 rw[zcs6 fun xs _=>(row7_F xs).symm]
theorem zce6 (n:Nat):((List.range n).map fun _=>V.bl true)=((List.range n).map fun _=>true).map V.bl:=by rw[zct5];rfl
theorem zbw2 (n:Nat):((List.range n).map fun _=>true).all id=true:=by rw[zcx6];exact zbx8 n
inductive Fd where
 | more (w t:Int)
 | lead (w l:Int)
 | tab (g:Nat->Nat->Int)
def Fd.won:Fd->Nat->Nat->Int
 | .more w t,x,y=>if x=y then t else if y<x then w else -w
 | .lead w l,x,y=>if l<=(x:Int) - y then w else -w
 | .tab g,x,y=>g x y
def Fd.Ok:Fd->Prop
 | .more w t=>1<=w/\-w<=t/\t<=w
 | .lead w _=>1<=w
 | .tab _=>True
def FdAt (H:Hp) (p:Addr) (a c:Nat):Fd->Prop
 | .more w t=>H p=some (.tup [.str "more",.int w,.int t])
 | .lead w l=>H p=some (.tup [.str "lead",.int w,.int l])
 | .tab g=>∃ q ps,H p=some (.tup [.str "table",.ref q])/\zd3 H q ps (a+1) (c+1) g
theorem FdAt.same {H H':Hp}{p:Addr}{a c:Nat}{f:Fd}(F:FdAt H p a c f) (s:Same H H'):FdAt H' p a c f:=by
 cases f with
 | more w t=>exact s _ _ F
 | lead w l=>exact s _ _ F
 | tab g=>
  obtain⟨q,ps,h1,h2⟩:=F
  exact⟨q,ps,s _ _ h1,h2.same s⟩
theorem FdAt.some {H:Hp}{p:Addr}{a c:Nat}{f:Fd}(F:FdAt H p a c f):∃ xs,H p=some (.tup xs):=by
 cases f with
 | more w t=>exact⟨_,F⟩
 | lead w l=>exact⟨_,F⟩
 | tab g=>
  obtain⟨q,ps,h1,h2⟩:=F
  exact⟨_,h1⟩
structure zh5 (H:Hp) (b l:Addr) (ps:List Addr) (a c:Nat) (fs:List Fd):Prop where
 out:H b=some (.tup [.int a,.int c,.ref l])
 lst:H l=some (.lst (ps.map V.ref))
 len:ps.length=fs.length
 fld:∀ (i:Nat) p f,ps[i]?=some p->fs[i]?=some f->FdAt H p a c f/\f.Ok
abbrev OkB (a c:Nat) (fs:List Fd):Prop:=(a<=10/\c<=10)/\1<=fs.length/\fs.length<=5
theorem zh5.same {H H':Hp}{b l:Addr}{ps:List Addr}{a c:Nat}{fs:List Fd}(B:zh5 H b l ps a c fs) (s:Same H H'):zh5 H' b l ps a c fs:=⟨s _ _ B.out,s _ _ B.lst,B.len,fun i p f h1 h2=>⟨(B.fld i p f h1 h2).1.same s,(B.fld i p f h1 h2).2⟩⟩
theorem zh5.elt {H:Hp}{b l:Addr}{ps:List Addr}{a c:Nat}{fs:List Fd}(B:zh5 H b l ps a c fs) {i:Nat}{v:V}(e:(ps.map V.ref)[i]?=some v):∃ p f,v=.ref p/\ps[i]?=some p/\fs[i]?=some f/\FdAt H p a c f/\f.Ok:=by
 rw[zcq8] at e
 obtain⟨p,ep,rfl⟩:=zcr1.mp e
 obtain⟨f,ef⟩:∃ f,fs[i]?=some f:=⟨_,zcq4 (by have:=(zcq6.mp ep).1;have:=B.len;omega)⟩
 exact⟨p,f,rfl,ep,ef,B.fld i p f ep ef⟩
@[irreducible] def zj2:Sp:=fun vs H Q _=>∃ x y:Int,vs=[.int x,.int y]/\Q (.bl (decide ((0<=x/\x<=10)/\0<=y/\y<=10))) H
theorem zaw5 {H:Hp}{x y:Int}{Q:VK}{E:XK}(q:Q (.bl (decide ((0<=x/\x<=10)/\0<=y/\y<=10))) H):zj2 [.int x,.int y] H Q E:=by unfold zj2;exact⟨x,y,rfl,q⟩
theorem zaw1 {f:Addr}{fd:FuncData}(F:Fun K "are_hosts" "are_hosts" zn8 f fd) (N:Nm mg) {zcm0:Tok}(c_MOST_HOSTS:mg "MOST_HOSTS"=some (.int 10 zcm0)) (zck5:Def P w K mg base CX0 3 "is_between" ["thing","least","most"] zd5):FnOk P w K mg base CX0 4 f fd ["first","second"] zj2:=by
 refine F.ok zav4 (fun vs H Q E h=>by unfold zj2 at h;obtain⟨_,_,rfl,_⟩:=h;rfl) (fun cdv A outer s H vs Q E hr h=>?_)
 unfold zj2 at h
 obtain⟨x,y,rfl,q⟩:=h
 refine⟨_,(za6 (zb0 (zt5 (pD zck5 hr zb7 (za0 (pq 0) (za0 za2 (za0 (zba5 (v:=.int 10) rfl c_MOST_HOSTS ⟨_,rfl⟩) za1)))) (zt1 (pD zck5 hr zb7 (za0 (pq 1) (za0 za2 (za0 (zba5 (v:=.int 10) rfl c_MOST_HOSTS ⟨_,rfl⟩) za1)))))))),?_⟩
 refine zbs4 ?_
 refine zf5 (fun h=>?_) (fun h=>?_)
 ·walk_at "wh"
  refine zbs4 ?_
  walk_at "wh"
  rw[zac7 h] at q
  exact q
 ·walk_at "wh"
  rw[zad2 h] at q
  exact q
inductive Fx where
 | flat (w:Str) (zs:List Int)
 | tab (rows:List (List Int))
structure zs1 (H:Hp) (q:Addr) (ps:List Addr) (rows:List (List Int)):Prop where
 out:H q=some (.lst (ps.map V.ref))
 len:ps.length=rows.length
 row:∀ (i:Nat) p r,ps[i]?=some p->rows[i]?=some r->H p=some (.lst (r.map V.int))
theorem zs1.same {H H':Hp}{q:Addr}{ps:List Addr}{rows:List (List Int)}(R:zs1 H q ps rows) (s:Same H H'):zs1 H' q ps rows:=⟨s _ _ R.out,R.len,fun i p r h1 h2=>s _ _ (R.row i p r h1 h2)⟩
theorem zs1.elt {H:Hp}{q:Addr}{ps:List Addr}{rows:List (List Int)}(R:zs1 H q ps rows) {i:Nat}{v:V}(e:(ps.map V.ref)[i]?=some v):∃ p r,v=.ref p/\ps[i]?=some p/\rows[i]?=some r/\H p=some (.lst (r.map V.int)):=by
 rw[zcq8] at e
 obtain⟨p,ep,rfl⟩:=zcr1.mp e
 obtain⟨r,er⟩:∃ r,rows[i]?=some r:=⟨_,zcq4 (by have:=(zcq6.mp ep).1;have:=R.len;omega)⟩
 exact⟨p,r,rfl,ep,er,R.row i p r ep er⟩
def FxAt (H:Hp) (p:Addr):Fx->Prop
 | .flat w zs=>H p=some (.tup (.str w :: zs.map V.int))
 | .tab rows=>∃ q ps,H p=some (.tup [.str "table",.ref q])/\zs1 H q ps rows
def Fx.Gd:Fx->Prop
 | .flat w zs=>w≠"table"/\zs.length<=10
 | .tab rows=>rows.length<=100/\∀ r∈rows,r.length<=100
theorem FxAt.same {H H':Hp}{p:Addr}{f:Fx}(F:FxAt H p f) (s:Same H H'):FxAt H' p f:=by
 cases f with
 | flat w zs=>exact s _ _ F
 | tab rows=>
  obtain⟨q,ps,h1,h2⟩:=F
  exact⟨q,ps,s _ _ h1,h2.same s⟩
def isF (a c:Int):Fx->Bool
 | .flat w [x,y]=>if w="more" then decide (1<=x/\-x<=y/\y<=x) else if w="lead" then decide (1<=x) else false
 | .flat _ _=>false
 | .tab rows=>decide ((rows.length:Int)=a+1)&&rows.all fun r=>decide ((r.length:Int)=c+1)
structure BxAt (H:Hp) (b l:Addr) (ps:List Addr) (a c:Int) (fs:List Fx):Prop where
 out:H b=some (.tup [.int a,.int c,.ref l])
 lst:H l=some (.lst (ps.map V.ref))
 len:ps.length=fs.length
 fld:∀ (i:Nat) p f,ps[i]?=some p->fs[i]?=some f->FxAt H p f/\f.Gd
theorem BxAt.same {H H':Hp}{b l:Addr}{ps:List Addr}{a c:Int}{fs:List Fx}(B:BxAt H b l ps a c fs) (s:Same H H'):BxAt H' b l ps a c fs:=⟨s _ _ B.out,s _ _ B.lst,B.len,fun i p f h1 h2=>⟨(B.fld i p f h1 h2).1.same s,(B.fld i p f h1 h2).2⟩⟩
theorem BxAt.elt {H:Hp}{b l:Addr}{ps:List Addr}{a c:Int}{fs:List Fx}(B:BxAt H b l ps a c fs) {i:Nat}{v:V}(e:(ps.map V.ref)[i]?=some v):∃ p f,v=.ref p/\ps[i]?=some p/\fs[i]?=some f/\FxAt H p f/\f.Gd:=by
 rw[zcq8] at e
 obtain⟨p,ep,rfl⟩:=zcr1.mp e
 obtain⟨f,ef⟩:∃ f,fs[i]?=some f:=⟨_,zcq4 (by have:=(zcq6.mp ep).1;have:=B.len;omega)⟩
 exact⟨p,f,rfl,ep,ef,B.fld i p f ep ef⟩
abbrev Sz (a c:Int) (n:Nat):Prop:=((0<=a/\a<=10)/\0<=c/\c<=10)/\1<=n/\n<=5
def BadB (H:Hp) (b:Addr) (k:Int):Prop:=∃ l ps a c fs,BxAt H b l ps a c fs/\fs.length<=100 /\
 ((¬ Sz a c fs.length/\k=-1)∨(Sz a c fs.length/\∃ (j:Nat) (f:Fx),k=j/\fs[j]?=some f/\isF a c f=false/\∀ (i:Nat) g,i<j->fs[i]?=some g->isF a c g=true))
theorem BadB.same {H H':Hp}{b:Addr}{k:Int}(B:BadB H b k) (s:Same H H'):BadB H' b k:=by
 obtain⟨l,ps,a,c,fs,B,r⟩:=B
 exact⟨l,ps,a,c,fs,B.same s,r⟩
def toFx (a c:Nat):Fd->Fx
 | .more w t=>.flat "more" [w,t]
 | .lead w l=>.flat "lead" [w,l]
 | .tab g=>.tab ((List.range (a+1)).map fun x=>(List.range (c+1)).map (g x))
theorem zbm5 {H:Hp}{q:Addr}{ps:List Addr}{n m:Nat}{g:Nat->Nat->Int}(G:zd3 H q ps n m g):zs1 H q ps ((List.range n).map fun x=>(List.range m).map (g x)):=by
 refine⟨G.out,by rw[G.len,zcq3,zct9],fun i p r h1 h2=>?_⟩
 have hi:i<n:=by have:=(zcq6.mp h1).1;have:=G.len;omega
 rw[zcq8,zcv3 hi] at h2
 cases h2
 rw[← zav8]
 exact G.row i p h1
theorem zce0 {H:Hp}{p:Addr}{a c:Nat}{f:Fd}(F:FdAt H p a c f) (ha:a<=10) (hc:c<=10):FxAt H p (toFx a c f)/\(toFx a c f).Gd:=by
 cases f with
 | more w t=>exact⟨F,by decide,by simp⟩
 | lead w l=>exact⟨F,by decide,by simp⟩
 | tab g=>
  obtain⟨q,ps,h1,h2⟩:=F
  refine⟨⟨q,ps,h1,zbm5 h2⟩,by rw[zcq3,zct9];omega,fun r hr=>?_⟩
  obtain⟨x,_,rfl⟩:=zcs5.mp hr
  rw[zcq3,zct9];omega
theorem zcc7 {a c:Nat}{f:Fd}(O:f.Ok):isF a c (toFx a c f)=true:=by
 cases f with
 | more w t=>exact decide_eq_true (show 1<=w/\-w<=t/\t<=w from O)
 | lead w l=>exact decide_eq_true (show 1<=w from O)
 | tab g=>
  show (decide _&&List.all _ _)=true
  rw[zcs9,zct4]
  refine⟨decide_eq_true (by rw[zcq3,zct9];rfl),fun r hr=>?_⟩
  obtain⟨x,_,rfl⟩:=zcs5.mp hr
  exact decide_eq_true (by rw[zcq3,zct9];rfl)
theorem toBx {H:Hp}{b l:Addr}{ps:List Addr}{a c:Nat}{fs:List Fd}(B:zh5 H b l ps a c fs) (ha:a<=10) (hc:c<=10):BxAt H b l ps a c (fs.map (toFx a c)):=by
 refine⟨B.out,B.lst,by rw[B.len,zcq3],fun i p f h1 h2=>?_⟩
 rw[zcq8] at h2
 obtain⟨f',e,rfl⟩:=zcr1.mp h2
 exact zce0 (B.fld i p f' h1 e).1 ha hc
@[irreducible] def ze9:Sp:=fun vs H Q _=>∃ (r:Addr) (n:Int) (zs:List Int),vs=[.int n,.ref r]/\H r=some (.lst (zs.map V.int))/\zs.length<=1000/\∀ H',Same H H'->Q (.bl (decide ((zs.length:Int)=n))) H'
theorem zah1 {H:Hp}{r:Addr}{n:Int}{zs:List Int}{Q:VK}{E:XK}(h:H r=some (.lst (zs.map V.int))) (hn:zs.length<=1000) (q:∀ H',Same H H'->Q (.bl (decide ((zs.length:Int)=n))) H'):ze9 [.int n,.ref r] H Q E:=by unfold ze9;exact⟨r,n,zs,rfl,h,hn,q⟩
theorem zaf9 {f:Addr}{fd:FuncData}(F:Fun K "is_table_row" "is_table_row" zh9 f fd) (N:Nm mg) (zcl0:Def P w K mg base CX0 1 "is_whole" ["thing"] zf7):FnOk P w K mg base CX0 2 f fd ["many_numbers","row"] ze9:=by
 refine F.ok zah5 (fun vs H Q E h=>by unfold ze9 at h;obtain⟨_,_,_,rfl,_⟩:=h;rfl) (fun cdv A outer s H vs Q E hr h=>?_)
 unfold ze9 at h
 obtain⟨r,n,zs,rfl,h,hn,q⟩:=h
 have hu:=hu40 hr
 refine⟨_,(za6 (zb0 (zt5 (pB (zah7 (K:=K) rfl) N.isinstance_ zd7 (za0 (pq 1) (za0 (pTy N.list_ zaa0) za1))) (zt5 (peC (oEqK (K:=K) rfl (by exact hu)) (pB (zo8 (K:=K) rfl) N.len_ zg5 (za0 (pq 1) za1)) (pq 0)) (zt1 (pB (zaj3 (K:=K) rfl rfl) N.all_ zw8 (za0 (zf2 (N:=["number"]) (ks:=[none]) (ze3 (K:=K) rfl (pq 1)) (fun cl C s3 H3 fp=>(za7 (i:=0) nb_1 rfl (by first|exact Or.inl rfl|exact Or.inr rfl))) (fun cl C s3 H3 fp=>zc4) (fun cl C s3 H3 fp=>(pD zcl0 hr zb7 (za0 (pq 0) za1))) (.skip .nil)) za1))))))),?_⟩
 refine zan4 h ?_
 refine br_T ?_
 refine zf3 h ?_
 rw[zcq3]
 refine zf5 (fun en=>?_) (fun en=>?_)
 ·rw[decide_eq_true en] at q
  refine zb8 h ?_
  refine zm7 (Wk.list (SqL.of h)) (by rw[zcq3,sizeLine_eq];omega) (fun i=>.bl true) (fun _=>true) (fun j σ=>∃ t:Option V,σ=[t]) ⟨none,rfl⟩ ?_ ?_
  ·rintro j v σ H1 R S hj s1 hx ⟨t,rfl⟩ k _
   rw[zcq8] at hx
   obtain⟨z,_,rfl⟩:=zcr1.mp hx
   refine br_T ?_
   refine zcb3 ?_
   walk_at "wh"
   exact k rfl _ _ (Same.refl _) ⟨_,rfl⟩
  intro acc H1 f1 s1 h1
  rw[ze0,zcq3,zce6] at h1
  refine zu7 h1 ?_
  rw[zbw2]
  walk_at "wh"
  exact q _ s1
 ·rw[decide_eq_false en] at q
  walk_at "wh"
  exact q _ (Same.refl _)
theorem zbn3 (l:List Bool):(l.map V.bl)=(List.range l.length).map fun i=>V.bl (l.getD i false):=by
 apply zcw2
 intro i
 rw[zcq8,zcq8]
 by_cases h:i<l.length
 ·rw[zcv3 h,zcq4 h]
  simp[h]
 ·rw[zct2 (by walk_at "om"),zct2 (by simp;omega)]
  rfl
@[irreducible] def zj3:Sp:=fun vs H Q _=>∃ (r:Addr) (ps:List Addr) (n m:Int) (rows:List (List Int)),vs=[.int n,.int m,.ref r]/\zs1 H r ps rows/\rows.length<=100/\(∀ r∈rows,r.length<=100)/\∀ H',Same H H'->Q (.bl (decide ((rows.length:Int)=n)&&rows.all fun r=>decide ((r.length:Int)=m))) H'
theorem zae1 {H:Hp}{r:Addr}{ps:List Addr}{n m:Int}{rows:List (List Int)}{Q:VK}{E:XK}(h:zs1 H r ps rows) (hn:rows.length<=100) (hm:∀ r∈rows,r.length<=100) (q:∀ H',Same H H'->Q (.bl (decide ((rows.length:Int)=n)&&rows.all fun r=>decide ((r.length:Int)=m))) H'):zj3 [.int n,.int m,.ref r] H Q E:=by unfold zj3;exact⟨r,ps,n,m,rows,rfl,h,hn,hm,q⟩
theorem zba7 {f:Addr}{fd:FuncData}(F:Fun K "is_table" "is_table" zq1 f fd) (N:Nm mg) (zcl4:Def P w K mg base CX0 2 "is_table_row" ["many_numbers","row"] ze9):FnOk P w K mg base CX0 3 f fd ["many_rows","many_numbers","rows"] zj3:=by
 refine F.ok zba9 (fun vs H Q E h=>by unfold zj3 at h;obtain⟨_,_,_,_,_,rfl,_⟩:=h;rfl) (fun cdv A outer s H vs Q E hr h=>?_)
 unfold zj3 at h
 obtain⟨r,ps,n,m,rows,rfl,R,hn,hm,q⟩:=h
 have hu:=hu40 hr
 have gl:=R.len
 refine⟨_,(za4 (psIf (ptW (pwOr (zr1 (ptV (pB (zah7 (K:=K) rfl) N.isinstance_ zd7 (za0 (pq 2) (za0 (pTy N.list_ zaa0) za1))))) (zaj8 (ptC (oNeK (K:=K) rfl (by exact hu)) (pB (zo8 (K:=K) rfl) N.len_ zg5 (za0 (pq 2) za1)) (pq 0))))) (za6 (zb0 zan1)) zc1)
   (za6 (zb0 (pB (zaj3 (K:=K) rfl rfl) N.all_ zw8 (za0 (zf2 (N:=["row","many_numbers"]) (ks:=[none,some 1]) (ze3 (K:=K) rfl (pq 2)) (fun cl C s3 H3 fp=>(za7 (i:=0) nb_2 rfl (by first|exact Or.inl rfl|exact Or.inr rfl))) (fun cl C s3 H3 fp=>zc4) (fun cl C s3 H3 fp=>(pD zcl4 hr zb7 (za0 (pq 1) (za0 (pq 0) za1)))) (.skip (.take rfl rfl (by first|exact Or.inl rfl|exact Or.inr rfl) .nil))) za1))))),?_⟩
 refine zan4 R.out ?_
 refine zd8 (br_T ?_)
 refine zf3 R.out ?_
 rw[zcq3,gl]
 refine zd8 (zf5 (fun en=>?_) (fun en=>?_))
 ·rw[decide_eq_true en,zcv4] at q
  refine zb8 R.out ?_
  refine zm7 (Wk.list (SqL.of R.out)) (by rw[zcq3,sizeLine_eq];omega) (fun i=>.bl ((rows.map fun r=>decide ((r.length:Int)=m)).getD i false)) (fun _=>true) (fun j σ=>∃ t:Option V,σ=[t,some (.int m)]) ⟨none,rfl⟩ ?_ ?_
  ·rintro j v σ H1 R' S hj s1 hx ⟨t,rfl⟩ k _
   obtain⟨p,r1,rfl,ep,er,hp⟩:=(R.same s1).elt hx
   have eb:(rows.map fun r=>decide ((r.length:Int)=m)).getD j false=decide ((r1.length:Int)=m):=by
    rw[zcq7,zcq8,er];rfl
   rw[eb] at k
   refine br_T ?_
   refine zah1 hp (by have:=hm r1 (zcr0 er);omega) (fun H2 s2=>?_)
   walk_at "wh"
   exact k rfl _ _ s2 ⟨_,rfl⟩
  intro acc H1 f1 s1 h1
  have eb:=zbn3 (rows.map fun r=>decide ((r.length:Int)=m))
  rw[zcq3] at eb
  rw[ze0,zcq3,gl,← eb] at h1
  refine zu7 h1 ?_
  rw[zcx6]
  walk_at "wh"
  exact q _ s1
 ·rw[decide_eq_false en,Bool.false_and] at q
  walk_at "wh"
  exact q _ (Same.refl _)
@[irreducible] def zl3:Sp:=fun vs H Q _=>∃ (p:Addr) (a c:Int) (f:Fx),vs=[.int a,.int c,.ref p]/\FxAt H p f/\f.Gd/\∀ H',Same H H'->Q (.bl (isF a c f)) H'
theorem zag1 {H:Hp}{p:Addr}{a c:Int}{f:Fx}{Q:VK}{E:XK}(F:FxAt H p f) (O:f.Gd) (q:∀ H',Same H H'->Q (.bl (isF a c f)) H'):zl3 [.int a,.int c,.ref p] H Q E:=by unfold zl3;exact⟨p,a,c,f,rfl,F,O,q⟩
theorem zce9 {a c:Int}{w:Str}{zs:List Int}(h:zs.length≠2):isF a c (.flat w zs)=false:=by
 match zs,h with
 | [],_=>rfl
 | [_],_=>rfl
 | [_,_],h=>exact absurd rfl h
 | _ :: _ :: _ :: _,_=>rfl
theorem zaz9 {f:Addr}{fd:FuncData}(F:Fun K "is_field" "is_field" zp9 f fd) (N:Nm mg) (zck5:Def P w K mg base CX0 3 "is_between" ["thing","least","most"] zd5) (zck7:Def P w K mg base CX0 2 "is_from" ["thing","least"] zg3) (zcl3:Def P w K mg base CX0 3 "is_table" ["many_rows","many_numbers","rows"] zj3) (zcl0:Def P w K mg base CX0 1 "is_whole" ["thing"] zf7):FnOk P w K mg base CX0 4 f fd ["first","second","field"] zl3:=by
 refine F.ok zba6 (fun vs H Q E h=>by unfold zl3 at h;obtain⟨_,_,_,_,rfl,_⟩:=h;rfl) (fun cdv A outer s H vs Q E hr h=>?_)
 unfold zl3 at h
 obtain⟨p,a,c,f,rfl,F,O,q⟩:=h
 have hu:=hu40 hr
 refine⟨_,(za4 (psIf (zr1 (ptV (pB (zah7 (K:=K) rfl) N.isinstance_ zd7 (za0 (pq 2) (za0 (pTy N.tuple_ zan2) za1))))) (za6 (zb0 zan1)) zc1)
   (za4 (psIf (ptW (pwAnd (ptC (oEqK (K:=K) rfl (by exact hu)) (pB (zo8 (K:=K) rfl) N.len_ zg5 (za0 (pq 2) za1)) za2) (zao1 (ptC (oEqK (K:=K) rfl (by exact hu)) (za8 (K:=K) rfl (pq 2) za2) zh6)))) (za6 (zb0 (zt5 (pD zck7 hr zb7 (za0 (za8 (K:=K) rfl (pq 2) za2) (za0 za2 za1))) (zt1 (pD zck5 hr zb7 (za0 (za8 (K:=K) rfl (pq 2) za2) (za0 (zai3 uNeg (za8 (K:=K) rfl (pq 2) za2)) (za0 (za8 (K:=K) rfl (pq 2) za2) za1)))))))) zc1)
   (za4 (psIf (ptW (pwAnd (ptC (oEqK (K:=K) rfl (by exact hu)) (pB (zo8 (K:=K) rfl) N.len_ zg5 (za0 (pq 2) za1)) za2) (zao1 (ptC (oEqK (K:=K) rfl (by exact hu)) (za8 (K:=K) rfl (pq 2) za2) zh6)))) (za6 (zb0 (zt5 (pD zck7 hr zb7 (za0 (za8 (K:=K) rfl (pq 2) za2) (za0 za2 za1))) (zt1 (pD zcl0 hr zb7 (za0 (za8 (K:=K) rfl (pq 2) za2) za1)))))) zc1)
   (za4 (psIf (ptW (pwAnd (ptC (oEqK (K:=K) rfl (by exact hu)) (pB (zo8 (K:=K) rfl) N.len_ zg5 (za0 (pq 2) za1)) za2) (zao1 (ptC (oEqK (K:=K) rfl (by exact hu)) (za8 (K:=K) rfl (pq 2) za2) zh6)))) (za6 (zb0 (pD zcl3 hr zb7 (za0 (zb5 oAdd (pq 0) za2) (za0 (zb5 oAdd (pq 1) za2) (za0 (za8 (K:=K) rfl (pq 2) za2) za1)))))) zc1)
   (za6 (zb0 zan1)))))),?_⟩
 cases f with
 | flat w zs=>
  have F:H p=some (.tup (.str w :: zs.map V.int)):=F
  obtain⟨nt,zl⟩:w≠"table"/\zs.length<=10:=O
  have q:=q _ (Same.refl _)
  refine zae7 F ?_
  refine zd8 (br_T ?_)
  refine zq7 F ?_
  rw[zct0,zcq3]
  walk_at "wh"
  by_cases e2:zs.length=2
  ·obtain⟨x,y,rfl⟩:∃ x y,zs=[x,y]:=by
    match zs,e2 with
    | [x,y],_=>exact⟨x,y,rfl⟩
   refine zt3 rfl ?_
   refine zb2 (v:=.str w) F rfl ?_
   refine zf5 (fun em=>?_) (fun em=>?_)
   ·subst em
    have q:Q (.bl (decide (1<=x/\-x<=y/\y<=x))) H:=q
    refine zb2 (v:=.int x) F rfl ?_
    refine zcb9 ?_
    refine zf5 (fun e1=>?_) (fun e1=>?_)
    ·rw[zac7 e1] at q
     refine zb2 (v:=.int y) F rfl ?_
     refine zb2 (v:=.int x) F rfl ?_
     refine zb2 (v:=.int x) F rfl ?_
     refine zbs4 ?_
     walk_at "wh"
     exact q
    ·rw[zad2 e1] at q
     walk_at "wh"
     exact q
   ·have q:Q (.bl (if w="more" then decide (1<=x/\-x<=y/\y<=x) else if w="lead" then decide (1<=x) else false)) H:=q
    rw[if_neg em] at q
    refine zq7 F ?_
    refine zt3 rfl ?_
    refine zb2 (v:=.str w) F rfl ?_
    refine zf5 (fun el=>?_) (fun el=>?_)
    ·rw[if_pos el] at q
     refine zb2 (v:=.int x) F rfl ?_
     refine zcb9 ?_
     refine zf5 (fun e1=>?_) (fun e1=>?_)
     ·rw[decide_eq_true e1] at q
      refine zb2 (v:=.int y) F rfl ?_
      refine zcb3 ?_
      walk_at "wh"
      exact q
     ·rw[decide_eq_false e1] at q
      walk_at "wh"
      exact q
    ·rw[if_neg el] at q
     refine zq7 F ?_
     refine zr8 (by show ¬ ((3:Nat):Int)=2;decide) ?_
     refine br_F ?_
     walk_at "wh"
     exact q
  ·rw[zce9 e2] at q
   refine zr8 (by walk_at "om") ?_
   refine br_F ?_
   refine zq7 F ?_
   rw[zct0,zcq3]
   refine zr8 (by walk_at "om") ?_
   refine br_F ?_
   refine zq7 F ?_
   rw[zct0,zcq3]
   refine zf5 (fun e1=>?_) (fun e1=>?_)
   ·obtain⟨z,rfl⟩:∃ z,zs=[z]:=by
     match zs,(show zs.length=1 by walk_at "om") with
     | [z],_=>exact⟨z,rfl⟩
    refine zb2 (v:=.str w) F rfl ?_
    refine zr8 nt ?_
    walk_at "wh"
    exact q _ (Same.refl _)
   ·walk_at "wh"
    refine br_F ?_
    walk_at "wh"
    exact q
 | tab rows=>
  obtain⟨q',ps,F,R⟩:=F
  obtain⟨o1,o2⟩:rows.length<=100/\∀ r∈rows,r.length<=100:=O
  refine zae7 F ?_
  refine zd8 (br_T ?_)
  refine zq7 F ?_
  refine zr8 (by show ¬ ((2:Nat):Int)=3;decide) ?_
  refine br_F ?_
  refine zq7 F ?_
  refine zr8 (by show ¬ ((2:Nat):Int)=3;decide) ?_
  refine br_F ?_
  refine zq7 F ?_
  refine zt3 rfl ?_
  refine zb2 (v:=.str "table") F rfl ?_
  refine zt3 rfl ?_
  refine zb2 (v:=.ref q') F rfl ?_
  refine zae1 (n:=a+1) (m:=c+1) R o1 o2 (fun H1 s1=>?_)
  walk_at "wh"
  exact q _ s1
@[irreducible] def zl4:Sp:=fun vs H Q _=>∃ (b l:Addr) (ys:List V) (a c:Int),vs=[.ref b]/\H b=some (.tup [.int a,.int c,.ref l])/\H l=some (.lst ys)/\Q (.bl (decide (Sz a c ys.length))) H
theorem zx0 {H:Hp}{b l:Addr}{ys:List V}{a c:Int}{Q:VK}{E:XK}(h1:H b=some (.tup [.int a,.int c,.ref l])) (h2:H l=some (.lst ys)) (q:Q (.bl (decide (Sz a c ys.length))) H):zl4 [.ref b] H Q E:=by unfold zl4;exact⟨b,l,ys,a,c,rfl,h1,h2,q⟩
theorem zay5 {f:Addr}{fd:FuncData}(F:Fun K "has_size" "has_size" zq4 f fd) (N:Nm mg) {zcl5:Tok}(c_MOST_FIELDS:mg "MOST_FIELDS"=some (.int 5 zcl5)) (zcn2:Def P w K mg base CX0 4 "are_hosts" ["first","second"] zj2):FnOk P w K mg base CX0 5 f fd ["battle"] zl4:=by
 refine F.ok zax2 (fun vs H Q E h=>by unfold zl4 at h;obtain⟨_,_,_,_,_,rfl,_⟩:=h;rfl) (fun cdv A outer s H vs Q E hr h=>?_)
 unfold zl4 at h
 obtain⟨b,l,ys,a,c,rfl,h1,h2,q⟩:=h
 refine⟨_,(za6 (zb0 (zt5 (pD zcn2 hr zb7 (za0 (za8 (K:=K) rfl (pq 0) za2) (za0 (za8 (K:=K) rfl (pq 0) za2) za1))) (zt1 (zcd9 oLe oLe za2 (pB (zo8 (K:=K) rfl) N.len_ zg5 (za0 (za8 (K:=K) rfl (pq 0) za2) za1)) (zba5 (v:=.int 5) rfl c_MOST_FIELDS ⟨_,rfl⟩)))))),?_⟩
 refine zb2 (v:=.int a) h1 rfl ?_
 refine zb2 (v:=.int c) h1 rfl ?_
 refine zaw5 ?_
 refine zf5 (fun e1=>?_) (fun e1=>?_)
 ·walk_at "wh"
  refine zb2 (v:=.ref l) h1 rfl ?_
  refine zf3 h2 ?_
  walk_at "wh"
  rw[zac7 e1] at q
  refine zf5 (fun e2=>?_) (fun e2=>?_)
  ·walk_at "wh"
   rw[show decide (1<=ys.length/\ys.length<=5)=decide ((ys.length:Int)<=5) by rw[Bool.eq_iff_iff,decide_eq_true_iff,decide_eq_true_iff];omega] at q
   exact q
  ·walk_at "wh"
   rw[decide_eq_false (by walk_at "om")] at q
   exact q
 ·rw[zad2 e1] at q
  walk_at "wh"
  exact q
@[irreducible] def ze1 (zck0:Addr):Sp:=fun vs H Q E=>∃ b:Addr,vs=[.ref b] /\
 ((∃ (l:Addr) (ps:List Addr) (a c:Nat) (fs:List Fd),zh5 H b l ps a c fs/\OkB a c fs/\∀ H',Same H H'->Q .non H') ∨
  ∃ k:Int,BadB H b k/\∀ d H',H d=none->Same H H'->H' d=some (.xd [("field",.int k)])->E (.ref zck0) (some d) H')
theorem zw5 {zck0:Addr}{H:Hp}{b l:Addr}{ps:List Addr}{a c:Nat}{fs:List Fd}{Q:VK}{E:XK}(B:zh5 H b l ps a c fs) (O:OkB a c fs) (q:∀ H',Same H H'->Q .non H'):ze1 zck0 [.ref b] H Q E:=by unfold ze1;exact⟨b,rfl,.inl ⟨l,ps,a,c,fs,B,O,q⟩⟩
theorem zaj5 {f:Addr}{fd:FuncData}(F:Fun K "look_battle" "look_battle" zj9 f fd) (N:Nm mg) (zco3:Def P w K mg base CX0 5 "has_size" ["battle"] zl4) (zco4:Def P w K mg base CX0 4 "is_field" ["first","second","field"] zl3) (Z:Cz K mg base zck3 zck0 zck8 zck2 zck6):FnOk P w K mg base (CXR P w) 6 f fd ["battle"] (ze1 zck0):=by
 refine F.okR zs4 (fun vs H Q E h=>by unfold ze1 at h;obtain⟨_,rfl,_⟩:=h;rfl) (fun cdv A outer s H vs Q E hr hX h=>?_)
 unfold ze1 at h
 obtain⟨b,rfl,h⟩:=h
 refine⟨_,(za4 (psIf (zr1 (ptV (pD zco3 hr zb7 (za0 (pq 0) za1)))) (za6 (zbf0 Z.z_NoBattle Z.g_NoBattle (zab7 Z.fi_NoBattle Z.z_NoBattle) (hr.mono (by decide)) rfl hX (zai3 uNeg za2))) zc1)
   (za6 (zt9 PassesOwn.leaving rfl (zax9 (K:=K) rfl N.enumerate_ (za0 (za8 (K:=K) rfl (pq 0) za2) za1)) (zk4 (K:=K) (n:=2) rfl rfl (zb4 (za7 (i:=1) zs4.nd rfl (by first|exact Or.inl rfl|exact Or.inr rfl)) (zb4 (za7 (i:=2) zs4.nd rfl (by first|exact Or.inl rfl|exact Or.inr rfl)) zk5))) (za6 (psIf (zr1 (ptV (pD zco4 hr zb7 (za0 (za8 (K:=K) rfl (pq 0) za2) (za0 (za8 (K:=K) rfl (pq 0) za2) (za0 (pq 2) za1)))))) (za6 (zbf0 Z.z_NoBattle Z.g_NoBattle (zab7 Z.fi_NoBattle Z.z_NoBattle) (hr.mono (by decide)) rfl hX (pq 1))) zc1))))),?_⟩
 rcases h with ⟨l,ps,a,c,fs,B,O,q⟩|⟨k,⟨l,ps,a,c,fs,B,hl,hk⟩,q⟩
 ·have X:=toBx B O.1.1 O.1.2
  have bl:=B.len
  refine zx0 B.out B.lst ?_
  rw[decide_eq_true (by rw[zcq3,bl];exact⟨⟨⟨by walk_at "om",by walk_at "om"⟩,by walk_at "om",by walk_at "om"⟩,O.2⟩)]
  refine zd8 (br_T ?_)
  refine zb2 (v:=.ref l) B.out rfl ?_
  refine zaf4 B.lst ?_
  refine zu2 (xs:=ps.map V.ref) (fun i σ H1=>∃ x y:Option V,σ=[some (.ref b),x,y]/\Same H H1) ?_ ?_ ?_ ?_
  ·exact⟨_,_,rfl,Same.refl _⟩
  ·rintro i σ H1 _ ⟨_,_,_,s1⟩
   exact SqL.of (s1 _ _ B.lst)
  ·rintro i v σ H1 p H2 hi ⟨x,y,rfl,s1⟩ f2 s2 h2
   have s12:=s1.trans s2
   obtain⟨p',f,rfl,e1,e2,hf,ok⟩:=(X.same s12).elt hi
   rw[zcq8] at e2
   obtain⟨f',e3,rfl⟩:=zcr1.mp e2
   refine zd4 h2 ?_
   refine zb2 (v:=.int a) (s12 _ _ B.out) rfl ?_
   refine zb2 (v:=.int c) (s12 _ _ B.out) rfl ?_
   refine zag1 hf ok (fun H3 s3=>?_)
   rw[zcc7 (B.fld i p' f' e1 e3).2]
   refine zd8 (br_T ?_)
   walk_at "wh"
   exact⟨_,_,rfl,s12.trans s3⟩
  ·rintro σ H1 ⟨x,y,rfl,s1⟩
   walk_at "wh"
   exact q _ s1
 ·have bl:=B.len
  rcases hk with ⟨nz,rfl⟩|⟨sz,j,f,rfl,ej,bad,good⟩
  ·walk_at "wh"
   refine zx0 B.out B.lst ?_
   rw[decide_eq_false (by rw[zcq3,bl];exact nz)]
   refine zd8 (br_F ?_)
   walk_at "wh"
   exact zat8 q
  ·have hj:j<ps.length:=by have:=(zcq6.mp ej).1;omega
   refine zx0 B.out B.lst ?_
   rw[decide_eq_true (by rw[zcq3,bl];exact sz)]
   refine zd8 (br_T ?_)
   refine zb2 (v:=.ref l) B.out rfl ?_
   refine zaf4 B.lst ?_
   refine zu2 (xs:=ps.map V.ref) (fun i σ H1=>∃ x y:Option V,σ=[some (.ref b),x,y]/\Same H H1/\i<=j) ?_ ?_ ?_ ?_
   ·exact⟨_,_,rfl,Same.refl _,zcu4 _⟩
   ·rintro i σ H1 _ ⟨_,_,_,s1,_⟩
    exact SqL.of (s1 _ _ B.lst)
   ·rintro i v σ H1 p H2 hi ⟨x,y,rfl,s1,ij⟩ f2 s2 h2
    have s12:=s1.trans s2
    obtain⟨p',f',rfl,e1,e2,hf,ok⟩:=(B.same s12).elt hi
    refine zd4 h2 ?_
    refine zb2 (v:=.int a) (s12 _ _ B.out) rfl ?_
    refine zb2 (v:=.int c) (s12 _ _ B.out) rfl ?_
    refine zag1 hf ok (fun H3 s3=>?_)
    by_cases e:i=j
    ·subst e
     have:f'=f:=Option.some.inj (e2.symm.trans ej)
     subst this
     rw[bad]
     refine zd8 (br_F ?_)
     walk_at "wh"
     exact zat8 (fun d H4 f4 s4 h4=>q d H4 ((s12.trans s3).free f4) ((s12.trans s3).trans s4) h4)
    ·rw[good i f' (by walk_at "om") e2]
     refine zd8 (br_T ?_)
     walk_at "wh"
     exact⟨_,_,rfl,s12.trans s3,by walk_at "om"⟩
   ·rintro σ H1 ⟨x,y,rfl,s1,ij⟩
    rw[zcq3] at ij
    omega
@[irreducible] def zab3:Sp:=fun vs H Q _=>∃ (p:Addr) (a c x y:Nat) (f:Fd),vs=[.ref p,.int x,.int y]/\FdAt H p a c f/\x<=a/\y<=c/\Q (.int (f.won x y)) H
theorem zbm3 {H:Hp}{p:Addr}{a c x y:Nat}{f:Fd}{Q:VK}{E:XK}(F:FdAt H p a c f) (h1:x<=a) (h2:y<=c) (q:Q (.int (f.won x y)) H):zab3 [.ref p,.int x,.int y] H Q E:=by unfold zab3;exact⟨p,a,c,x,y,f,rfl,F,h1,h2,q⟩
theorem ok_won {f:Addr}{fd:FuncData}(F:Fun K "won" "won" zbi0 f fd) (N:Nm mg):FnOk P w K mg base CX0 1 f fd ["field","x","y"] zab3:=by
 refine F.ok sc_won (fun vs H Q E h=>by unfold zab3 at h;obtain⟨_,_,_,_,_,_,rfl,_⟩:=h;rfl) (fun cdv A outer s H vs Q E hr h=>?_)
 unfold zab3 at h
 obtain⟨p,a,c,x,y,f,rfl,F,h1,h2,q⟩:=h
 have hu:=hu40 hr
 refine⟨_,(za4 (psIf (ptC (oEqK (K:=K) rfl (by exact hu)) (za8 (K:=K) rfl (pq 0) za2) zh6) (za6 (zb0 (za8 (K:=K) rfl (za8 (K:=K) rfl (za8 (K:=K) rfl (pq 0) za2) (pq 1)) (pq 2)))) zc1)
   (za4 (psIf (ptC (oEqK (K:=K) rfl (by exact hu)) (za8 (K:=K) rfl (pq 0) za2) zh6) (za6 (zb0 (peIf (ptC oGe (zb5 oSub (pq 1) (pq 2)) (za8 (K:=K) rfl (pq 0) za2)) (za8 (K:=K) rfl (pq 0) za2) (zai3 uNeg (za8 (K:=K) rfl (pq 0) za2))))) zc1)
   (za4 (psIf (ptC (oEqK (K:=K) rfl (by exact hu)) (pq 1) (pq 2)) (za6 (zb0 (za8 (K:=K) rfl (pq 0) za2))) zc1)
   (za6 (zb0 (peIf (ptC oGt (pq 1) (pq 2)) (za8 (K:=K) rfl (pq 0) za2) (zai3 uNeg (za8 (K:=K) rfl (pq 0) za2)))))))),?_⟩
 cases f with
 | more wt t=>
  have F:H p=some (.tup [.str "more",.int wt,.int t]):=F
  refine zb2 (v:=.str "more") F rfl ?_
  refine zr8 (by decide) ?_
  refine zb2 (v:=.str "more") F rfl ?_
  refine zr8 (by decide) ?_
  walk_at "wh"
  have q:Q (.int (if x=y then t else if y<x then wt else -wt)) H:=q
  refine zf5 (fun h=>?_) (fun h=>?_)
  ·walk_at "wh"
   refine zb2 (v:=.int t) F rfl ?_
   walk_at "wh"
   rw[if_pos (by walk_at "om")] at q
   exact q
  ·rw[if_neg (by walk_at "om")] at q
   refine zf5 (fun h=>?_) (fun h=>?_)
   ·walk_at "wh"
    refine zb2 (v:=.int wt) F rfl ?_
    walk_at "wh"
    rw[if_pos (by walk_at "om")] at q
    exact q
   ·walk_at "wh"
    refine zb2 (v:=.int wt) F rfl ?_
    walk_at "wh"
    rw[if_neg (by walk_at "om")] at q
    exact q
 | lead wt l=>
  have F:H p=some (.tup [.str "lead",.int wt,.int l]):=F
  refine zb2 (v:=.str "lead") F rfl ?_
  refine zr8 (by decide) ?_
  refine zb2 (v:=.str "lead") F rfl ?_
  refine zt3 rfl ?_
  refine zb2 (v:=.int l) F rfl ?_
  walk_at "wh"
  have q:Q (.int (if l<=(x:Int) - y then wt else -wt)) H:=q
  refine zf5 (fun h=>?_) (fun h=>?_)
  ·walk_at "wh"
   refine zb2 (v:=.int wt) F rfl ?_
   walk_at "wh"
   rw[if_pos (by walk_at "om")] at q
   exact q
  ·walk_at "wh"
   refine zb2 (v:=.int wt) F rfl ?_
   walk_at "wh"
   rw[if_neg (by walk_at "om")] at q
   exact q
 | tab g=>
  obtain⟨q',ps,F,G⟩:=F
  obtain⟨r,er,hr'⟩:=G.some (i:=x) (by walk_at "om")
  refine zb2 (v:=.str "table") F rfl ?_
  refine zt3 rfl ?_
  refine zb2 (v:=.ref q') F rfl ?_
  refine zb6 (v:=.ref r) G.out (zc5 (by rw[zcq8,er];rfl)) ?_
  refine zb6 (v:=.int (g x y)) hr' (zc5 (zf1 (by walk_at "om"))) ?_
  walk_at "wh"
  exact q
def zc0 (H:Hp) (a:Addr) (b:Int):Prop:=∃ x y z:Int,H a=some (.lst [.int x,.int y,.int z])/\(y=1∨(y=0/\0<=x/\x<2147483629))/\0<=z/\z<=b
theorem zc0.same {H H':Hp}{a:Addr}{b:Int}(h:zc0 H a b) (s:Same H H'):zc0 H' a b:=by
 obtain⟨x,y,z,e,r⟩:=h
 exact⟨x,y,z,s _ _ e,r⟩
local macro_rules | `(tactic| walk_at "la")=>`(tactic| first|assumption|(refine zc0.same (H:=?H) ?l ?s;(case s=>assumption);(case l=>walk_at "la"))|fail "la")
theorem zc0.up {H:Hp}{a:Addr}{b c:Int}(h:zc0 H a b) (l:b<=c):zc0 H a c:=by
 obtain⟨x,y,z,e1,e2,e3,e4⟩:=h
 exact⟨x,y,z,e1,e2,e3,by walk_at "om"⟩
theorem zc0.ne {H:Hp}{a p:Addr}{b:Int}(h:zc0 H a b) (f:H p=none):p≠a:=by
 obtain⟨x,y,z,e,_⟩:=h
 exact Ne.symm (za5 e f)
local macro_rules | `(tactic| walk_at "ne")=>`(tactic| first|assumption|(apply Ne.symm;assumption)|(refine zc0.ne (H:=?H) (b:=?b) ?l ?f;(case f=>assumption);(case l=>walk_at "la"))|fail "ne")
@[irreducible] def zl6:Sp:=fun vs H Q _=>∃ n k:Int,vs=[.int n,.int k]/\0<=n/\n<2147483629/\0<=k/\k<=10000000/\∀ r:Int,0<=r->r<2147483587->Q (.int r) H
theorem zbd4 {H:Hp}{n k:Int}{Q:VK}{E:XK}(h0:0<=n) (h1:n<2147483629) (h2:0<=k) (h3:k<=10000000) (q:∀ r:Int,0<=r->r<2147483587->Q (.int r) H):zl6 [.int n,.int k] H Q E:=by
 unfold zl6;exact⟨n,k,rfl,h0,h1,h2,h3,q⟩
theorem zbb1 {f:Addr}{fd:FuncData}(F:Fun K "_law_mix" "_law_mix" zq5 f fd) (N:Nm mg):FnOk P w K mg base CX0 1 f fd ["_law_number","_law_k"] zl6:=by
 refine F.ok zae4 (fun vs H Q E h=>by unfold zl6 at h;obtain⟨n,k,rfl,_⟩:=h;rfl) (fun cdv A outer s H vs Q E hr h=>?_)
 unfold zl6 at h
 obtain⟨n,k,rfl,h1,h2,h3,h4,q⟩:=h
 refine⟨_,(za4 (psS (i:=2) zae4.nd (zb5 oMod (zb5 oMul (zb5 oAdd (zb5 oAdd (zb5 oMul (pq 0) (pq 0)) (zb5 oMul (pq 1) (pq 0))) (zb5 oMul (zb5 oMul za2 (pq 1)) (pq 1))) za2) za2))
   (za6 (zb0 (zb5 oMod (zb5 oMul (pq 2) (pq 2)) za2)))),?_⟩
 repeat walk_at "st"
 walk_at "wh"
 exact q _ (by assumption) (by assumption)
@[irreducible] def ze5:Sp:=fun vs H Q _=>∃ (a:Addr) (z:Int),vs=[.ref a,.int 0]/\H a=some (.lst [.int z])/\Q (.int z) H
theorem zbh4 {H:Hp}{a:Addr}{z:Int}{Q:VK}{E:XK}(h:H a=some (.lst [.int z])) (q:Q (.int z) H):ze5 [.ref a,.int 0] H Q E:=by unfold ze5;exact⟨a,z,rfl,h,q⟩
theorem zag9 {f:Addr}{fd:FuncData}(F:Fun K "_law_cell_at" "_law_cell_at" zh7 f fd) (N:Nm mg):FnOk P w K mg base CX0 1 f fd ["_law_script","_law_k"] ze5:=by
 refine F.ok zae5 (fun vs H Q E h=>by unfold ze5 at h;obtain⟨_,_,rfl,_⟩:=h;rfl) (fun cdv A outer s H vs Q E hr h=>?_)
 unfold ze5 at h
 obtain⟨a,z,rfl,h,q⟩:=h
 have hu:=hu40 hr
 refine⟨_,(za4 (psIf (ptC oLt (pq 1) (pB (zo8 (K:=K) rfl) N.len_ zg5 (za0 (pq 0) za1))) (za6 (zb0 (za8 (K:=K) rfl (pq 0) (pq 1)))) zc1)
   (za6 (zb0 za2))),?_⟩
 refine zf3 h ?_
 refine zt3 (by show (0:Int)<((1:Nat):Int);decide) ?_
 refine zb6 (v:=.int z) h rfl ?_
 walk_at "wh"
 exact q
@[irreducible] def zj1:Sp:=fun vs H Q _=>∃ (a:Addr) (z:Int),vs=[.ref a,.int 0]/\H a=some (.lst [.int z])/\∀ p H',H p=none->Same H H'->zc0 H' p 0->Q (.ref p) H'
theorem zcf6 {H:Hp}{a:Addr}{z:Int}{Q:VK}{E:XK}(h:H a=some (.lst [.int z])) (q:∀ p H',H p=none->Same H H'->zc0 H' p 0->Q (.ref p) H'):zj1 [.ref a,.int 0] H Q E:=by unfold zj1;exact⟨a,z,rfl,h,q⟩
theorem zas0 {f:Addr}{fd:FuncData}(F:Fun K "_law_left" "_law_left" zo0 f fd) (N:Nm mg) (zcl6:Def P w K mg base CX0 1 "_law_cell_at" ["_law_script","_law_k"] ze5):FnOk P w K mg base CX0 2 f fd ["_law_script","_law_k"] zj1:=by
 refine F.ok zab4 (fun vs H Q E h=>by unfold zj1 at h;obtain⟨_,_,rfl,_⟩:=h;rfl) (fun cdv A outer s H vs Q E hr h=>?_)
 unfold zj1 at h
 obtain⟨a,z,rfl,h,q⟩:=h
 have hu:=hu40 hr
 refine⟨_,(za4 (psS (i:=2) zab4.nd (pD zcl6 hr zb7 (za0 (pq 0) (za0 (pq 1) za1))))
   (za4 (psIf (ptC oLt (pq 2) (zb5 oPow za2 za2)) (za6 (zb0 (zk8 (za0 (zb5 oMod (pq 2) za2) (za0 za2 (za0 za2 za1)))))) zc1)
   (za6 (zb0 (zk8 (za0 (zb5 oSub (pq 2) (zb5 oPow za2 za2)) (za0 za2 (za0 za2 za1)))))))),?_⟩
 refine zbh4 h ?_
 walk_at "st"
 refine zf5 (fun h=>?_) (fun h=>?_)
 ·repeat walk_at "st"
  walk_at "wh"
  exact q _ _ (by assumption) (by assumption) ⟨_,_,_,by assumption,.inr ⟨rfl,by assumption,by assumption⟩,by walk_at "om",by walk_at "om"⟩
 ·repeat walk_at "st"
  walk_at "wh"
  exact q _ _ (by assumption) (by assumption) ⟨_,_,_,by assumption,.inl rfl,by walk_at "om",by walk_at "om"⟩
@[irreducible] def zd1:Sp:=fun vs H Q _=>∃ (a:Addr) (m b:Int),vs=[.ref a,.int m]/\zc0 H a b/\b<=1000000/\0<m/\m<10 ^ 60/\∀ (d:Int) H',0<=d->d<m->Chg a H H'->zc0 H' a (b+1)->Q (.int d) H'
theorem ze6 {H:Hp}{a:Addr}{m b:Int}{Q:VK}{E:XK}(hL:zc0 H a b) (hb:b<=1000000) (h0:0<m) (h1:m<10 ^ 60) (q:∀ (d:Int) H',0<=d->d<m->Chg a H H'->zc0 H' a (b+1)->Q (.int d) H'):zd1 [.ref a,.int m] H Q E:=by
 unfold zd1;exact⟨a,m,b,rfl,hL,hb,h0,h1,q⟩
theorem zaw0 {f:Addr}{fd:FuncData}(F:Fun K "_law_draw" "_law_draw" zn4 f fd) (N:Nm mg) (zcn1:Def P w K mg base CX0 1 "_law_mix" ["_law_number","_law_k"] zl6):FnOk P w K mg base CX0 2 f fd ["_law_left_here","_law_base"] zd1:=by
 refine F.ok zv4 (fun vs H Q E h=>by unfold zd1 at h;obtain⟨a,m,b,rfl,_⟩:=h;rfl) (fun cdv A outer s H vs Q E hr h=>?_)
 unfold zd1 at h
 obtain⟨a,m,b,rfl,⟨x,y,z,hl,hy,hz0,hz1⟩,hb,hm0,hm1,q⟩:=h
 have hu:=hu40 hr
 refine⟨_,(za4 (zav0 (zb5 oAdd (za8 (K:=K) rfl (pq 0) za2) za2) (zbm7 (pq 0) za2 setM))
   (za4 (psIf (ptC (oEqK (K:=K) rfl (by exact hu)) (za8 (K:=K) rfl (pq 0) za2) za2) (za4 (psS (i:=2) zv4.nd (pD zcn1 hr zb7 (za0 (za8 (K:=K) rfl (pq 0) za2) (za0 (za8 (K:=K) rfl (pq 0) za2) za1))))
   (za4 (psIf (ptC oGt (pq 1) (zb5 oPow za2 za2)) (za6 (zb0 (zb5 oMod (zb5 oMul (pq 2) (zb5 oAdd (zb5 oPow (pD zcn1 hr zb7 (za0 (za8 (K:=K) rfl (pq 0) za2) (za0 (zb5 oAdd (za8 (K:=K) rfl (pq 0) za2) za2) za1))) za2) za2)) (pq 1)))) zc1)
   (za6 (zb0 (zb5 oMod (zb5 oMod (zb5 oMul (pq 2) (zb5 oAdd (pq 2) za2)) za2) (pq 1)))))) zc1)
   (za4 (psS (i:=3) zv4.nd (zb5 oMod (za8 (K:=K) rfl (pq 0) za2) (pq 1)))
   (za4 (zav0 (zb5 oDiv (za8 (K:=K) rfl (pq 0) za2) (pq 1)) (zbm7 (pq 0) za2 setM))
   (za6 (zb0 (pq 3))))))),?_⟩
 walk_at "st"
 refine zbc8 hl (by rfl) (fun H1 c1 h1=>?_)
 have h1:H1 a=some (.lst [.int x,.int y,.int (z+1)]):=h1
 refine zb6 (v:=.int y) h1 rfl ?_
 refine zf5 (fun h=>?_) (fun h=>?_)
 ·obtain⟨hx0,hx1⟩:0<=x/\x<2147483629:=by walk_at "om"
  subst h
  refine zb6 (v:=.int x) h1 rfl ?_
  refine zb6 (v:=.int (z+1)) h1 rfl ?_
  refine zbd4 hx0 hx1 (by walk_at "om") (by walk_at "om") (fun r r0 r1=>?_)
  walk_at "st"
  refine zf5 (fun g=>?_) (fun g=>?_)
  ·walk_at "wh"
   refine zb6 (v:=.int x) h1 rfl ?_
   refine zb6 (v:=.int (z+1)) h1 rfl ?_
   refine zbd4 hx0 hx1 (by walk_at "om") (by walk_at "om") (fun r2 r20 r21=>?_)
   refine zcb2 ⟨by decide,by decide,by walk_at "om"⟩ ?_
   refine zad8 (by walk_at "om") (by walk_at "om") ?_
   refine zaf7 (by walk_at "om") (fun d d0 d1=>?_)
   walk_at "wh"
   exact q _ _ d0 d1 c1 ⟨_,_,_,h1,.inr ⟨rfl,hx0,hx1⟩,by walk_at "om",by walk_at "om"⟩
  ·walk_at "wh"
   refine zad8 (by walk_at "om") (by walk_at "om") ?_
   refine zaf7 (by walk_at "om") (fun d1 d10 d11=>?_)
   refine zaf7 (by walk_at "om") (fun d d0 d1=>?_)
   walk_at "wh"
   exact q _ _ d0 d1 c1 ⟨_,_,_,h1,.inr ⟨rfl,hx0,hx1⟩,by walk_at "om",by walk_at "om"⟩
 ·have hy1:y=1:=by walk_at "om"
  subst hy1
  refine zb6 (v:=.int x) h1 rfl ?_
  refine zaf7 (by walk_at "om") (fun d d0 d1=>?_)
  refine zb6 (v:=.int x) h1 rfl ?_
  walk_at "st"
  refine zbc8 h1 (by rfl) (fun H2 c2 h2=>?_)
  walk_at "wh"
  exact q _ _ d0 d1 (c1.trans c2) ⟨_,_,_,h2,.inl rfl,by walk_at "om",by walk_at "om"⟩
theorem zc0.chg {H H':Hp}{a p:Addr}{b:Int}(h:zc0 H a b) (c:Chg p H H') (n:a≠p):zc0 H' a b:=by
 obtain⟨x,y,z,e,r⟩:=h
 exact⟨x,y,z,c _ _ n e,r⟩
theorem zc0.some {H:Hp}{a:Addr}{b:Int}(h:zc0 H a b):∃ o,H a=some o:=by
 obtain⟨x,y,z,e,r⟩:=h
 exact⟨_,e⟩
theorem Chg.free' {a l:Addr}{H H':Hp}(x:Chg a H H') (h:H' l=none) (n:l≠a):H l=none:=by
 cases e:H l with
 | none=>rfl
 | some o=>
  have:=x l o n e
  rw[h] at this
  cases this
def Fd.Bd (a c:Nat):Fd->Prop
 | .more w _=>w<=2*10 ^ 28
 | .lead w _=>w<=2*10 ^ 28
 | .tab g=>∀ x y,x<=a->y<=c->-(2*10 ^ 28)<=g x y/\g x y<=2*10 ^ 28
@[irreducible] def zi7:Sp:=fun vs H Q _=>∃ (a:Addr) (b:Int),vs=[.ref a]/\zc0 H a b/\b<=100000/\∀ (d:Int) H',-(10 ^ 28)<=d->d<=10 ^ 28->Chg a H H'->zc0 H' a (b+2)->Q (.int d) H'
theorem zci6 {H:Hp}{a:Addr}{b:Int}{Q:VK}{E:XK}(hL:zc0 H a b) (hb:b<=100000) (q:∀ (d:Int) H',-(10 ^ 28)<=d->d<=10 ^ 28->Chg a H H'->zc0 H' a (b+2)->Q (.int d) H'):zi7 [.ref a] H Q E:=by unfold zi7;exact⟨a,b,rfl,hL,hb,q⟩
theorem zaq5 {f:Addr}{fd:FuncData}(F:Fun K "_law_some" "_law_some" zn6 f fd) (N:Nm mg) (zck1:Def P w K mg base CX0 2 "_law_draw" ["_law_left_here","_law_base"] zd1):FnOk P w K mg base CX0 3 f fd ["_law_left_here"] zi7:=by
 refine F.ok zac1 (fun vs H Q E h=>by unfold zi7 at h;obtain⟨_,_,rfl,_⟩:=h;rfl) (fun cdv A outer s H vs Q E hr h=>?_)
 unfold zi7 at h
 obtain⟨a,b,rfl,hL,hb,q⟩:=h
 refine⟨_,(za4 (psS (i:=1) zac1.nd (za8 (K:=K) rfl (zk8 (za0 za2 (za0 za2 (za0 (zb5 oPow za2 za2) za1)))) (pD zck1 hr zb7 (za0 (pq 0) (za0 za2 za1)))))
   (za6 (zb0 (zb5 oSub (pD zck1 hr zb7 (za0 (pq 0) (za0 (zb5 oAdd (zb5 oMul za2 (pq 1)) za2) za1))) (pq 1))))),?_⟩
 walk_at "st"
 refine zc7 (fun p1 H1 f1 s1 h1=>?_)
 refine ze6 (hL.same s1) (by walk_at "om") (by walk_at "om") (by walk_at "om") (fun d1 H2 d10 d11 c2 L2=>?_)
 have h12:=c2 _ _ (hL.ne f1) h1
 refine zac6 h12 (by walk_at "om") (by simp only[zct0,zcw3];omega) ?_
 intro v hv
 obtain⟨m,rfl,m1,m2⟩:∃ m:Int,v=.int m/\1<=m/\m<=10 ^ 28:=by
  simp only[zcs2,zcu0,or_false] at hv
  rcases hv with rfl|rfl|rfl<;>exact⟨_,rfl,by walk_at "om",by walk_at "om"⟩
 clear hv
 refine zad8 (by decide) (by decide) ?_
 refine ze6 L2 (by walk_at "om") (by walk_at "om") (by walk_at "om") (fun d3 H3 d30 d31 c3 L3=>?_)
 walk_at "wh"
 exact q _ _ (by walk_at "om") (by walk_at "om") ((s1.toChg.trans c2).trans c3) (L3.up (by walk_at "om"))
theorem zaz1 {z:List Int}{n:Nat}(h:z.length=n):z.map V.int=rowV n fun y=>z.getD y 0:=by
 subst h
 apply zcw2
 intro i
 by_cases hi:i<z.length
 ·rw[zf1 hi,zcq8,zcq4 hi,zcq7,zcq4 hi]
  rfl
 ·rw[zct2 (by simp;omega),zct2 (by rw[zd0];omega)]
@[irreducible] def zj0:Sp:=fun vs H Q _=>∃ (a:Addr) (b:Int) (n m:Nat),vs=[.ref a,.int n,.int m]/\zc0 H a b/\b<=90000/\n<=10/\m<=10/\∀ p f H',Chg a H H'->zc0 H' a (b+1000)->FdAt (nw H H') p n m f->f.Ok->f.Bd n m->Q (.ref p) H'
theorem zcd8 {H:Hp}{a:Addr}{b:Int}{n m:Nat}{Q:VK}{E:XK}(hL:zc0 H a b) (hb:b<=90000) (h1:n<=10) (h2:m<=10) (q:∀ p f H',Chg a H H'->zc0 H' a (b+1000)->FdAt (nw H H') p n m f->f.Ok->f.Bd n m->Q (.ref p) H'):zj0 [.ref a,.int n,.int m] H Q E:=by unfold zj0;exact⟨a,b,n,m,rfl,hL,hb,h1,h2,q⟩
set_option maxHeartbeats 0 in
theorem zar3 {f:Addr}{fd:FuncData}(F:Fun K "_law_rule" "_law_rule" zn5 f fd) (N:Nm mg) (zck1:Def P w K mg base CX0 2 "_law_draw" ["_law_left_here","_law_base"] zd1) (zcn3:Def P w K mg base CX0 3 "_law_some" ["_law_left_here"] zi7):FnOk P w K mg base CX0 4 f fd ["_law_left_here","_law_first","_law_second"] zj0:=by
 refine F.ok zv6 (fun vs H Q E h=>by unfold zj0 at h;obtain⟨_,_,_,_,rfl,_⟩:=h;rfl) (fun cdv A outer s H vs Q E hr h=>?_)
 unfold zj0 at h
 obtain⟨a,b,n,m,rfl,hL,hb,h1,h2,q⟩:=h
 have hu:=hu40 hr
 refine⟨_,(za4 (psS (i:=3) zv6.nd (pD zck1 hr zb7 (za0 (pq 0) (za0 za2 za1))))
   (za4 (psS (i:=4) zv6.nd (zb5 oAdd za2 (pD zck1 hr zb7 (za0 (pq 0) (za0 (za8 (K:=K) rfl (zk8 (za0 za2 (za0 za2 (za0 (zb5 oPow za2 za2) za1)))) (pD zck1 hr zb7 (za0 (pq 0) (za0 za2 za1)))) za1)))))
   (za4 (psIf (ptC oLt (pq 3) za2) (za6 (zb0 (zp3 (za0 zh6 (za0 (pq 4) (za0 (zb5 oSub (pD zck1 hr zb7 (za0 (pq 0) (za0 (zb5 oAdd (zb5 oMul za2 (pq 4)) za2) za1))) (pq 4)) za1)))))) zc1)
   (za4 (psIf (ptC (oEqK (K:=K) rfl (by exact hu)) (pq 3) za2) (za6 (zb0 (zp3 (za0 zh6 (za0 (pq 4) (za0 (zb5 oSub (pD zck1 hr zb7 (za0 (pq 0) (za0 (za8 (K:=K) rfl (zk8 (za0 za2 (za0 za2 za1))) (pD zck1 hr zb7 (za0 (pq 0) (za0 za2 za1)))) za1))) za2) za1)))))) zc1)
   (za4 (psIf (ptC (oEqK (K:=K) rfl (by exact hu)) (pq 3) za2) (za6 (zb0 (zp3 (za0 zh6 (za0 (zf2 (N:=["_law_x","_law_second","_law_left_here"]) (ks:=[none,some 2,some 0]) (zr5 N.range_ (za0 (zb5 oAdd (pq 1) za2) za1)) (fun cl C s3 H3 fp=>(za7 (i:=0) nb_17 rfl (by first|exact Or.inl rfl|exact Or.inr rfl))) (fun cl C s3 H3 fp=>zc4) (fun cl C s3 H3 fp=>(zf2 (N:=["_law_y","_law_left_here"]) (ks:=[none,some 2]) (zr5 N.range_ (za0 (zb5 oAdd (pq 1) za2) za1)) (fun cl C s3 H3 fp=>(za7 (i:=0) nb_18 rfl (by first|exact Or.inl rfl|exact Or.inr rfl))) (fun cl C s3 H3 fp=>zc4) (fun cl C s3 H3 fp=>(zb5 oSub (pD zck1 hr zb7 (za0 (pq 1) (za0 za2 za1))) za2)) (.skip (.take rfl rfl (by first|exact Or.inl rfl|exact Or.inr rfl) .nil)))) (.skip (.take rfl rfl (by first|exact Or.inl rfl|exact Or.inr rfl) (.take rfl rfl (by first|exact Or.inl rfl|exact Or.inr rfl) .nil)))) za1))))) zc1)
   (za6 (zb0 (zp3 (za0 zh6 (za0 (zf2 (N:=["_law_x","_law_second","_law_left_here"]) (ks:=[none,some 2,some 0]) (zr5 N.range_ (za0 (zb5 oAdd (pq 1) za2) za1)) (fun cl C s3 H3 fp=>(za7 (i:=0) nb_17 rfl (by first|exact Or.inl rfl|exact Or.inr rfl))) (fun cl C s3 H3 fp=>zc4) (fun cl C s3 H3 fp=>(zf2 (N:=["_law_y","_law_left_here"]) (ks:=[none,some 2]) (zr5 N.range_ (za0 (zb5 oAdd (pq 1) za2) za1)) (fun cl C s3 H3 fp=>(za7 (i:=0) nb_18 rfl (by first|exact Or.inl rfl|exact Or.inr rfl))) (fun cl C s3 H3 fp=>zc4) (fun cl C s3 H3 fp=>(pD zcn3 hr zb7 (za0 (pq 1) za1))) (.skip (.take rfl rfl (by first|exact Or.inl rfl|exact Or.inr rfl) .nil)))) (.skip (.take rfl rfl (by first|exact Or.inl rfl|exact Or.inr rfl) (.take rfl rfl (by first|exact Or.inl rfl|exact Or.inr rfl) .nil)))) za1)))))))))),?_⟩
 refine ze6 hL (by walk_at "om") (by walk_at "om") (by walk_at "om") (fun kd H1 k0 k1 c1 L1=>?_)
 walk_at "st"
 refine zc7 (fun q1 Ha fa sa ha=>?_)
 refine ze6 (L1.same sa) (by walk_at "om") (by walk_at "om") (by walk_at "om") (fun d3 Hb d30 d31 cb Lb=>?_)
 have hab:=cb _ _ (L1.ne fa) ha
 refine zac6 hab (by walk_at "om") (by simp only[zct0,zcw3];omega) ?_
 intro v hv
 obtain⟨tp,rfl,tp1,tp2⟩:∃ t:Int,v=.int t/\1<=t/\t<=10 ^ 28:=by
  simp only[zcs2,zcu0,or_false] at hv
  rcases hv with rfl|rfl|rfl<;>exact⟨_,rfl,by walk_at "om",by walk_at "om"⟩
 clear hv hab ha
 refine ze6 Lb (by walk_at "om") (by walk_at "om") (by walk_at "om") (fun d4 H2 d40 d41 c2 L2=>?_)
 have c02:Chg a H H2:=((c1.same sa).trans cb).trans c2
 obtain⟨wt,ewt,w0,w1⟩:∃ wt:Int,1+d4=wt/\1<=wt/\wt<=10 ^ 28:=⟨_,rfl,by walk_at "om",by walk_at "om"⟩
 walk_at "wh"
 rw[ewt]
 refine zf5 (fun e0=>?_) (fun e0=>?_)
 ·walk_at "wh"
  refine zad8 (by decide) (by decide) ?_
  refine ze6 L2 (by walk_at "om") (by walk_at "om") (by walk_at "om") (fun d5 H5 d50 d51 c5 L5=>?_)
  refine zd9 (fun p6 H6 f6 s6 h6=>?_)
  walk_at "wh"
  have c05:=c02.trans c5
  exact q p6 (.more wt (d5 - wt)) H6 (c05.same s6) ((L5.same s6).up (by walk_at "om")) (zu4 (Chg.free' c05 f6 (L5.ne f6)) h6) ⟨w0,by walk_at "om",by walk_at "om"⟩ (show wt<=2*10 ^ 28 by walk_at "om")
 refine zf5 (fun e1=>?_) (fun e1=>?_)
 ·walk_at "wh"
  refine zc7 (fun p4 H4 f4 s4 h4=>?_)
  refine ze6 (L2.same s4) (by walk_at "om") (by walk_at "om") (by walk_at "om") (fun d5 H5 d50 d51 c5 L5=>?_)
  have h45:=c5 _ _ (L2.ne f4) h4
  refine zac6 h45 (by walk_at "om") (by simp only[zct0,zcw3];omega) ?_
  intro v hv
  obtain⟨tq,rfl,tq1,tq2⟩:∃ t:Int,v=.int t/\1<=t/\t<=25:=by
   simp only[zcs2,zcu0,or_false] at hv
   rcases hv with rfl|rfl<;>exact⟨_,rfl,by walk_at "om",by walk_at "om"⟩
  clear hv
  refine ze6 L5 (by walk_at "om") (by walk_at "om") (by walk_at "om") (fun d6 H6 d60 d61 c6 L6=>?_)
  refine zd9 (fun p7 H7 f7 s7 h7=>?_)
  walk_at "wh"
  have c06:=((c02.same s4).trans c5).trans c6
  exact q p7 (.lead wt (d6 - 2)) H7 (c06.same s7) ((L6.same s7).up (by walk_at "om")) (zu4 (Chg.free' c06 f7 (L6.ne f7)) h7) w0 (show wt<=2*10 ^ 28 by walk_at "om")
 refine zf5 (fun e2=>?_) (fun e2=>?_)
 ·walk_at "wh"
  refine zh3 (by decide) (by decide) (by walk_at "om") (by walk_at "om") ?_
  rw[show ((n:Int)+1 - 0).toNat=n+1 by walk_at "om"]
  refine zr0 (by rw[sizeLine_eq];omega) (fun r H3 f3 s3 h3=>?_)
  have nr:r≠a:=L2.ne f3
  have fr:H r=none:=Chg.free' c02 f3 nr
  refine⟨fun i ys σ H4=>∃ (t:Option V) (qs:List Addr) (zs:List (List Int)),σ=[t,some (.int m),some (.ref a)]/\ys=qs.map V.ref/\zc0 H4 a (b+20+50*i)/\Chg2 a r H2 H4/\qs.length=i/\zs.length=i/\∀ (k:Nat) q z,qs[k]?=some q->zs[k]?=some z->H q=none/\q≠r/\q≠a/\H4 q=some (.lst (z.map V.int))/\z.length=m+1/\∀ y∈z,-(10 ^ 28)<=y/\y<=10 ^ 28,?_,?_,?_⟩
  ·exact⟨none,[],[],rfl,rfl,(L2.same s3).up (by walk_at "om"),s3.to2,rfl,rfl,fun k q z e=>by simp at e⟩
  ·rintro i mm ys σ H4 hi hm hl h4 ⟨t,qs,zs,rfl,rfl,L4,c4,ql,zl,pr⟩
   have hi:i<n+1:=hi
   refine br_T ?_
   refine zh3 (by decide) (by decide) (by walk_at "om") (by walk_at "om") ?_
   rw[show ((m:Int)+1 - 0).toNat=m+1 by walk_at "om"]
   refine zr0 (by rw[sizeLine_eq];omega) (fun acc H5 f5 s5 h5=>?_)
   have na:acc≠a:=L4.ne f5
   have nra:r≠acc:=za5 h4 f5
   refine⟨fun j ys σ H6=>∃ (t:Option V) (z:List Int),σ=[t,some (.ref a)]/\ys=z.map V.int/\z.length=j/\(∀ y∈z,-(10 ^ 28)<=y/\y<=10 ^ 28)/\zc0 H6 a (b+20+50*i+4*j)/\Chg2 a acc H4 H6,?_,?_,?_⟩
   ·exact⟨none,[],rfl,rfl,rfl,fun y hy=>by (cases hy),(L4.same s5).up (by walk_at "om"),s5.to2⟩
   ·rintro j m' ys σ H6 hj hm' hl' h6 ⟨t,z,rfl,rfl,lz,bz,L6,c6⟩
    have hj:j<m+1:=hj
    refine br_T ?_
    refine ze6 L6 (by walk_at "om") (by walk_at "om") (by walk_at "om") (fun d H7 d0 d1 c7 L7=>?_)
    refine zp2 hj hm' hl' (c7 _ _ na h6) (fun H8 c8 h8=>?_)
    exact⟨_,z++[_],rfl,by rw[zcs3];rfl,by rw[zcr6,lz];rfl,(fun y hy=>by
     rcases zcu8.mp hy with hy|hy
     ·exact bz y hy
     ·rw[zcx8.mp hy];omega),(L7.chg c8 (Ne.symm na)).up (by walk_at "om"),(c6.trans c7.toL).trans c8.toR⟩
   ·rintro ys σ H6 h6 ⟨t,z,rfl,rfl,lz,bz,L6,c6⟩
    have facc:H acc=none:=Chg.free' c02 (by
     cases e:H2 acc with
     | none=>rfl
     | some o=>
      have:=c4 _ _ na (Ne.symm nra) e
      rw[f5] at this
      cases this) na
    refine zp2 hi hm hl (c6 _ _ nr nra h4) (fun H7 c7 h7=>?_)
    refine⟨_,qs++[acc],zs++[z],rfl,by rw[zcs3];rfl,(L6.chg c7 (Ne.symm nr)).up (by walk_at "om"),fun x o z1 z2 e=>?_,by rw[zcr6,ql];rfl,by rw[zcr6,zl];rfl,fun k q z' g1 g2=>?_⟩
    ·have e4:=c4 _ _ z1 z2 e
     exact c7 _ _ z2 (c6 _ _ z1 (za5 e4 f5) e4)
    by_cases hk:k<qs.length
    ·rw[zct1 hk] at g1
     rw[zct1 (by walk_at "om")] at g2
     obtain⟨y1,y2,y3,y4,y5,y6⟩:=pr k q z' g1 g2
     exact⟨y1,y2,y3,c7 _ _ y2 (c6 _ _ y3 (za5 y4 f5) y4),y5,y6⟩
    ·rw[zcu2 (by walk_at "om")] at g1 g2
     have k0:k - qs.length=0:=by
      have:=(zcq6.mp g1).1
      simp at this;omega
     rw[k0] at g1
     rw[show k - zs.length=0 by walk_at "om"] at g2
     cases g1
     cases g2
     exact⟨facc,Ne.symm nra,na,c7 _ _ (Ne.symm nra) h6,lz,bz⟩
  ·rintro ys σ H4 h4 ⟨t,qs,zs,rfl,rfl,L4,c4,ql,zl,pr⟩
   have c04:Chg a H H4:=fun x o z1 e=>c4 _ _ z1 (za5 e fr) (c02 _ _ z1 e)
   refine zd9 (fun p5 H5 f5 s5 h5=>?_)
   walk_at "wh"
   refine q p5 (.tab fun x y=>(zs.getD x []).getD y 0) H5 (c04.same s5) ((L4.same s5).up (by walk_at "om")) ⟨r,qs,zu4 (Chg.free' c04 f5 (L4.ne f5)) h5,zu4 fr (s5 _ _ h4),ql,fun i p e=>?_⟩ trivial (fun x y hx hy=>by
    obtain⟨z,ez⟩:∃ z,zs[x]?=some z:=⟨_,zcq4 (by walk_at "om")⟩
    obtain⟨p,ep⟩:∃ p,qs[x]?=some p:=⟨_,zcq4 (by walk_at "om")⟩
    obtain⟨y1,y2,y3,y4,y5,y6⟩:=pr x p z ep ez
    have e1:zs.getD x []=z:=by rw[zcq7,ez];rfl
    show -(2*10 ^ 28)<=(zs.getD x []).getD y 0/\(zs.getD x []).getD y 0<=2*10 ^ 28
    rw[e1]
    have hm:=y6 (z.getD y 0) (by rw[zcq7,zcq4 (by walk_at "om")];exact zcw5 _)
    omega)
   obtain⟨z,ez⟩:∃ z,zs[i]?=some z:=⟨_,zcq4 (by have:=(zcq6.mp e).1;omega)⟩
   obtain⟨y1,y2,y3,y4,y5,_⟩:=pr i p z e ez
   have eg:zs.getD i []=z:=by rw[zcq7,ez];rfl
   show nw H H5 p=some (.lst (rowV (m+1) fun y=>(zs.getD i []).getD y 0))
   rw[eg,← zaz1 y5]
   exact zu4 y1 (s5 _ _ y4)
 ·walk_at "wh"
  refine zh3 (by decide) (by decide) (by walk_at "om") (by walk_at "om") ?_
  rw[show ((n:Int)+1 - 0).toNat=n+1 by walk_at "om"]
  refine zr0 (by rw[sizeLine_eq];omega) (fun r H3 f3 s3 h3=>?_)
  have nr:r≠a:=L2.ne f3
  have fr:H r=none:=Chg.free' c02 f3 nr
  refine⟨fun i ys σ H4=>∃ (t:Option V) (qs:List Addr) (zs:List (List Int)),σ=[t,some (.int m),some (.ref a)]/\ys=qs.map V.ref/\zc0 H4 a (b+20+50*i)/\Chg2 a r H2 H4/\qs.length=i/\zs.length=i/\∀ (k:Nat) q z,qs[k]?=some q->zs[k]?=some z->H q=none/\q≠r/\q≠a/\H4 q=some (.lst (z.map V.int))/\z.length=m+1/\∀ y∈z,-(10 ^ 28)<=y/\y<=10 ^ 28,?_,?_,?_⟩
  ·exact⟨none,[],[],rfl,rfl,(L2.same s3).up (by walk_at "om"),s3.to2,rfl,rfl,fun k q z e=>by simp at e⟩
  ·rintro i mm ys σ H4 hi hm hl h4 ⟨t,qs,zs,rfl,rfl,L4,c4,ql,zl,pr⟩
   have hi:i<n+1:=hi
   refine br_T ?_
   refine zh3 (by decide) (by decide) (by walk_at "om") (by walk_at "om") ?_
   rw[show ((m:Int)+1 - 0).toNat=m+1 by walk_at "om"]
   refine zr0 (by rw[sizeLine_eq];omega) (fun acc H5 f5 s5 h5=>?_)
   have na:acc≠a:=L4.ne f5
   have nra:r≠acc:=za5 h4 f5
   refine⟨fun j ys σ H6=>∃ (t:Option V) (z:List Int),σ=[t,some (.ref a)]/\ys=z.map V.int/\z.length=j/\(∀ y∈z,-(10 ^ 28)<=y/\y<=10 ^ 28)/\zc0 H6 a (b+20+50*i+4*j)/\Chg2 a acc H4 H6,?_,?_,?_⟩
   ·exact⟨none,[],rfl,rfl,rfl,fun y hy=>by (cases hy),(L4.same s5).up (by walk_at "om"),s5.to2⟩
   ·rintro j m' ys σ H6 hj hm' hl' h6 ⟨t,z,rfl,rfl,lz,bz,L6,c6⟩
    have hj:j<m+1:=hj
    refine br_T ?_
    refine zci6 L6 (by walk_at "om") (fun d H7 d0 d1 c7 L7=>?_)
    refine zp2 hj hm' hl' (c7 _ _ na h6) (fun H8 c8 h8=>?_)
    exact⟨_,z++[_],rfl,by rw[zcs3];rfl,by rw[zcr6,lz];rfl,(fun y hy=>by
     rcases zcu8.mp hy with hy|hy
     ·exact bz y hy
     ·rw[zcx8.mp hy];omega),(L7.chg c8 (Ne.symm na)).up (by walk_at "om"),(c6.trans c7.toL).trans c8.toR⟩
   ·rintro ys σ H6 h6 ⟨t,z,rfl,rfl,lz,bz,L6,c6⟩
    have facc:H acc=none:=Chg.free' c02 (by
     cases e:H2 acc with
     | none=>rfl
     | some o=>
      have:=c4 _ _ na (Ne.symm nra) e
      rw[f5] at this
      cases this) na
    refine zp2 hi hm hl (c6 _ _ nr nra h4) (fun H7 c7 h7=>?_)
    refine⟨_,qs++[acc],zs++[z],rfl,by rw[zcs3];rfl,(L6.chg c7 (Ne.symm nr)).up (by walk_at "om"),fun x o z1 z2 e=>?_,by rw[zcr6,ql];rfl,by rw[zcr6,zl];rfl,fun k q z' g1 g2=>?_⟩
    ·have e4:=c4 _ _ z1 z2 e
     exact c7 _ _ z2 (c6 _ _ z1 (za5 e4 f5) e4)
    by_cases hk:k<qs.length
    ·rw[zct1 hk] at g1
     rw[zct1 (by walk_at "om")] at g2
     obtain⟨y1,y2,y3,y4,y5,y6⟩:=pr k q z' g1 g2
     exact⟨y1,y2,y3,c7 _ _ y2 (c6 _ _ y3 (za5 y4 f5) y4),y5,y6⟩
    ·rw[zcu2 (by walk_at "om")] at g1 g2
     have k0:k - qs.length=0:=by
      have:=(zcq6.mp g1).1
      simp at this;omega
     rw[k0] at g1
     rw[show k - zs.length=0 by walk_at "om"] at g2
     cases g1
     cases g2
     exact⟨facc,Ne.symm nra,na,c7 _ _ (Ne.symm nra) h6,lz,bz⟩
  ·rintro ys σ H4 h4 ⟨t,qs,zs,rfl,rfl,L4,c4,ql,zl,pr⟩
   have c04:Chg a H H4:=fun x o z1 e=>c4 _ _ z1 (za5 e fr) (c02 _ _ z1 e)
   refine zd9 (fun p5 H5 f5 s5 h5=>?_)
   walk_at "wh"
   refine q p5 (.tab fun x y=>(zs.getD x []).getD y 0) H5 (c04.same s5) ((L4.same s5).up (by walk_at "om")) ⟨r,qs,zu4 (Chg.free' c04 f5 (L4.ne f5)) h5,zu4 fr (s5 _ _ h4),ql,fun i p e=>?_⟩ trivial (fun x y hx hy=>by
    obtain⟨z,ez⟩:∃ z,zs[x]?=some z:=⟨_,zcq4 (by walk_at "om")⟩
    obtain⟨p,ep⟩:∃ p,qs[x]?=some p:=⟨_,zcq4 (by walk_at "om")⟩
    obtain⟨y1,y2,y3,y4,y5,y6⟩:=pr x p z ep ez
    have e1:zs.getD x []=z:=by rw[zcq7,ez];rfl
    show -(2*10 ^ 28)<=(zs.getD x []).getD y 0/\(zs.getD x []).getD y 0<=2*10 ^ 28
    rw[e1]
    have hm:=y6 (z.getD y 0) (by rw[zcq7,zcq4 (by walk_at "om")];exact zcw5 _)
    omega)
   obtain⟨z,ez⟩:∃ z,zs[i]?=some z:=⟨_,zcq4 (by have:=(zcq6.mp e).1;omega)⟩
   obtain⟨y1,y2,y3,y4,y5,_⟩:=pr i p z e ez
   have eg:zs.getD i []=z:=by rw[zcq7,ez];rfl
   show nw H H5 p=some (.lst (rowV (m+1) fun y=>(zs.getD i []).getD y 0))
   rw[eg,← zaz1 y5]
   exact zu4 y1 (s5 _ _ y4)
@[irreducible] def zf9:Sp:=fun vs H Q _=>∃ (a:Addr) (b:Int) (t:Nat),vs=[.ref a,.int t,.int 4]/\t<=10/\zc0 H a b/\b<=1000/\∀ bt l ps n m fs H',Chg a H H'->zc0 H' a (b+10000)->zh5 (rm a H') bt l ps n m fs->OkB n m fs->(∀ f∈fs,f.Bd n m)->Q (.ref bt) H'
theorem zam7 {H:Hp}{a:Addr}{b:Int}{t:Nat}{Q:VK}{E:XK}(ht:t<=10) (hL:zc0 H a b) (hb:b<=1000) (q:∀ bt l ps n m fs H',Chg a H H'->zc0 H' a (b+10000)->zh5 (rm a H') bt l ps n m fs->OkB n m fs->(∀ f∈fs,f.Bd n m)->Q (.ref bt) H'):zf9 [.ref a,.int t,.int 4] H Q E:=by unfold zf9;exact⟨a,b,t,rfl,ht,hL,hb,q⟩
theorem zai1 {f:Addr}{fd:FuncData}(F:Fun K "_law_battle" "_law_battle" zj5 f fd) (N:Nm mg) (zck1:Def P w K mg base CX0 2 "_law_draw" ["_law_left_here","_law_base"] zd1) (zcn4:Def P w K mg base CX0 4 "_law_rule" ["_law_left_here","_law_first","_law_second"] zj0):FnOk P w K mg base CX0 5 f fd ["_law_left_here","_law_most","_law_fields"] zf9:=by
 refine F.ok zs3 (fun vs H Q E h=>by unfold zf9 at h;obtain⟨_,_,_,rfl,_⟩:=h;rfl) (fun cdv A outer s H vs Q E hr h=>?_)
 unfold zf9 at h
 obtain⟨a,b,tt,rfl,ht,hL,hb,q⟩:=h
 refine⟨_,(za4 (psS (i:=3) zs3.nd (pD zck1 hr zb7 (za0 (pq 0) (za0 (zb5 oAdd (pq 1) za2) za1))))
   (za4 (psS (i:=4) zs3.nd (pD zck1 hr zb7 (za0 (pq 0) (za0 (zb5 oAdd (pq 1) za2) za1))))
   (za6 (zb0 (zp3 (za0 (pq 3) (za0 (pq 4) (za0 (zf2 (N:=["_law_k","_law_left_here","_law_first","_law_second"]) (ks:=[none,some 0,some 3,some 4]) (zr5 N.range_ (za0 (zb5 oAdd za2 (pD zck1 hr zb7 (za0 (pq 0) (za0 (pq 2) za1)))) za1)) (fun cl C s3 H3 fp=>(za7 (i:=0) nb_19 rfl (by first|exact Or.inl rfl|exact Or.inr rfl))) (fun cl C s3 H3 fp=>zc4) (fun cl C s3 H3 fp=>(pD zcn4 hr zb7 (za0 (pq 1) (za0 (pq 2) (za0 (pq 3) za1))))) (.skip (.take rfl rfl (by first|exact Or.inl rfl|exact Or.inr rfl) (.take rfl rfl (by first|exact Or.inl rfl|exact Or.inr rfl) (.take rfl rfl (by first|exact Or.inl rfl|exact Or.inr rfl) .nil))))) za1)))))))),?_⟩
 refine ze6 hL (by walk_at "om") (by walk_at "om") (by walk_at "om") (fun d1 H1 d10 d11 c1 L1=>?_)
 obtain⟨n,rfl⟩:∃ n:Nat,d1=n:=⟨d1.toNat,by walk_at "om"⟩
 refine ze6 L1 (by walk_at "om") (by walk_at "om") (by walk_at "om") (fun d2 H2 d20 d21 c2 L2=>?_)
 obtain⟨m,rfl⟩:∃ n:Nat,d2=n:=⟨d2.toNat,by walk_at "om"⟩
 refine ze6 L2 (by walk_at "om") (by walk_at "om") (by walk_at "om") (fun d3 H3 d30 d31 c3 L3=>?_)
 have c03:=(c1.trans c2).trans c3
 refine zh3 (by decide) (by decide) (by walk_at "om") (by walk_at "om") ?_
 obtain⟨z,ez⟩:∃ z:Nat,(1+d3 - 0).toNat=z:=⟨_,rfl⟩
 rw[ez]
 have hz:1<=z/\z<=5:=by walk_at "om"
 refine zr0 (by rw[sizeLine_eq];omega) (fun acc H4 f4 s4 h4=>?_)
 have na:acc≠a:=L3.ne f4
 have facc:H acc=none:=Chg.free' c03 f4 na
 refine⟨fun j ys σ H5=>∃ (t:Option V) (qs:List Addr) (fs:List Fd),σ=[t,some (.ref a),some (.int n),some (.int m)]/\ys=qs.map V.ref/\qs.length=j/\fs.length=j/\zc0 H5 a (b+12+1000*j)/\Chg2 a acc H3 H5/\∀ (k:Nat) q f,qs[k]?=some q->fs[k]?=some f->FdAt (rm a (rm acc H5)) q n m f/\f.Ok/\f.Bd n m,?_,?_,?_⟩
 ·exact⟨none,[],[],rfl,rfl,rfl,rfl,(L3.same s4).up (by walk_at "om"),s4.to2,fun k q f e=>by simp at e⟩
 ·rintro j m' ys σ H5 hj hm hl h5 ⟨t,qs,fs,rfl,rfl,ql,fl,L5,c5,pr⟩
  have hj:j<z:=hj
  obtain⟨oa,ea⟩:=L5.some
  refine br_T ?_
  refine zcd8 L5 (by walk_at "om") (by walk_at "om") (by walk_at "om") (fun p6 f H6 c6 L6 F6 ok okb=>?_)
  refine zp2 hj hm hl (c6 _ _ na h5) (fun H7 c7 h7=>?_)
  refine⟨_,qs++[p6],fs++[f],rfl,by rw[zcs3];rfl,by rw[zcr6,ql];rfl,by rw[zcr6,fl];rfl,(L6.chg c7 (Ne.symm na)).up (by walk_at "om"),(c5.trans c6.toL).trans c7.toR,fun k p f' g1 g2=>?_⟩
  by_cases hk:k<qs.length
  ·rw[zct1 hk] at g1
   rw[zct1 (by walk_at "om")] at g2
   obtain⟨y1,y2,y3⟩:=pr k p f' g1 g2
   refine⟨y1.same (fun b o e=>?_),y2,y3⟩
   have e1:=zh4 e
   have e2:=zh4 e1.2
   exact zo7 e1.1 (zo7 e2.1 (c7 _ _ e2.1 (c6 _ _ e1.1 e2.2)))
  ·rw[zcu2 (by walk_at "om")] at g1 g2
   have k0:k - qs.length=0:=by
    have:=(zcq6.mp g1).1
    simp at this;omega
   rw[k0] at g1
   rw[show k - fs.length=0 by walk_at "om"] at g2
   cases g1
   cases g2
   refine⟨F6.same (fun b o e=>?_),ok,okb⟩
   have e1:=zaf5 e
   have n1:b≠a:=fun w=>by rw[w,ea] at e1;cases e1.1
   have n2:b≠acc:=fun w=>by rw[w,h5] at e1;cases e1.1
   exact zo7 n1 (zo7 n2 (c7 _ _ n2 e1.2))
 ·rintro ys σ H5 h5 ⟨t,qs,fs,rfl,rfl,ql,fl,L5,c5,pr⟩
  have c05:Chg a H H5:=fun b o z1 e=>c5 _ _ z1 (za5 e facc) (c03 _ _ z1 e)
  refine zd9 (fun p7 H7 f7 s7 h7=>?_)
  walk_at "wh"
  exact q p7 acc qs n m fs H7 (c05.same s7) ((L5.same s7).up (by walk_at "om")) ⟨zo7 (L5.ne f7) h7,zo7 na (s7 _ _ h5),by walk_at "om",fun i p f g1 g2=>⟨((pr i p f g1 g2).1.same (Same.rm (zk6 acc H5))).same (Same.rm s7),(pr i p f g1 g2).2.1⟩⟩ ⟨⟨by walk_at "om",by walk_at "om"⟩,by walk_at "om"⟩ (fun f hf=>by
   obtain⟨i,ei⟩:=zcv6 hf
   obtain⟨p,ep⟩:∃ p,qs[i]?=some p:=⟨_,zcq4 (by have:=(zcq6.mp ei).1;omega)⟩
   exact (pr i p f ep ei).2.2)
@[irreducible] def zi9:Sp:=fun vs H Q _=>∃ (p:Addr) (a c x y:Nat) (f:Fd),vs=[.ref p,.int x,.int y]/\FdAt H p a c f/\x<=a/\y<=c/\∀ H',Same H H'->Q (.int (f.won x y)) H'
theorem zbr6 {H:Hp}{p:Addr}{a c x y:Nat}{f:Fd}{Q:VK}{E:XK}(F:FdAt H p a c f) (h1:x<=a) (h2:y<=c) (q:∀ H',Same H H'->Q (.int (f.won x y)) H'):zi9 [.ref p,.int x,.int y] H Q E:=by unfold zi9;exact⟨p,a,c,x,y,f,rfl,F,h1,h2,q⟩
theorem zaw9 {f:Addr}{fd:FuncData}(F:Fun K "_law_paid" "_law_paid" zn3 f fd) (N:Nm mg):FnOk P w K mg base CX0 1 f fd ["_law_field","_law_x","_law_y"] zi9:=by
 refine F.ok zar0 (fun vs H Q E h=>by unfold zi9 at h;obtain⟨_,_,_,_,_,_,rfl,_⟩:=h;rfl) (fun cdv A outer s H vs Q E hr h=>?_)
 unfold zi9 at h
 obtain⟨p,a,c,x,y,f,rfl,F,h1,h2,q⟩:=h
 have hu:=hu40 hr
 refine⟨_,(za4 (psIf (ptC (oEqK (K:=K) rfl (by exact hu)) (za8 (K:=K) rfl (pq 0) za2) zh6) (za6 (zb0 (za8 (K:=K) rfl (za8 (K:=K) rfl (za8 (K:=K) rfl (pq 0) za2) (pq 1)) (pq 2)))) zc1)
   (za4 (psIf (ptC (oEqK (K:=K) rfl (by exact hu)) (za8 (K:=K) rfl (pq 0) za2) zh6) (za6 (zb0 (za8 (K:=K) rfl (zk8 (za0 (zb5 oSub za2 (za8 (K:=K) rfl (pq 0) za2)) (za0 (za8 (K:=K) rfl (pq 0) za2) za1))) (pT cInt N.int_ zbe2 (za0 (peC oGe (zb5 oSub (pq 1) (pq 2)) (za8 (K:=K) rfl (pq 0) za2)) za1))))) zc1)
   (za6 (zb0 (za8 (K:=K) rfl (zk8 (za0 (zb5 oSub za2 (za8 (K:=K) rfl (pq 0) za2)) (za0 (za8 (K:=K) rfl (pq 0) za2) (za0 (za8 (K:=K) rfl (pq 0) za2) za1)))) (zb5 oAdd (pT cInt N.int_ zbe2 (za0 (peC oGe (pq 1) (pq 2)) za1)) (pT cInt N.int_ zbe2 (za0 (peC oGt (pq 1) (pq 2)) za1)))))))),?_⟩
 cases f with
 | more wt t=>
  have F:H p=some (.tup [.str "more",.int wt,.int t]):=F
  refine zb2 (v:=.str "more") F rfl ?_
  refine zr8 (by decide) ?_
  refine zb2 (v:=.str "more") F rfl ?_
  refine zr8 (by decide) ?_
  refine zb2 (v:=.int wt) F rfl ?_
  refine zb2 (v:=.int t) F rfl ?_
  refine zb2 (v:=.int wt) F rfl ?_
  refine zc7 (fun p1 H1 f1 s1 h1'=>?_)
  have q:Q (.int (if x=y then t else if y<x then wt else -wt)) H1:=q _ s1
  walk_at "wh"
  by_cases e:x=y
  ·rw[if_pos e] at q
   refine zb6 (v:=.int t) h1' ?_ q
   rw[decide_eq_true (show (y:Int)<=(x:Int) by walk_at "om"),decide_eq_false (show ¬ (y:Int)<(x:Int) by walk_at "om")]
   rfl
  ·rw[if_neg e] at q
   by_cases g:y<x
   ·rw[if_pos g] at q
    refine zb6 (v:=.int wt) h1' ?_ q
    rw[decide_eq_true (show (y:Int)<=(x:Int) by walk_at "om"),decide_eq_true (show (y:Int)<(x:Int) by walk_at "om")]
    rfl
   ·rw[if_neg g] at q
    refine zb6 (v:=.int (-wt)) h1' ?_ q
    rw[decide_eq_false (show ¬ (y:Int)<=(x:Int) by walk_at "om"),decide_eq_false (show ¬ (y:Int)<(x:Int) by walk_at "om")]
    show some (V.int (0 - wt))=some (V.int (-wt))
    congr 2
    omega
 | lead wt l=>
  have F:H p=some (.tup [.str "lead",.int wt,.int l]):=F
  refine zb2 (v:=.str "lead") F rfl ?_
  refine zr8 (by decide) ?_
  refine zb2 (v:=.str "lead") F rfl ?_
  refine zt3 rfl ?_
  refine zb2 (v:=.int wt) F rfl ?_
  refine zb2 (v:=.int wt) F rfl ?_
  refine zc7 (fun p1 H1 f1 s1 h1'=>?_)
  have q:Q (.int (if l<=(x:Int) - y then wt else -wt)) H1:=q _ s1
  refine zb2 (v:=.int l) (s1 _ _ F) rfl ?_
  walk_at "wh"
  by_cases g:l<=(x:Int) - y
  ·rw[if_pos g] at q
   refine zb6 (v:=.int wt) h1' ?_ q
   rw[decide_eq_true g]
   rfl
  ·rw[if_neg g] at q
   refine zb6 (v:=.int (-wt)) h1' ?_ q
   rw[decide_eq_false g]
   show some (V.int (0 - wt))=some (V.int (-wt))
   congr 2
   omega
 | tab g=>
  obtain⟨q',ps,F,G⟩:=F
  obtain⟨r,er,hr'⟩:=G.some (i:=x) (by walk_at "om")
  refine zb2 (v:=.str "table") F rfl ?_
  refine zt3 rfl ?_
  refine zb2 (v:=.ref q') F rfl ?_
  refine zb6 (v:=.ref r) G.out (zc5 (by rw[zcq8,er];rfl)) ?_
  refine zb6 (v:=.int (g x y)) hr' (zc5 (zf1 (by walk_at "om"))) ?_
  walk_at "wh"
  exact q _ (Same.refl _)
def Off (b:Addr) (ts:List (Addr×Addr)):Prop:=∀ t∈ts,t.1≠b/\t.2≠b
theorem zr7.chg {H H':Hp}{m b:Addr}{ts:List (Addr×Addr)}{ms:List (List Int×Int)}(M:zr7 H m ts ms) (c:Chg b H H') (n:m≠b) (o:Off b ts):zr7 H' m ts ms:=
 ⟨c _ _ n M.out,M.len,fun i t x h1 h2=>⟨c _ _ (o t (zcr0 h1)).1 (M.part i t x h1 h2).1,c _ _ (o t (zcr0 h1)).2 (M.part i t x h1 h2).2⟩⟩
theorem zr7.off {H:Hp}{m b:Addr}{ts:List (Addr×Addr)}{ms:List (List Int×Int)}(M:zr7 H m ts ms) (f:H b=none):m≠b/\Off b ts:=by
 refine⟨za5 M.out f,fun t ht=>?_⟩
 obtain⟨i,hi⟩:=zcv6 ht
 obtain⟨t',x,h1,h2,h3,h4⟩:=M.get (i:=i) (by have:=(zcq6.mp hi).1;have:=M.len;omega)
 rw[hi] at h1
 cases h1
 exact⟨za5 h3 f,za5 h4 f⟩
theorem zr7.push {H H':Hp}{m p q:Addr}{ts:List (Addr×Addr)}{ms:List (List Int×Int)}{x:List Int×Int}(M:zr7 H m ts ms) (c:Chg m H H') (o:Off m ts) (h':H' m=some (.lst ((ts.map fun t=>V.ref t.1)++[.ref p]))) (hp:H' p=some (.tup [.ref q,.int x.2])) (hq:H' q=some (.lst (x.1.map V.int))):zr7 H' m (ts++[(p,q)]) (ms++[x]):=by
 refine⟨by rw[h',zcs3];rfl,by rw[zcr6,zcr6,M.len];rfl,fun i t y h1 h2=>?_⟩
 by_cases hi:i<ts.length
 ·rw[zct1 hi] at h1
  rw[zct1 (by have:=M.len;omega)] at h2
  have:=o t (zcr0 h1)
  exact⟨c _ _ this.1 (M.part i t y h1 h2).1,c _ _ this.2 (M.part i t y h1 h2).2⟩
 ·rw[zcu2 (by walk_at "om")] at h1
  rw[zcu2 (by have:=M.len;omega)] at h2
  have e0:i - ts.length=0:=by
   have:=(zcq6.mp h1).1
   simp at this;omega
  rw[e0] at h1
  rw[show i - ms.length=0 by have:=M.len;omega] at h2
  cases h1
  cases h2
  exact⟨hp,hq⟩
theorem Off.push {b p q:Addr}{ts:List (Addr×Addr)}(o:Off b ts) (n1:p≠b) (n2:q≠b):Off b (ts++[(p,q)]):=fun t ht=>by
 rcases zcu8.mp ht with h|h
 ·exact o t h
 ·have:t=(p,q):=by simpa using h
  subst this
  exact⟨n1,n2⟩
theorem zao2 {α:Type}{p:α->Prop}{xs:List α}{y:α}(h:∀ x∈xs,p x) (hy:p y):∀ x∈xs++[y],p x:=fun x hx=>by
 rcases zcu8.mp hx with h' | h'
 ·exact h x h'
 ·have:x=y:=by simpa using h'
  subst this
  exact hy
@[irreducible] def zi5:Sp:=fun vs H Q _=>∃ (a:Addr) (b:Int) (h f:Nat),vs=[.ref a,.int h,.int f]/\zc0 H a b/\b<=100000/\h<=40/\(1<=f/\f<=8)/\∀ l H' (ns:List Int),H l=none->Chg a H H'->zc0 H' a (b+10)->l≠a->H' l=some (.lst (ns.map V.int))->ns.length=f->ns.sum=h->(∀ x∈ns,0<=x)->Q (.ref l) H'
theorem zcj9 {H:Hp}{a:Addr}{b:Int}{h f:Nat}{Q:VK}{E:XK}(hL:zc0 H a b) (hb:b<=100000) (h1:h<=40) (h2:1<=f) (h3:f<=8) (q:∀ l H' (ns:List Int),H l=none->Chg a H H'->zc0 H' a (b+10)->l≠a->H' l=some (.lst (ns.map V.int))->ns.length=f->ns.sum=h->(∀ x∈ns,0<=x)->Q (.ref l) H'):zi5 [.ref a,.int h,.int f] H Q E:=by
 unfold zi5;exact⟨a,b,h,f,rfl,hL,hb,h1,⟨h2,h3⟩,q⟩
theorem zcf2 (ns:List Int) (k:Nat):(ns.drop k++ns.take k).sum=ns.sum:=by
 have:=congrArg List.sum (List.take_append_drop k ns)
 rw[zcy5] at this ⊢
 omega
theorem zas8 {f:Addr}{fd:FuncData}(F:Fun K "_law_plan" "_law_plan" zn2 f fd) (N:Nm mg) (zck1:Def P w K mg base CX0 2 "_law_draw" ["_law_left_here","_law_base"] zd1):FnOk P w K mg base CX0 3 f fd ["_law_left_here","_law_hosts","_law_many"] zi5:=by
 refine F.ok zm4 (fun vs H Q E h=>by unfold zi5 at h;obtain⟨_,_,_,_,rfl,_⟩:=h;rfl) (fun cdv A outer s H vs Q E hr h=>?_)
 unfold zi5 at h
 obtain⟨a,b,h,f,rfl,hL,hb,h1,⟨h2,h3⟩,q⟩:=h
 refine⟨_,(za4 (psS (i:=3) zm4.nd (zk8 za1))
   (za4 (psS (i:=4) zm4.nd (pq 1))
   (za4 (zt9 PassesOwn.never rfl (zr5 N.range_ (za0 (zb5 oSub (pq 2) za2) za1)) (za7 (i:=5) zm4.nd rfl (by first|exact Or.inl rfl|exact Or.inr rfl)) (za4 (zs6 (zq6 (pq 3) (za0 (pD zck1 hr zb7 (za0 (pq 0) (za0 (zb5 oAdd (pq 4) za2) za1))) za1)))
   (za6 (psS (i:=4) zm4.nd (zb5 oSub (pq 4) (za8 (K:=K) rfl (pq 3) (zai3 uNeg za2)))))))
   (za4 (zs6 (zq6 (pq 3) (za0 (pq 4) za1)))
   (za4 (psS (i:=6) zm4.nd (pD zck1 hr zb7 (za0 (pq 0) (za0 (pq 2) za1))))
   (za6 (zb0 (zb5 oAdd (zr9 (slXK (K:=K) rfl) (pq 3) (zab9 (pq 6)) zu9) (zr9 (slXK (K:=K) rfl) (pq 3) zu9 (zab9 (pq 6))))))))))),?_⟩
 refine zc7 (fun l H1 f1 s1 h1'=>?_)
 have n1:l≠a:=hL.ne f1
 refine zh3 (by decide) (by decide) (by walk_at "om") (by walk_at "om") ?_
 refine zn7 (fun i σ H2=>∃ (x y:Option V) (ns:List Int) (r:Int),σ=[some (.ref a),some (.int h),some (.int f),some (.ref l),some (.int r),x,y]/\Chg a H H2/\zc0 H2 a (b+i)/\H2 l=some (.lst (ns.map V.int))/\ns.length=i/\ns.sum+r=h/\0<=r/\r<=40/\∀ x∈ns,0<=x) ?_ ?_ ?_
 ·exact⟨_,_,[],h,rfl,s1.toChg,(hL.same s1).up (by walk_at "om"),h1',rfl,by simp,by walk_at "om",by walk_at "om",by simp⟩
 ·rintro i σ H2 hi ⟨x0,y0,ns,r,rfl,c2,L2,e2,l2,t2,r0,r1,nn⟩
  have hi:i<8:=by walk_at "om"
  refine zak5 e2 ?_
  refine ze6 L2 (by walk_at "om") (by walk_at "om") (by walk_at "om") (fun d3 H3 d30 d31 c3 L3=>?_)
  have e3:=c3 _ _ n1 e2
  refine zaj7 e3 (by rw[zcq3,sizeLine_eq];omega) (fun H4 c4 h4=>?_)
  have h4:H4 l=some (.lst ((ns++[d3]).map V.int)):=by rw[h4,zcs3];rfl
  refine zb6 (v:=.int d3) h4 (zax1 (n:=i) (by rw[zcq3,zcr6,l2];rfl) (by rw[zcq8,zcu2 (by walk_at "om"),l2,Nat.sub_self];rfl)) ?_
  walk_at "wh"
  have c23:Chg a H H3:=c2.trans c3
  refine⟨_,_,ns++[d3],r - d3,rfl,fun b o h1 e=>c4 _ _ (za5 e f1) (c23 _ _ h1 e),(L3.chg c4 (Ne.symm n1)).up (by walk_at "om"),h4,by rw[zcr6,l2];rfl,by rw[zcy5];simp;omega,by walk_at "om",by walk_at "om",fun x hx=>?_⟩
  rcases zcu8.mp hx with hx|hx
  ·exact nn x hx
  ·have:x=d3:=by simpa using hx
   omega
 ·rintro σ H2 ⟨x0,y0,ns,r,rfl,c2,L2,e2,l2,t2,r0,r1,nn⟩
  refine zak5 e2 ?_
  refine zaj7 e2 (by rw[zcq3,sizeLine_eq];omega) (fun H3 c3 h3'=>?_)
  have h3':H3 l=some (.lst ((ns++[r]).map V.int)):=by rw[h3',zcs3];rfl
  have L3:=L2.chg c3 (Ne.symm n1)
  refine ze6 L3 (by walk_at "om") (by walk_at "om") (by walk_at "om") (fun at_ H4 a0 a1 c4 L4=>?_)
  have h4:=c4 _ _ n1 h3'
  refine zal1 (SqL.of h4) (fun p5 H5 f5 s5 h5=>?_)
  rw[zad3 (by walk_at "om"),← List.map_drop] at h5
  refine zal1 (SqL.of (s5 _ _ h4)) (fun p6 H6 f6 s6 h6=>?_)
  rw[zag2 (by walk_at "om"),← List.map_take] at h6
  refine zbc9 (s6 _ _ h5) h6 (by rw[zcq3,zcq3,zcw1,zcw0,sizeLine_eq,zcr6,l2,zcw7];omega) (fun p7 H7 f7 s7 h7=>?_)
  walk_at "wh"
  have s56:=s5.trans s6
  have L6:=L4.same s56
  have c06:Chg a H H6:=fun b o h1 e=>s56 _ _ (c4 _ _ h1 (c3 _ _ (za5 e f1) (c2 _ _ h1 e)))
  refine q p7 H7 ((ns++[r]).drop at_.toNat++(ns++[r]).take at_.toNat) (Chg.free' c06 f7 (L6.ne f7)) (c06.same s7) ((L6.same s7).up (by walk_at "om")) (L6.ne f7) (by rw[h7,zcs3]) (by rw[zcr6,zcw1,zcw0,zcr6,l2,zcw7];omega) (by rw[zcf2,zcy5];simp;omega) (fun x hx=>?_)
  have hx:x∈ns++[r]:=by
   rcases zcu8.mp hx with hx|hx
   ·exact List.mem_of_mem_drop hx
   ·exact List.mem_of_mem_take hx
  rcases zcu8.mp hx with hx|hx
  ·exact nn x hx
  ·have:x=r:=by simpa using hx
   omega
theorem zbu5 {ms:List (List Int×Int)}{j:Nat}{x:List Int×Int}(h:ms[j]?=some x) (i:Nat):sumG (flw (ms.take (j+1)) i)=addG (sumG (flw (ms.take j) i)) (((x.1.drop i).sum,x.1.getD i 0),x.2):=by
 unfold flw
 rw[List.take_succ,h,zcs3]
 exact zy4 _ _
theorem zbm9 (ms:List (List Int×Int)) (i:Nat):(sumG (flw ms i)).length<=ms.length:=by
 have:=zao7 (flw ms i)
 unfold flw at this ⊢
 rwa [zcq3] at this
structure DsAt (H0 H:Hp) (l:Addr) (ds:List Addr) (g:Nat->List ((Int×Int)×Int)):Prop where
 fl:H0 l=none
 out:H l=some (.lst (ds.map V.ref))
 nd:ds.Nodup
 nin:l ∉ ds
 row:∀ (i:Nat) d,ds[i]?=some d->H0 d=none/\H d=some (.dT (dF pK (g i)))
theorem DsAt.put {H0 H H':Hp}{l d:Addr}{ds:List Addr}{g:Nat->List ((Int×Int)×Int)}{k:Nat}{n:List ((Int×Int)×Int)}(D:DsAt H0 H l ds g) (e:ds[k]?=some d) (c:Chg d H H') (h:H' d=some (.dT (dF pK n))):DsAt H0 H' l ds fun i=>if i=k then n else g i:=by
 refine⟨D.fl,c _ _ (fun z=>D.nin (z▸zcr0 e)) D.out,D.nd,D.nin,fun i d' e'=>?_⟩
 by_cases hi:i=k
 ·subst hi
  rw[e] at e'
  cases e'
  exact⟨(D.row i d e).1,by rw[h,if_pos rfl]⟩
 ·rw[if_neg hi]
  have ne:d'≠d:=fun z=>by
   subst z
   exact hi ((List.getElem?_inj (zcq6.mp e').1 D.nd).mp (e'.trans e.symm))
  exact⟨(D.row i d' e').1,c _ _ ne (D.row i d' e').2⟩
theorem DsAt.ext {H0 H:Hp}{l:Addr}{ds:List Addr}{g g':Nat->List ((Int×Int)×Int)}(D:DsAt H0 H l ds g) (h:∀ i,i<ds.length->g i=g' i):DsAt H0 H l ds g':=
 ⟨D.fl,D.out,D.nd,D.nin,fun i d e=>⟨(D.row i d e).1,by rw[← h i (zcq6.mp e).1];exact (D.row i d e).2⟩⟩
@[irreducible] def zg7:Sp:=fun vs H Q _=>∃ (m:Addr) (ts:List (Addr×Addr)) (ms:List (List Int×Int)) (f:Nat),vs=[.ref m]/\zr7 H m ts ms/\(1<=ms.length/\ms.length<64)/\f<=100/\(∀ x∈ms,x.1.length=f)/\∀ r rs xss H',Same H H'->StAt (nw H H') r rs xss->zau5 ms f xss->Q (.ref r) H'
theorem zbv3 {H:Hp}{m:Addr}{ts:List (Addr×Addr)}{ms:List (List Int×Int)}{f:Nat}{Q:VK}{E:XK}(M:zr7 H m ts ms) (h1:1<=ms.length) (h2:ms.length<64) (h3:f<=100) (h4:∀ x∈ms,x.1.length=f) (q:∀ r rs xss H',Same H H'->StAt (nw H H') r rs xss->zau5 ms f xss->Q (.ref r) H'):zg7 [.ref m] H Q E:=by
 unfold zg7;exact⟨m,ts,ms,f,rfl,M,⟨h1,h2⟩,h3,h4,q⟩
set_option maxHeartbeats 0 in
theorem zan5 {f:Addr}{fd:FuncData}(F:Fun K "_law_flows" "_law_flows" zm0 f fd) (N:Nm mg):FnOk P w K mg base CX0 1 f fd ["_law_mix_here"] zg7:=by
 refine F.ok zk3 (fun vs H Q E h=>by unfold zg7 at h;obtain⟨_,_,_,_,rfl,_⟩:=h;rfl) (fun cdv A outer s H vs Q E hr h=>?_)
 unfold zg7 at h
 obtain⟨m,ts,ms,f,rfl,M,⟨m1,m2⟩,hf,fl,q⟩:=h
 have hu:=hu40 hr
 have ml:=M.len
 refine⟨_,(za4 (psC (i:=1) (N:=["_law_place"]) (ks:=[none]) zk3.nd (ze3 (K:=K) rfl (za8 (K:=K) rfl (za8 (K:=K) rfl (pq 0) za2) za2)) (fun cl C s3 H3 fp=>(za7 (i:=0) nb_20 rfl (by first|exact Or.inl rfl|exact Or.inr rfl))) (fun cl C s3 H3 fp=>zc4) (fun cl C s3 H3 fp=>zbo7) (.skip .nil))
   (za4 (zt9 PassesOwn.never rfl (ze3 (K:=K) rfl (pq 0)) (zk4 (K:=K) (n:=2) rfl rfl (zb4 (za7 (i:=2) zk3.nd rfl (by first|exact Or.inl rfl|exact Or.inr rfl)) (zb4 (za7 (i:=3) zk3.nd rfl (by first|exact Or.inl rfl|exact Or.inr rfl)) zk5))) (za6 (zt9 PassesOwn.never rfl (zr5 N.range_ (za0 (pB (zo8 (K:=K) rfl) N.len_ zg5 (za0 (pq 2) za1)) za1)) (za7 (i:=4) zk3.nd rfl (by first|exact Or.inl rfl|exact Or.inr rfl)) (za4 (psS (i:=5) zk3.nd (zp3 (za0 (pB (zbb2 (K:=K) rfl rfl) N.sum_ zah4 (za0 (zr9 (slXK (K:=K) rfl) (pq 2) (zab9 (pq 4)) zu9) za1)) (za0 (za8 (K:=K) rfl (pq 2) (pq 4)) za1))))
   (za6 (zbz6 (by exact hu) (za8 (K:=K) rfl (pq 1) (pq 4)) (pq 5) (zb5 oAdd (zbc6 (by exact hu) (za8 (K:=K) rfl (pq 1) (pq 4)) (pq 5) za2) (pq 3))))))))
   (za6 (zb0 (zci8 (x0:="_law_flow") (N:=["_law_flow"]) (ks:=[none]) (ze3 (K:=K) rfl (pq 1)) (fun cl C s3 H3 fp=>(za7 (i:=0) nb_21 rfl (by first|exact Or.inl rfl|exact Or.inr rfl))) (fun cl C s3 H3 fp=>zc4) (fun cl C s3 H3 fp=>(zf2 (N:=["_law_rest","_law_sent","_law_flow"]) (ks:=[none,none,some 0]) (ze3 (K:=K) rfl (pB (cSortO rfl) N.sorted_ zbs8 (za0 (pq 0) za1))) (fun cl C s3 H3 fp=>(zk4 (K:=K) (n:=2) rfl rfl (zb4 (za7 (i:=0) nb_22 rfl (by first|exact Or.inl rfl|exact Or.inr rfl)) (zb4 (za7 (i:=1) nb_22 rfl (by first|exact Or.inl rfl|exact Or.inr rfl)) zk5)))) (fun cl C s3 H3 fp=>zc4) (fun cl C s3 H3 fp=>(zp3 (za0 (pq 0) (za0 (pq 1) (za0 (peDGet (by exact hu) (pq 2) (zp3 (za0 (pq 0) (za0 (pq 1) za1)))) za1))))) (.skip (.skip (.take rfl rfl (by first|exact Or.inl rfl|exact Or.inr rfl) .nil))))) (.skip .nil)))))),?_⟩
 obtain⟨x0,ex0⟩:∃ x,ms[0]?=some x:=⟨_,zcq4 (by walk_at "om")⟩
 obtain⟨t0,et0,at0,ht0,hp0⟩:=M.ix ex0
 have l0:=fl x0 (zcr0 ex0)
 refine zb6 (v:=.ref t0.1) M.out at0 ?_
 refine zb2 (v:=.ref t0.2) ht0 rfl ?_
 refine zb8 hp0 ?_
 refine zac0 (n:=(x0.1.map V.int).length) (Wk.list (SqL.of hp0)) (by rw[zcq3,sizeLine_eq];omega) (fun j=>.dT []) (fun j σ=>∃ t:Option V,σ=[t]) ⟨none,rfl⟩ ?_ ?_
 ·rintro j v σ H4 R' S' hj s4 hx ⟨t,rfl⟩ k
  refine br_T ?_
  refine zca9 (fun p5 H5 f5 s5 h5=>?_)
  walk_at "wh"
  exact k _ _ _ f5 s5 h5 ⟨_,rfl⟩
 intro l ds H1 F1
 rw[zcq3,l0] at F1
 have dl:=F1.len
 have D1:DsAt H H1 l ds fun i=>sumG (flw (ms.take 0) i):=⟨F1.facc,F1.out,F1.nd,F1.nin,fun i d e=>F1.row i d e⟩
 have s1:=F1.same
 clear F1
 refine zb8 (s1 _ _ M.out) ?_
 refine zm8 (xs:=ts.map fun t=>V.ref t.1) (fun j σ I=>∃ t u v w:Option V,σ=[some (.ref m),some (.ref l),t,u,v,w]/\Same H I/\DsAt H I l ds fun i=>sumG (flw (ms.take j) i)) ?_ ?_ ?_ ?_
 ·exact⟨_,_,_,_,rfl,s1,D1⟩
 ·rintro j σ I _ ⟨_,_,_,_,_,s2,_⟩
  exact SqL.of (s2 _ _ M.out)
 ·rintro j v σ I hj ⟨_,_,_,_,rfl,s2,D2⟩
  obtain⟨t,x,rfl,e1,e2,e3,e4⟩:=(M.same s2).elt hj
  have jl:=(zcq6.mp e2).1
  have e40:=(M.part j t x e1 e2).2
  have xl:=fl x (zcr0 e2)
  refine zd4 e3 ?_
  refine zf3 e4 ?_
  rw[zcq3,xl]
  refine zh3 (by walk_at "om") (by walk_at "om") (by walk_at "om") (by walk_at "om") ?_
  refine zn7 (fun k σ I2=>∃ v w:Option V,σ=[some (.ref m),some (.ref l),some (.ref t.2),some (.int x.2),v,w]/\Same H I2/\DsAt H I2 l ds fun i=>if i<k then sumG (flw (ms.take (j+1)) i) else sumG (flw (ms.take j) i)) ?_ ?_ ?_
  ·exact⟨_,_,rfl,s2,D2.ext fun i _=>by rw[if_neg (by walk_at "om")]⟩
  ·rintro k σ I2 hk ⟨_,_,rfl,s3,D3⟩
   have hk:k<f:=by walk_at "om"
   obtain⟨d,ed⟩:∃ d,ds[k]?=some d:=⟨_,zcq4 (by walk_at "om")⟩
   obtain⟨dn,dh⟩:=D3.row k d ed
   rw[if_neg (by walk_at "om")] at dh
   have e43:=s3 _ _ e40
   have kx:x.1[k]?=some (x.1.getD k 0):=by rw[zcq7,zcq4 (by walk_at "om")];rfl
   refine zal1 (SqL.of e43) (fun p4 I4 f4 s4 h4=>?_)
   rw[zad3 (by walk_at "om"),show ((0:Int)+(k:Int)).toNat=k by walk_at "om",← List.map_drop] at h4
   refine zag4 h4 ?_
   refine zb6 (v:=.int (x.1.getD k 0)) (s4 _ _ e43) (int_at (by walk_at "om") (by rw[show ((0:Int)+(k:Int)).toNat=k by walk_at "om"];exact kx)) ?_
   refine zd9 (fun p5 I5 f5 s5 h5=>?_)
   have s35:=s4.trans s5
   have h5:I5 p5=some (.tup ((pK ((x.1.drop k).sum,x.1.getD k 0)).map kV)):=h5
   have dk:atI (ds.map V.ref) ((0:Int)+(k:Int))=some (.ref d):=ref_at (by walk_at "om") (by rw[show ((0:Int)+(k:Int)).toNat=k by walk_at "om"];exact ed)
   have lo:=s35 _ _ D3.out
   have dh5:=s35 _ _ dh
   refine zb6 (v:=.ref d) lo dk ?_
   refine zbr0 dh5 ?_
   refine zbp8 dh5 (k:=pK ((x.1.drop k).sum,x.1.getD k 0)) h5 ?_
   have ev:(valV (dF pK (sumG (flw (ms.take j) k))) (pK ((x.1.drop k).sum,x.1.getD k 0))).getD (V.int 0)=.int ((valG (sumG (flw (ms.take j) k)) ((x.1.drop k).sum,x.1.getD k 0)).getD 0):=by
    rw[zaf3 zae9]
    cases valG (sumG (flw (ms.take j) k)) ((x.1.drop k).sum,x.1.getD k 0)<;>rfl
   rw[ev]
   refine zb6 (v:=.ref d) lo dk ?_
   refine zcb8 dh5 (k:=pK ((x.1.drop k).sum,x.1.getD k 0)) h5 (by unfold dF;rw[zcq3,sizeLine_eq];have:=zbm9 (ms.take j) k;rw[zcw0] at this;omega) (fun I6 c6 h6=>?_)
   rw[zax0 zae9] at h6
   walk_at "wh"
   have D5:DsAt H I5 l ds fun i=>if i<k then sumG (flw (ms.take (j+1)) i) else sumG (flw (ms.take j) i):=⟨D3.fl,lo,D3.nd,D3.nin,fun i d e=>⟨(D3.row i d e).1,s35 _ _ (D3.row i d e).2⟩⟩
   refine⟨_,_,rfl,(s3.trans s35).chg dn c6,(D5.put ed c6 h6).ext fun i _=>?_⟩
   by_cases hi:i=k
   ·subst hi
    rw[if_pos rfl,if_pos (by walk_at "om"),zbu5 e2]
    rfl
   ·rw[if_neg hi]
    by_cases h':i<k
    ·rw[if_pos h',if_pos (by walk_at "om")]
    ·rw[if_neg h',if_neg (by walk_at "om")]
  ·rintro σ I2 ⟨_,_,rfl,s3,D3⟩
   walk_at "wh"
   exact⟨_,_,_,_,rfl,s3,D3.ext fun i hi=>by rw[if_pos (by walk_at "om")]⟩
 ·rintro σ H2 ⟨_,_,_,_,rfl,s2,D2⟩
  rw[zcq3,ml,zcy2] at D2
  refine zb8 D2.out ?_
  refine comp_A (Wk.list (SqL.of D2.out)) (by rw[zcq3,sizeLine_eq];omega) (fun acc j ys σ I=>∃ (t:Option V) (rs:List (Addr×List Addr)) (xss:List (List (Int×Int×Int))),σ=[t]/\ys=(rs.map fun r=>V.ref r.1)/\rs.length=j/\xss.length=j/\(∀ (i:Nat) r xs,rs[i]?=some r->xss[i]?=some xs->RwAt (rm acc (nw H2 I)) r.1 r.2 xs)/\(∀ (i:Nat) xs,xss[i]?=some xs->zz0 ms i xs/\xs.length<=ms.length)/\(rs.map (·.1)).Nodup) ?_ ?_ ?_ ?_
  ·intro acc I f1 s2 h1
   exact⟨none,[],[],rfl,rfl,rfl,rfl,fun i r xs e=>by simp at e,fun i xs e=>by simp at e,List.nodup_nil⟩
  ·rintro acc j ys σ I I' s' ⟨t,rs,xss,r1,r2,r3,r4,r5,r6,r7⟩
   exact⟨t,rs,xss,r1,r2,r3,r4,fun i r xs e1 e2=>(r5 i r xs e1 e2).same (Same.rm (nw_up s')),r6,r7⟩
  ·rintro acc j v ys σ I R S hj facc s3 hacc hx ⟨t,rs,xss,rfl,rfl,rl,xl,rp,xp,nd⟩ kR _
   rw[zcq8] at hx
   obtain⟨d,ed,rfl⟩:=zcr1.mp hx
   have dh:=s3 _ _ (D2.row j d ed).2
   have dh':I d=some (.dT (((sumG (flw ms j)).map fun z=>(z.1,V.int z.2)).map fun z=>(pK z.1,z.2))):=by rw[dh,zct5];rfl
   have sl:=zbm9 ms j
   refine br_T ?_
   refine soO_rd dh' (by rw[zcq3];omega) (fun p4 I4 bs ks f4 s4 pm od pr h4=>?_)
   have pm:ks.Perm ((sumG (flw ms j)).map (·.1)):=by rw[zct5] at pm;exact pm
   have bl:bs.length=ks.length:=pr.length
   have kl:ks.length<=ms.length:=by have:=pm.length_eq;rw[zcq3] at this;omega
   have eg:∀ x∈ks,valG (sumG (flw ms j)) x=some ((valG (sumG (flw ms j)) x).getD 0):=fun x hx=>by
    obtain⟨n,e⟩:=zbb3 (pm.mem_iff.mp hx)
    rw[e];rfl
   refine zb8 h4 ?_
   refine zac0 (n:=(bs.map V.ref).length) (Wk.list (SqL.of h4)) (by rw[zcq3,sizeLine_eq];omega) (fun j'=>.tup [.int (ks.getD j' (0,0)).1,.int (ks.getD j' (0,0)).2,.int ((valG (sumG (flw ms j)) (ks.getD j' (0,0))).getD 0)]) (fun j σ=>∃ t u:Option V,σ=[t,u,some (.ref d)]) ⟨none,none,rfl⟩ ?_ ?_
   ·rintro j' v σ H4 R' S' hj s5 hx ⟨t,u,rfl⟩ k
    rw[zcq8] at hx
    obtain⟨b,eb,rfl⟩:=zcr1.mp hx
    obtain⟨x,ex⟩:∃ x,ks[j']?=some x:=⟨ks[j']'(by have:=(zcq6.mp eb).1;omega),zcq4 _⟩
    have eb':=s5 _ _ (zar8 pr j' b x eb ex)
    rw[show ks.getD j' (0,0)=x by rw[zcq7,ex];rfl] at k
    have h4:=s5 _ _ (s4 _ _ dh)
    refine zd4 eb' ?_
    refine br_T ?_
    refine zd9 (fun p5 H5 f5 s5 h5=>?_)
    refine dgT_rd (s5 _ _ h4) (k:=pK x) h5 (by rw[zaf3 zae9,eg x (zcr0 ex)];rfl) ?_
    refine zd9 (fun pa Ha fa sa ha=>?_)
    walk_at "wh"
    exact k _ _ _ (s5.free fa) (s5.trans sa) ha ⟨_,_,rfl⟩
   intro acc4 ps H4 F4
   rw[zcq3] at F4
   have F4l:=F4.len
   have s34:=s4.trans F4.same
   walk_at "wh"
   have R4:RwAt (nw I H4) acc4 ps (ks.map fun x=>(x.1,x.2,(valG (sumG (flw ms j)) x).getD 0)):=⟨zu4 (s4.free F4.facc) F4.out,by rw[zcq3];omega,fun j b x e1 e2=>by
    rw[zcq8] at e2
    obtain⟨y,ey,rfl⟩:=zcr1.mp e2
    obtain⟨z1,z2⟩:=F4.row j b e1
    rw[show ks.getD j (0,0)=y by rw[zcq7,ey];rfl] at z2
    exact zu4 (s4.free z1) z2⟩
   have ri:zz0 ms j (ks.map fun x=>(x.1,x.2,(valG (sumG (flw ms j)) x).getD 0)):=by
    have em:(ks.map fun x=>(x.1,x.2,(valG (sumG (flw ms j)) x).getD 0)).map keyT=ks:=by
     rw[zct5]
     exact (zcs6 fun x _=>rfl).trans (List.map_id _)
    refine⟨by rw[em];exact od,fun k=>by rw[em];exact pm.mem_iff,fun z hz=>?_⟩
    obtain⟨x,hx,rfl⟩:=zcs5.mp hz
    exact eg x hx
   have xl1:(ks.map fun x=>(x.1,x.2,(valG (sumG (flw ms j)) x).getD 0)).length<=ms.length:=by rw[zcq3];exact kl
   generalize (ks.map fun x=>(x.1,x.2,(valG (sumG (flw ms j)) x).getD 0))=xs at R4 ri xl1
   refine kR _ _ _ s34 (fun I2 c2=>⟨_,rs++[(acc4,ps)],xss++[xs],rfl,by rw[zcs3];rfl,by rw[zcr6,rl];rfl,by rw[zcr6,xl];rfl,fun i r' xs' e1 e2=>?_,fun i xs' e=>?_,zcc5 (I1:=H4) nd (by walk_at "om") rp (zaf5 R4.out).1⟩)
   ·have up:Same (rm acc (nw H2 I)) (rm acc (nw H2 I2)):=fun b o z=>by
     obtain⟨z1,z2⟩:=zh4 z
     obtain⟨z3,z4⟩:=zaf5 z2
     exact zo7 z1 (zu4 z3 (c2 _ _ z1 (s34 _ _ z4)))
    have new:Same (nw I H4) (rm acc (nw H2 I2)):=fun b o z=>by
     obtain⟨z3,z4⟩:=zaf5 z
     have nb:b≠acc:=fun w=>by rw[w,hacc] at z3;cases z3
     exact zo7 nb (zu4 (s3.free z3) (c2 _ _ nb z4))
    rcases zc9 e1 with ⟨a1,a2⟩|⟨a1,rfl⟩
    ·rcases zc9 e2 with ⟨b1,b2⟩|⟨b1,_⟩
     ·exact (rp i r' xs' a2 b2).same up
     ·omega
    ·rcases zc9 e2 with ⟨b1,_⟩|⟨b1,rfl⟩
     ·omega
     ·exact R4.same new
   ·rcases zc9 e with ⟨b1,b2⟩|⟨b1,rfl⟩
    ·exact xp i xs' b2
    ·rw[b1,xl]
     exact⟨ri,xl1⟩
  ·rintro acc ys σ I facc s3 hacc ⟨t,rs,xss,rfl,rfl,rl,xl,rp,xp,nd⟩
   rw[zcq3,dl] at rl xl
   walk_at "wh"
   have left:Same (nw H2 I) (nw H I):=zci1 s2
   exact q acc rs xss I (s2.trans s3) ⟨left _ _ (zu4 facc hacc),by walk_at "om",fun i r xs e1 e2=>(rp i r xs e1 e2).same (Same.rm left),nd⟩ ⟨xl,xp⟩
def optL (sd:Bool):List Int->Int
 | []=>0
 | [x]=>x
 | x :: y :: ys=>if sd then max x (optL sd (y :: ys)) else min x (optL sd (y :: ys))
theorem zz5 (sd:Bool):∀ {xs:List Int},xs≠[]->optL sd xs∈xs
 | [],h=>absurd rfl h
 | [x],_=>.head _
 | x :: y :: ys,_=>by
  have ih:=zz5 sd (xs:=y :: ys) (by simp)
  show (if sd then max x (optL sd (y :: ys)) else min x (optL sd (y :: ys)))∈_
  cases sd
  ·by_cases h:x<=optL false (y :: ys)
   ·rw[if_neg zcr2,show min x (optL false (y :: ys))=x by walk_at "om"];exact .head _
   ·rw[if_neg zcr2,show min x (optL false (y :: ys))=optL false (y :: ys) by walk_at "om"];exact .tail _ ih
  ·by_cases h:x<=optL true (y :: ys)
   ·rw[if_pos rfl,show max x (optL true (y :: ys))=optL true (y :: ys) by walk_at "om"];exact .tail _ ih
   ·rw[if_pos rfl,show max x (optL true (y :: ys))=x by walk_at "om"];exact .head _
def leS (sd:Bool) (x y:Int):Prop:=if sd then y<=x else x<=y
theorem zy5 (sd:Bool):∀ {xs:List Int},∀ a∈xs,leS sd (optL sd xs) a
 | [],a,h=>by cases h
 | [x],a,h=>by
  rw[zcx8.mp h]
  unfold leS optL
  split<;>exact Int.le_refl _
 | x :: y :: ys,a,h=>by
  have ih:=zy5 sd (xs:=y :: ys)
  show leS sd (if sd then max x (optL sd (y :: ys)) else min x (optL sd (y :: ys))) a
  rcases zcs2.mp h with rfl|h
  ·cases sd
   ·show min a (optL false (y :: ys))<=a;omega
   ·show a<=max a (optL true (y :: ys));omega
  ·have:=ih a h
   cases sd
   ·have:optL false (y :: ys)<=a:=this
    show min x (optL false (y :: ys))<=a;omega
   ·have:a<=optL true (y :: ys):=this
    show a<=max x (optL true (y :: ys));omega
theorem zah3 {sd:Bool}{xs:List Int}{M:Int}(hm:M∈xs) (hb:∀ a∈xs,leS sd M a):M=optL sd xs:=by
 have h1:=hb _ (zz5 sd (xs:=xs) (fun e=>by rw[e] at hm;cases hm))
 have h2:=zy5 sd _ hm
 unfold leS at h1 h2
 cases sd
 ·have h1:M<=optL false xs:=h1
  have h2:optL false xs<=M:=h2
  omega
 ·have h1:optL true xs<=M:=h1
  have h2:M<=optL true xs:=h2
  omega
def tabR (sd:Bool):List (Nat->Int)->Nat->Int
 | [],_=>0
 | [d],r=>d r
 | d :: e :: ds,r=>optL sd ((List.range (r+1)).map fun s=>d s+tabR sd (e :: ds) (r - s))
def zaf1 (sd:Bool) (ds:List (Nat->Int)) (r:Nat):List Int:=match ds with
 | []=>[]
 | [d]=>[d r]
 | d :: e :: ds=>(List.range (r+1)).map fun s=>d s+tabR sd (e :: ds) (r - s)
theorem zap9 (sd:Bool) {ds:List (Nat->Int)}(h:ds≠[]) (r:Nat):tabR sd ds r=optL sd (zaf1 sd ds r)/\zaf1 sd ds r≠[]:=by
 match ds,h with
 | [d],_=>exact⟨rfl,by simp[zaf1]⟩
 | d :: e :: ds,_=>exact⟨rfl,by simp[zaf1]⟩
theorem zas7 (sd:Bool):∀ {ds:List (Nat->Int)}{q:List Nat}{r:Nat},ds≠[]->q.length=ds.length->q.sum=r->leS sd (tabR sd ds r) ((List.range ds.length).map fun k=>(ds.getD k fun _=>0) (q.getD k 0)).sum
 | [d],[x],r,_,_,hs=>by
  have:x=r:=by simpa using hs
  subst this
  have e:((List.range [d].length).map fun k=>([d].getD k fun _=>0) ([x].getD k 0)).sum=d x:=by
   show ([d x]:List Int).sum=d x
   simp
  rw[e]
  unfold leS tabR
  split<;>exact Int.le_refl _
 | d :: e :: ds,x :: q,r,_,hl,hs=>by
  have hs:x+q.sum=r:=by simpa using hs
  have ih:=zas7 sd (ds:=e :: ds) (q:=q) (r:=r - x) (by simp) (by simpa using hl) (by walk_at "om")
  have b:=zy5 sd (xs:=(List.range (r+1)).map fun s=>d s+tabR sd (e :: ds) (r - s)) (d x+tabR sd (e :: ds) (r - x)) (zcs5.mpr ⟨x,zcu9.mpr (by walk_at "om"),rfl⟩)
  have es:((List.range (d :: e :: ds).length).map fun k=>((d :: e :: ds).getD k fun _=>0) ((x :: q).getD k 0)).sum=d x+((List.range (e :: ds).length).map fun k=>((e :: ds).getD k fun _=>0) (q.getD k 0)).sum:=by
   rw[zct0,List.range_succ_eq_map,zcs8,zcu6,zct5]
   rfl
  rw[es]
  show leS sd (optL sd ((List.range (r+1)).map fun s=>d s+tabR sd (e :: ds) (r - s))) _
  generalize optL sd ((List.range (r+1)).map fun s=>d s+tabR sd (e :: ds) (r - s))=M at b
  generalize ((List.range (e :: ds).length).map fun k=>((e :: ds).getD k fun _=>0) (q.getD k 0)).sum=S at ih
  unfold leS at *
  cases sd
  ·simp only[zcv8,if_false] at *
   omega
  ·simp only[if_true] at *
   omega
 | [_],[],_,_,hl,_=>by simp at hl
 | [_],_ :: _ :: _,_,_,hl,_=>by simp at hl
 | _ :: _ :: _,[],_,_,hl,_=>by simp at hl
 | [],_,_,h,_,_=>absurd rfl h
def wonS (sd:Bool) (f:Fd) (x c:Nat):Int:=if sd then f.won c x else f.won x c
def dueS (sd:Bool) (f:Fd) (xs:List (Int×Int×Int)) (c:Nat):Int:=(xs.map fun z=>z.2.2*wonS sd f z.2.1.toNat c).sum
def zc6 (sd:Bool) (fs:List Fd) (xss:List (List (Int×Int×Int))):List (Nat->Int):=(List.range fs.length).map fun k=>dueS sd (fs.getD k (.more 0 0)) (xss.getD k [])
theorem zbb6 {α:Type}(c:Int) (f:α->Int):∀ xs:List α,(xs.map fun x=>c*f x).sum=c*(xs.map f).sum
 | []=>by simp
 | x :: xs=>by
  rw[zcs8,zcs8,zcu6,zcu6,zbb6 c f xs,Int.mul_add]
theorem zbb7 {α β:Type}(F:α->β->Int):∀ (xs:List α) (ys:List β),(xs.map fun x=>(ys.map fun y=>F x y).sum).sum=(ys.map fun y=>(xs.map fun x=>F x y).sum).sum
 | [],ys=>by
  have:∀ ys:List β,(ys.map fun _=>(0:Int)).sum=0:=fun ys=>by
   induction ys with
   | nil=>rfl
   | cons y ys ih=>rw[zcs8,zcu6,ih];rfl
  exact (this ys).symm
 | x :: xs,ys=>by
  rw[zcs8,zcu6,zbb7 F xs ys,← zad4]
  rfl
theorem zan9 {κ:Type}[DecidableEq κ] {ks:List κ}(nd:ks.Nodup) (g:κ->Int):∀ {zs:List (κ×Int)},(∀ z∈zs,z.1∈ks)->(ks.map fun k=>atG zs k*g k).sum=(zs.map fun z=>z.2*g z.1).sum
 | [],_=>by
  have:∀ ks:List κ,(ks.map fun k=>atG ([]:List (κ×Int)) k*g k).sum=0:=fun ks=>by
   induction ks with
   | nil=>rfl
   | cons k ks ih=>
    rw[zcs8,zcu6,ih]
    show (0:Int)*g k+0=0
    rw[Int.zero_mul];rfl
  exact this _
 | z :: zs,h=>by
  have ih:=zan9 nd g (zs:=zs) fun y hy=>h y (.tail _ hy)
  have e:(ks.map fun k=>atG (z :: zs) k*g k)=ks.map fun k=>(if z.1=k then z.2*g z.1 else 0)+atG zs k*g k:=zcs6 fun k _=>by
   rw[zao4,Int.add_mul]
   by_cases e:z.1=k
   ·rw[if_pos e,if_pos e,e]
   ·rw[if_neg e,if_neg e,Int.zero_mul]
  rw[e,zad4,ih,zcs8,zcu6]
  have o:=zax7 (p:=fun _=>true) (a:=z.1) (c:=z.2*g z.1) nd
  rw[List.filter_eq_self.mpr fun _ _=>rfl,if_pos ⟨h z (.head _),rfl⟩] at o
  rw[o]
theorem zbz9 {ms:List (List Int×Int)}{h:Int}{f i:Nat}{xs:List (Int×Int×Int)}{sd:Bool}{fd:Fd}{c:Nat}(O:OkS ms h f) (hi:i<f) (R:zz0 ms i xs):dueS sd fd xs c=(ms.map fun x=>x.2*wonS sd fd (x.1.getD i 0).toNat c).sum:=by
 unfold dueS
 have e1:(xs.map fun z=>z.2.2*wonS sd fd z.2.1.toNat c)=(xs.map keyT).map fun k=>atG (flw ms i) k*wonS sd fd k.2.toNat c:=by
  rw[zct5]
  exact zcs6 fun z hz=>by
   show z.2.2*wonS sd fd z.2.1.toNat c=atG (flw ms i) (keyT z)*wonS sd fd (keyT z).2.toNat c
   rw[← (zt6 O hi R hz).2.2.1];rfl
 rw[e1,zan9 R.1.1 (fun k=>wonS sd fd k.2.toNat c) fun z hz=>(R.2.1 _).mpr ((zo6 _).2 _ |>.mpr (zcs5.mpr ⟨z,hz,rfl⟩))]
 unfold flw
 rw[zct5];rfl
def zq9 (ms:List (List Int×Int)):Int:=(ms.map fun x=>x.2).sum
theorem zag5 {α:Type}{f g:α->Int}:∀ {xs:List α},(∀ x∈xs,f x<=g x)->(xs.map f).sum<=(xs.map g).sum
 | [],_=>Int.le_refl _
 | x :: xs,h=>by
  have:=zag5 (xs:=xs) fun y hy=>h y (.tail _ hy)
  have:=h x (.head _)
  rw[zcs8,zcs8,zcu6,zcu6]
  omega
theorem zbx4 {sd:Bool}{fs:List Fd}{xss:List (List (Int×Int×Int))}{n:Nat}(hf:fs.length=n) (q:List Nat):((List.range (zc6 sd fs xss).length).map fun k=>((zc6 sd fs xss).getD k fun _=>0) (q.getD k 0)).sum=((List.range n).map fun k=>dueS sd (fs.getD k (.more 0 0)) (xss.getD k []) (q.getD k 0)).sum:=by
 have l:(zc6 sd fs xss).length=n:=by unfold zc6;rw[zcq3,zct9,hf]
 rw[l]
 refine congrArg List.sum (zcs6 fun k hk=>?_)
 have:(zc6 sd fs xss).getD k (fun _=>0)=dueS sd (fs.getD k (.more 0 0)) (xss.getD k []):=by
  unfold zc6
  rw[zcq7,zcq8,zcv3 (by rw[hf];exact zcu9.mp hk)];rfl
 rw[this]
def wd (sd:Bool):Str:=if sd then "second" else "first"
@[irreducible] def zi3 (zck2:Addr):Sp:=fun vs H Q E=>(∃ sd,vs=[.str (wd sd)]/\∀ H',Same H H'->Q .non H')∨∃ x:Str,vs=[.str x]/\x≠"first"/\x≠"second"/\∀ H',Same H H'->E (.ref zck2) none H'
theorem zaw3 {zck2:Addr}{H:Hp}{sd:Bool}{Q:VK}{E:XK}(q:∀ H',Same H H'->Q .non H'):zi3 zck2 [.str (wd sd)] H Q E:=by unfold zi3;exact .inl ⟨sd,rfl,q⟩
theorem inV_no {x:Str}(h1:x≠"first") (h2:x≠"second"):inV (.str x) [.str "first",.str "second"]=false:=by
 have e:inV (.str x) [.str "first",.str "second"]=(eqV (.str "first") (.str x) || (eqV (.str "second") (.str x) || false)):=rfl
 rw[e]
 have ns:∀ y:Str,x≠y->eqV (.str y) (.str x)=false:=fun y h=>by
  simp[eqV]
  exact fun z=>h z.symm
 have e1:=ns _ h1
 have e2:=ns _ h2
 rw[e1,e2];rfl
theorem zas2 {f:Addr}{fd:FuncData}(F:Fun K "look_side" "look_side" zn9 f fd) (N:Nm mg) (Z:Cz K mg base zck3 zck0 zck8 zck2 zck6):FnOk P w K mg base (CXR P w) 1 f fd ["side"] (zi3 zck2):=by
 refine F.okR zaw7 (fun vs H Q E h=>by unfold zi3 at h;rcases h with ⟨_,rfl,_⟩|⟨_,rfl,_⟩<;>rfl) (fun cdv A outer s H vs Q E hr hX h=>?_)
 unfold zi3 at h
 refine⟨_,(za6 (psIf (ptC (zch6 (K:=K) rfl) (pq 0) (zp3 (za0 zh6 (za0 zh6 za1)))) (za6 (zcj6 Z.o_NoSide PySem.F.excBase_ValueError rfl hX (za0 zh6 za1))) zc1)),?_⟩
 rcases h with ⟨sd,rfl,q⟩|⟨x,rfl,h1,h2,q⟩
 ·walk_at "wh"
  refine zd9 (fun p1 H1 f1 s1 h1=>?_)
  refine zau6 (SqT.of h1) rfl rfl ?_
  rw[show inV (.str (wd sd)) [.str "first",.str "second"]=true by cases sd<;>decide +kernel]
  refine br_F ?_
  walk_at "wh"
  exact q _ s1
 ·walk_at "wh"
  refine zd9 (fun p1 H1 f1 s1 h1'=>?_)
  refine zau6 (SqT.of h1') rfl rfl ?_
  rw[inV_no h1 h2]
  refine br_T ?_
  walk_at "wh"
  exact⟨by decide,q _ s1⟩
def ownH (sd:Bool) (n m:Nat):Nat:=if sd then m else n
def othH (sd:Bool) (n m:Nat):Nat:=if sd then n else m
@[irreducible] def zi8:Sp:=fun vs H Q _=>∃ (b l:Addr) (n m:Nat) (sd:Bool),vs=[.ref b,.str (wd sd)]/\H b=some (.tup [.int n,.int m,.ref l])/\Q (.int (ownH sd n m)) H
theorem zaq4 {H:Hp}{b l:Addr}{n m:Nat}{sd:Bool}{Q:VK}{E:XK}(h:H b=some (.tup [.int n,.int m,.ref l])) (q:Q (.int (ownH sd n m)) H):zi8 [.ref b,.str (wd sd)] H Q E:=by unfold zi8;exact⟨b,l,n,m,sd,rfl,h,q⟩
theorem zar2 {f:Addr}{fd:FuncData}(F:Fun K "own_hosts" "own_hosts" zo1 f fd) (N:Nm mg):FnOk P w K mg base CX0 1 f fd ["battle","side"] zi8:=by
 refine F.ok zas3 (fun vs H Q E h=>by unfold zi8 at h;obtain⟨_,_,_,_,_,rfl,_⟩:=h;rfl) (fun cdv A outer s H vs Q E hr h=>?_)
 unfold zi8 at h
 obtain⟨b,l,n,m,sd,rfl,h,q⟩:=h
 have hu:=hu40 hr
 refine⟨_,(za6 (zb0 (peIf (ptC (zai5 (K:=K) rfl (by exact hu)) (pq 1) zh6) (za8 (K:=K) rfl (pq 0) za2) (za8 (K:=K) rfl (pq 0) za2)))),?_⟩
 cases sd
 ·walk_at "wh"
  refine zt3 rfl ?_
  refine zb2 (v:=.int n) h rfl ?_
  walk_at "wh"
  exact q
 ·walk_at "wh"
  refine zr8 (by decide) ?_
  refine zb2 (v:=.int m) h rfl ?_
  walk_at "wh"
  exact q
@[irreducible] def zd6:Sp:=fun vs H Q _=>∃ (b l:Addr) (n m:Nat) (sd:Bool),vs=[.ref b,.str (wd sd)]/\H b=some (.tup [.int n,.int m,.ref l])/\Q (.int (othH sd n m)) H
theorem zs5 {H:Hp}{b l:Addr}{n m:Nat}{sd:Bool}{Q:VK}{E:XK}(h:H b=some (.tup [.int n,.int m,.ref l])) (q:Q (.int (othH sd n m)) H):zd6 [.ref b,.str (wd sd)] H Q E:=by unfold zd6;exact⟨b,l,n,m,sd,rfl,h,q⟩
theorem zah8 {f:Addr}{fd:FuncData}(F:Fun K "other_hosts" "other_hosts" zj7 f fd) (N:Nm mg):FnOk P w K mg base CX0 1 f fd ["battle","side"] zd6:=by
 refine F.ok zaj4 (fun vs H Q E h=>by unfold zd6 at h;obtain⟨_,_,_,_,_,rfl,_⟩:=h;rfl) (fun cdv A outer s H vs Q E hr h=>?_)
 unfold zd6 at h
 obtain⟨b,l,n,m,sd,rfl,h,q⟩:=h
 have hu:=hu40 hr
 refine⟨_,(za6 (zb0 (peIf (ptC (zai5 (K:=K) rfl (by exact hu)) (pq 1) zh6) (za8 (K:=K) rfl (pq 0) za2) (za8 (K:=K) rfl (pq 0) za2)))),?_⟩
 cases sd
 ·walk_at "wh"
  refine zt3 rfl ?_
  refine zb2 (v:=.int m) h rfl ?_
  walk_at "wh"
  exact q
 ·walk_at "wh"
  refine zr8 (by decide) ?_
  refine zb2 (v:=.int n) h rfl ?_
  walk_at "wh"
  exact q
theorem Fd.won_bd {f:Fd}{a c x y:Nat}(O:f.Ok) (B:f.Bd a c) (hx:x<=a) (hy:y<=c):-(2*10 ^ 28)<=f.won x y/\f.won x y<=2*10 ^ 28:=by
 cases f with
 | more w t=>
  have O:1<=w/\-w<=t/\t<=w:=O
  have B:w<=2*10 ^ 28:=B
  unfold Fd.won
  dsimp only
  split
  ·omega
  ·split<;>omega
 | lead w l=>
  have O:1<=w:=O
  have B:w<=2*10 ^ 28:=B
  unfold Fd.won
  dsimp only
  split<;>omega
 | tab g=>exact B x y hx hy
abbrev zu0 (h:Nat) (xs:List (Int×Int×Int)):Prop:=xs.length<=1000/\∀ z∈xs,(0<=z.2.1/\z.2.1<=h)/\(0<=z.2.2/\z.2.2<=10 ^ 31)
@[irreducible] def zah0:Sp:=fun vs H Q _=>∃ (p a:Addr) (n m c:Nat) (sd:Bool) (f:Fd) (bs:List Addr) (xs:List (Int×Int×Int)),vs=[.ref p,.str (wd sd),.ref a,.int c]/\FdAt H p n m f/\f.Ok/\f.Bd n m/\RwAt H a bs xs/\zu0 (ownH sd n m) xs/\c<=othH sd n m/\∀ H',Same H H'->Q (.int (dueS sd f xs c)) H'
theorem due_rd {H:Hp}{p a:Addr}{n m c:Nat}{sd:Bool}{f:Fd}{bs:List Addr}{xs:List (Int×Int×Int)}{Q:VK}{E:XK}(F:FdAt H p n m f) (O:f.Ok) (B:f.Bd n m) (R:RwAt H a bs xs) (ok:zu0 (ownH sd n m) xs) (hc:c<=othH sd n m) (q:∀ H',Same H H'->Q (.int (dueS sd f xs c)) H'):zah0 [.ref p,.str (wd sd),.ref a,.int c] H Q E:=by unfold zah0;exact⟨p,a,n,m,c,sd,f,bs,xs,rfl,F,O,B,R,ok,hc,q⟩
theorem zbc5 {sd:Bool}{f:Fd}{xs:List (Int×Int×Int)}{c k:Nat}(hk:k=xs.length):((List.range k).map fun i=>V.int ((xs.getD i (0,0,0)).2.2*wonS sd f (xs.getD i (0,0,0)).2.1.toNat c))=(xs.map fun z=>z.2.2*wonS sd f z.2.1.toNat c).map V.int:=by
 subst hk
 apply zcw2
 intro i
 rw[zcq8,zcq8,zcq8]
 by_cases h:i<xs.length
 ·rw[zcv3 h,zcq4 h]
  simp[h]
 ·rw[zct2 (by simp;omega),zct2 (by walk_at "om")]
  rfl
set_option maxHeartbeats 0 in
theorem ok_due {f:Addr}{fd:FuncData}(F:Fun K "due" "due" zbh8 f fd) (N:Nm mg) (zcp7:Def P w K mg base CX0 1 "won" ["field","x","y"] zab3):FnOk P w K mg base CX0 2 f fd ["field","side","row","count"] zah0:=by
 refine F.ok sc_due (fun vs H Q E h=>by unfold zah0 at h;obtain⟨_,_,_,_,_,_,_,_,_,rfl,_⟩:=h;rfl) (fun cdv A outer s H vs Q E hr h=>?_)
 unfold zah0 at h
 obtain⟨p,a,n,m,c,sd,f,bs,xs,rfl,F,O,B,R,ok,hc,q⟩:=h
 have hu:=hu40 hr
 have rl:=R.len
 have xl:=ok.1
 refine⟨_,(za4 (psIf (ptC (zai5 (K:=K) rfl (by exact hu)) (pq 1) zh6) (za6 (zb0 (pB (zbb2 (K:=K) rfl rfl) N.sum_ zah4 (za0 (zf2 (N:=["left","sent","flow","field","count"]) (ks:=[none,none,none,some 0,some 3]) (ze3 (K:=K) rfl (pq 2)) (fun cl C s3 H3 fp=>(zk4 (K:=K) (n:=3) rfl rfl (zb4 (za7 (i:=0) zbh9 rfl (by first|exact Or.inl rfl|exact Or.inr rfl)) (zb4 (za7 (i:=1) zbh9 rfl (by first|exact Or.inl rfl|exact Or.inr rfl)) (zb4 (za7 (i:=2) zbh9 rfl (by first|exact Or.inl rfl|exact Or.inr rfl)) zk5))))) (fun cl C s3 H3 fp=>zc4) (fun cl C s3 H3 fp=>(zb5 oMul (pq 2) (pD zcp7 hr zb7 (za0 (pq 3) (za0 (pq 1) (za0 (pq 4) za1)))))) (.skip (.skip (.skip (.take rfl rfl (by first|exact Or.inl rfl|exact Or.inr rfl) (.take rfl rfl (by first|exact Or.inl rfl|exact Or.inr rfl) .nil)))))) za1)))) zc1)
   (za6 (zb0 (pB (zbb2 (K:=K) rfl rfl) N.sum_ zah4 (za0 (zf2 (N:=["left","sent","flow","field","count"]) (ks:=[none,none,none,some 0,some 3]) (ze3 (K:=K) rfl (pq 2)) (fun cl C s3 H3 fp=>(zk4 (K:=K) (n:=3) rfl rfl (zb4 (za7 (i:=0) zbh9 rfl (by first|exact Or.inl rfl|exact Or.inr rfl)) (zb4 (za7 (i:=1) zbh9 rfl (by first|exact Or.inl rfl|exact Or.inr rfl)) (zb4 (za7 (i:=2) zbh9 rfl (by first|exact Or.inl rfl|exact Or.inr rfl)) zk5))))) (fun cl C s3 H3 fp=>zc4) (fun cl C s3 H3 fp=>(zb5 oMul (pq 2) (pD zcp7 hr zb7 (za0 (pq 3) (za0 (pq 4) (za0 (pq 1) za1)))))) (.skip (.skip (.skip (.take rfl rfl (by first|exact Or.inl rfl|exact Or.inr rfl) (.take rfl rfl (by first|exact Or.inl rfl|exact Or.inr rfl) .nil)))))) za1))))),?_⟩
 cases sd
 ·walk_at "wh"
  refine zt3 rfl ?_
  refine zb8 R.out ?_
  refine zm7 (Wk.list (SqL.of R.out)) (by rw[zcq3,sizeLine_eq];omega) (fun i=>.int ((xs.getD i (0,0,0)).2.2*wonS false f (xs.getD i (0,0,0)).2.1.toNat c)) (fun _=>true) (fun j σ=>∃ t u w:Option V,σ=[t,u,w,some (.ref p),some (.int c)]) ⟨none,none,none,rfl⟩ ?_ ?_
  ·rintro i x σ I R' S hi s1 hx ⟨_,_,_,rfl⟩ kk _
   rw[zcq8] at hx
   obtain⟨t,et,rfl⟩:=zcr1.mp hx
   obtain⟨z,ez⟩:∃ z,xs[i]?=some z:=⟨_,zcq4 (by have:=(zcq6.mp et).1;omega)⟩
   rw[show xs.getD i (0,0,0)=z by rw[zcq7,ez];rfl] at kk
   obtain⟨z1,z2⟩:=ok.2 z (zcr0 ez)
   have z1:0<=z.2.1/\z.2.1<=(n:Int):=z1
   have hc:c<=m:=hc
   have wb:=Fd.won_bd O B (x:=z.2.1.toNat) (y:=c) (by walk_at "om") hc
   refine zd4 (s1 _ _ (R.row i t z et ez)) ?_
   refine br_T ?_
   rw[show z.2.1=((z.2.1.toNat:Nat):Int) by walk_at "om"]
   refine zbm3 (F.same s1) (by walk_at "om") hc ?_
   refine zu6 (zp6 (by walk_at "om") (by walk_at "om") (by walk_at "om") (by walk_at "om")) ?_
   walk_at "wh"
   exact kk rfl _ _ (Same.refl _) ⟨_,_,_,rfl⟩
  intro acc H1 f1 s1 h1
  rw[ze0,zbc5 (by rw[zcq3];exact rl)] at h1
  refine zag4 h1 ?_
  walk_at "wh"
  exact q _ s1
 ·walk_at "wh"
  refine zr8 (by decide) ?_
  refine zb8 R.out ?_
  refine zm7 (Wk.list (SqL.of R.out)) (by rw[zcq3,sizeLine_eq];omega) (fun i=>.int ((xs.getD i (0,0,0)).2.2*wonS true f (xs.getD i (0,0,0)).2.1.toNat c)) (fun _=>true) (fun j σ=>∃ t u w:Option V,σ=[t,u,w,some (.ref p),some (.int c)]) ⟨none,none,none,rfl⟩ ?_ ?_
  ·rintro i x σ I R' S hi s1 hx ⟨_,_,_,rfl⟩ kk _
   rw[zcq8] at hx
   obtain⟨t,et,rfl⟩:=zcr1.mp hx
   obtain⟨z,ez⟩:∃ z,xs[i]?=some z:=⟨_,zcq4 (by have:=(zcq6.mp et).1;omega)⟩
   rw[show xs.getD i (0,0,0)=z by rw[zcq7,ez];rfl] at kk
   obtain⟨z1,z2⟩:=ok.2 z (zcr0 ez)
   have z1:0<=z.2.1/\z.2.1<=(m:Int):=z1
   have hc:c<=n:=hc
   have wb:=Fd.won_bd O B (x:=c) (y:=z.2.1.toNat) hc (by walk_at "om")
   refine zd4 (s1 _ _ (R.row i t z et ez)) ?_
   refine br_T ?_
   rw[show z.2.1=((z.2.1.toNat:Nat):Int) by walk_at "om"]
   refine zbm3 (F.same s1) hc (by walk_at "om") ?_
   refine zu6 (zp6 (by walk_at "om") (by walk_at "om") (by walk_at "om") (by walk_at "om")) ?_
   walk_at "wh"
   exact kk rfl _ _ (Same.refl _) ⟨_,_,_,rfl⟩
  intro acc H1 f1 s1 h1
  rw[ze0,zbc5 (by rw[zcq3];exact rl)] at h1
  refine zag4 h1 ?_
  walk_at "wh"
  exact q _ s1
@[irreducible] def zl2:Sp:=fun vs H Q _=>∃ (p a:Addr) (n m:Nat) (sd:Bool) (f:Fd) (bs:List Addr) (xs:List (Int×Int×Int)),vs=[.ref p,.str (wd sd),.ref a,.int (othH sd n m)]/\FdAt H p n m f/\f.Ok/\f.Bd n m/\RwAt H a bs xs/\zu0 (ownH sd n m) xs/\othH sd n m<=10/\∀ r H',H r=none->Same H H'->H' r=some (.lst (rowV (othH sd n m+1) (dueS sd f xs)))->Q (.ref r) H'
theorem zay6 {H:Hp}{p a:Addr}{n m:Nat}{sd:Bool}{f:Fd}{bs:List Addr}{xs:List (Int×Int×Int)}{Q:VK}{E:XK}(F:FdAt H p n m f) (O:f.Ok) (B:f.Bd n m) (R:RwAt H a bs xs) (ok:zu0 (ownH sd n m) xs) (ho:othH sd n m<=10) (q:∀ r H',H r=none->Same H H'->H' r=some (.lst (rowV (othH sd n m+1) (dueS sd f xs)))->Q (.ref r) H'):zl2 [.ref p,.str (wd sd),.ref a,.int (othH sd n m)] H Q E:=by unfold zl2;exact⟨p,a,n,m,sd,f,bs,xs,rfl,F,O,B,R,ok,ho,q⟩
theorem zaz2 {f:Addr}{fd:FuncData}(F:Fun K "row_dues" "row_dues" zq3 f fd) (N:Nm mg) (D_due:Def P w K mg base CX0 2 "due" ["field","side","row","count"] zah0):FnOk P w K mg base CX0 3 f fd ["field","side","row","most"] zl2:=by
 refine F.ok zax5 (fun vs H Q E h=>by unfold zl2 at h;obtain⟨_,_,_,_,_,_,_,_,rfl,_⟩:=h;rfl) (fun cdv A outer s H vs Q E hr h=>?_)
 unfold zl2 at h
 obtain⟨p,a,n,m,sd,f,bs,xs,rfl,F,O,B,R,ok,ho,q⟩:=h
 have hu:=hu40 hr
 refine⟨_,(za6 (zb0 (zf2 (N:=["count","field","side","row"]) (ks:=[none,some 0,some 1,some 2]) (zr5 N.range_ (za0 (zb5 oAdd (pq 3) za2) za1)) (fun cl C s3 H3 fp=>(za7 (i:=0) nb_13 rfl (by first|exact Or.inl rfl|exact Or.inr rfl))) (fun cl C s3 H3 fp=>zc4) (fun cl C s3 H3 fp=>(pD D_due hr zb7 (za0 (pq 1) (za0 (pq 2) (za0 (pq 3) (za0 (pq 0) za1)))))) (.skip (.take rfl rfl (by first|exact Or.inl rfl|exact Or.inr rfl) (.take rfl rfl (by first|exact Or.inl rfl|exact Or.inr rfl) (.take rfl rfl (by first|exact Or.inl rfl|exact Or.inr rfl) .nil))))))),?_⟩
 refine zh3 (by walk_at "om") (by walk_at "om") (by walk_at "om") (by walk_at "om") ?_
 rw[show ((othH sd n m:Int)+1 - 0).toNat=othH sd n m+1 by walk_at "om"]
 refine zm7 (n:=othH sd n m+1) Wk.range (by rw[sizeLine_eq];omega) (fun i=>.int (dueS sd f xs i)) (fun _=>true) (fun j σ=>∃ t:Option V,σ=[t,some (.ref p),some (.str (wd sd)),some (.ref a)]) ⟨none,rfl⟩ ?_ ?_
 ·rintro i x σ I R' S hi s1 hx ⟨_,rfl⟩ kk _
  obtain rfl:x=.int i:=by rw[hx,zcx7]
  refine br_T ?_
  refine due_rd (F.same s1) O B (R.same s1) ok (by walk_at "om") (fun H2 s2=>?_)
  walk_at "wh"
  exact kk rfl _ _ s2 ⟨_,rfl⟩
 intro acc H1 f1 s1 h1
 rw[ze0] at h1
 walk_at "wh"
 exact q acc H1 f1 s1 h1
structure StW (H:Hp) (p:Addr) (rs:List (Addr×List Addr)) (xss:List (List (Int×Int×Int))):Prop where
 out:H p=some (.lst (rs.map fun r=>V.ref r.1))
 len:rs.length=xss.length
 row:∀ (i:Nat) r xs,rs[i]?=some r->xss[i]?=some xs->RwAt H r.1 r.2 xs
theorem StW.same {H H':Hp}{p:Addr}{rs:List (Addr×List Addr)}{xss:List (List (Int×Int×Int))}(R:StW H p rs xss) (s:Same H H'):StW H' p rs xss:=⟨s _ _ R.out,R.len,fun i r xs e1 e2=>(R.row i r xs e1 e2).same s⟩
theorem StW.sh {H:Hp}{p:Addr}{rs:List (Addr×List Addr)}{xss:List (List (Int×Int×Int))}(R:StW H p rs xss):ShV H (.ref p) (stmD xss):=.lst R.out (ShL.idx (by rw[zcq3,zcq3,R.len]) fun i x d h1 h2=>by
 rw[zcq8] at h1 h2
 obtain⟨b,eb,rfl⟩:=zcr1.mp h1
 obtain⟨z,ez,rfl⟩:=zcr1.mp h2
 exact (R.row i b z eb ez).sh)
theorem StAt.toW {H:Hp}{p:Addr}{rs:List (Addr×List Addr)}{xss:List (List (Int×Int×Int))}(R:StAt H p rs xss):StW H p rs xss:=⟨R.out,R.len,fun i r xs e1 e2=>(R.row i r xs e1 e2).same (zk6 _ _)⟩
@[irreducible] def zx3:Sp:=fun vs H Q _=>∃ (b l st:Addr) (ps:List Addr) (n m:Nat) (sd:Bool) (fs:List Fd) (rs:List (Addr×List Addr)) (xss:List (List (Int×Int×Int))),vs=[.ref b,.str (wd sd),.ref st]/\zh5 H b l ps n m fs/\OkB n m fs/\(∀ f∈fs,f.Bd n m)/\StW H st rs xss/\xss.length=fs.length/\(∀ xs∈xss,zu0 (ownH sd n m) xs)/\∀ (r:Addr) (qs:List Addr) (H':Hp),H r=none->Same H H'->zd3 H' r qs fs.length (othH sd n m+1) (fun k=>dueS sd (fs.getD k (.more 0 0)) (xss.getD k []))->Q (.ref r) H'
theorem zcg2 {H:Hp}{b l st:Addr}{ps:List Addr}{n m:Nat}{sd:Bool}{fs:List Fd}{rs:List (Addr×List Addr)}{xss:List (List (Int×Int×Int))}{Q:VK}{E:XK}(B:zh5 H b l ps n m fs) (O:OkB n m fs) (D:∀ f∈fs,f.Bd n m) (S:StW H st rs xss) (hl:xss.length=fs.length) (ok:∀ xs∈xss,zu0 (ownH sd n m) xs) (q:∀ (r:Addr) (qs:List Addr) (H':Hp),H r=none->Same H H'->zd3 H' r qs fs.length (othH sd n m+1) (fun k=>dueS sd (fs.getD k (.more 0 0)) (xss.getD k []))->Q (.ref r) H'):zx3 [.ref b,.str (wd sd),.ref st] H Q E:=by
 unfold zx3;exact⟨b,l,st,ps,n,m,sd,fs,rs,xss,rfl,B,O,D,S,hl,ok,q⟩
theorem zab5 {n m:Nat}{fs:List Fd}(O:OkB n m fs) (sd:Bool):othH sd n m<=10/\ownH sd n m<=10:=by
 have:=O.1
 unfold othH ownH
 cases sd<;>simp<;>omega
theorem zch0 {f:Addr}{fd:FuncData}(F:Fun K "dues" "dues" zak7 f fd) (N:Nm mg) (zck4:Def P w K mg base CX0 1 "other_hosts" ["battle","side"] zd6) (zco5:Def P w K mg base CX0 3 "row_dues" ["field","side","row","most"] zl2):FnOk P w K mg base CX0 4 f fd ["battle","side","stream"] zx3:=by
 refine F.ok zbk1 (fun vs H Q E h=>by unfold zx3 at h;obtain⟨_,_,_,_,_,_,_,_,_,_,rfl,_⟩:=h;rfl) (fun cdv A outer s H vs Q E hr h=>?_)
 unfold zx3 at h
 obtain⟨b,l,st,ps,n,m,sd,fs,rs,xss,rfl,B,O,D,S,hl,ok,q⟩:=h
 have hu:=hu40 hr
 have bl:=B.len
 have sl:=S.len
 have o2:=O.2
 obtain⟨ho,hw⟩:=zab5 O sd
 refine⟨_,(za4 (psS (i:=3) zbk1.nd (pD zck4 hr zb7 (za0 (pq 0) (za0 (pq 1) za1))))
   (za6 (zb0 (zf2 (N:=["field","row","side","most"]) (ks:=[none,none,some 1,some 3]) (zbi6 (K:=K) rfl N.zip_ (za0 (za8 (K:=K) rfl (pq 0) za2) (za0 (pq 2) za1))) (fun cl C s3 H3 fp=>(zk4 (K:=K) (n:=2) rfl rfl (zb4 (za7 (i:=0) nb_14 rfl (by first|exact Or.inl rfl|exact Or.inr rfl)) (zb4 (za7 (i:=1) nb_14 rfl (by first|exact Or.inl rfl|exact Or.inr rfl)) zk5)))) (fun cl C s3 H3 fp=>zc4) (fun cl C s3 H3 fp=>(pD zco5 hr zb7 (za0 (pq 0) (za0 (pq 2) (za0 (pq 1) (za0 (pq 3) za1)))))) (.skip (.skip (.take rfl rfl (by first|exact Or.inl rfl|exact Or.inr rfl) (.take rfl rfl (by first|exact Or.inl rfl|exact Or.inr rfl) .nil)))))))),?_⟩
 refine zs5 B.out ?_
 refine zb2 (v:=.ref l) B.out rfl ?_
 refine zbq5 (SqL.of B.lst) (SqL.of S.out) ?_
 refine zac0 (n:=fs.length) (Wk.zip (SqL.of B.lst) (SqL.of S.out) (by rw[zcq3,bl]) (by rw[zcq3,sl,hl])) (by rw[sizeLine_eq];omega) (fun i=>.lst (rowV (othH sd n m+1) (dueS sd (fs.getD i (.more 0 0)) (xss.getD i [])))) (fun j σ=>∃ t u:Option V,σ=[t,u,some (.str (wd sd)),some (.int (othH sd n m))]) ⟨none,none,rfl⟩ ?_ ?_
 ·rintro i x σ I R' S' hi s1 ⟨t,y1,y2,rfl,ht,hy1,hy2⟩ ⟨_,_,rfl⟩ kk
  obtain⟨p,f,rfl,ep,ef,hf,of⟩:=(B.same s1).elt hy1
  rw[zcq8] at hy2
  obtain⟨r,er,rfl⟩:=zcr1.mp hy2
  obtain⟨xs,ex⟩:∃ xs,xss[i]?=some xs:=⟨_,zcq4 (by walk_at "om")⟩
  rw[show fs.getD i (.more 0 0)=f by rw[zcq7,ef];rfl,show xss.getD i []=xs by rw[zcq7,ex];rfl] at kk
  have R:=(S.row i r xs er ex).same s1
  refine zd4 ht ?_
  refine br_T ?_
  refine zay6 hf of (D f (zcr0 ef)) R (ok xs (zcr0 ex)) ho (fun r2 H2 f2 s2 h2=>?_)
  walk_at "wh"
  exact kk _ _ _ f2 s2 h2 ⟨_,_,rfl⟩
 rintro r qs H1 F1
 walk_at "wh"
 exact q r qs H1 F1.facc F1.same ⟨F1.out,F1.len,fun i p e=>(F1.row i p e).2⟩
@[irreducible] def zm6:Sp:=fun vs H Q _=>∃ (a:Addr) (v:V) (k c:Nat) (d:Nat->Int) (ns:List Int),vs=[.ref a,v,.int c]/\H a=some (.lst (rowV k d))/\c<k/\k<=100/\((v=.non/\ns=[d c])∨∃ (b:Addr) (t:Nat->Int),v=.ref b/\H b=some (.lst (rowV k t))/\ns=(List.range (c+1)).map fun s=>d s+t (c - s))/\∀ r H',H r=none->Same H H'->H' r=some (.lst (ns.map V.int))->Q (.ref r) H'
theorem zbg8 {H:Hp}{a:Addr}{k c:Nat}{d:Nat->Int}{Q:VK}{E:XK}(ha:H a=some (.lst (rowV k d))) (hc:c<k) (hk:k<=100) (q:∀ r H',H r=none->Same H H'->H' r=some (.lst ([d c].map V.int))->Q (.ref r) H'):zm6 [.ref a,.non,.int c] H Q E:=by unfold zm6;exact⟨a,.non,k,c,d,_,rfl,ha,hc,hk,.inl ⟨rfl,rfl⟩,q⟩
theorem zbg4 {H:Hp}{a b:Addr}{k c:Nat}{d t:Nat->Int}{Q:VK}{E:XK}(ha:H a=some (.lst (rowV k d))) (hb:H b=some (.lst (rowV k t))) (hc:c<k) (hk:k<=100) (q:∀ r H',H r=none->Same H H'->H' r=some (.lst (((List.range (c+1)).map fun s=>d s+t (c - s)).map V.int))->Q (.ref r) H'):zm6 [.ref a,.ref b,.int c] H Q E:=by unfold zm6;exact⟨a,.ref b,k,c,d,_,rfl,ha,hc,hk,.inr ⟨b,t,rfl,hb,rfl⟩,q⟩
theorem zbo6 {f:Addr}{fd:FuncData}(F:Fun K "bounds" "bounds" zw2 f fd) (N:Nm mg):FnOk P w K mg base CX0 1 f fd ["field_dues","behind","count"] zm6:=by
 refine F.ok zbi5 (fun vs H Q E h=>by unfold zm6 at h;obtain⟨_,_,_,_,_,_,rfl,_⟩:=h;rfl) (fun cdv A outer s H vs Q E hr h=>?_)
 unfold zm6 at h
 obtain⟨a,v,k,c,d,ns,rfl,ha,hc,hk,h,q⟩:=h
 have hu:=hu40 hr
 refine⟨_,(za4 (psIf (ptC oIsX (pq 1) zy3) (za6 (zb0 (zk8 (za0 (za8 (K:=K) rfl (pq 0) (pq 2)) za1)))) zc1)
   (za6 (zb0 (zf2 (N:=["sent","field_dues","behind","count"]) (ks:=[none,some 0,some 1,some 2]) (zr5 N.range_ (za0 (zb5 oAdd (pq 2) za2) za1)) (fun cl C s3 H3 fp=>(za7 (i:=0) nb_15 rfl (by first|exact Or.inl rfl|exact Or.inr rfl))) (fun cl C s3 H3 fp=>zc4) (fun cl C s3 H3 fp=>(zb5 oAdd (za8 (K:=K) rfl (pq 1) (pq 0)) (za8 (K:=K) rfl (pq 2) (zb5 oSub (pq 3) (pq 0))))) (.skip (.take rfl rfl (by first|exact Or.inl rfl|exact Or.inr rfl) (.take rfl rfl (by first|exact Or.inl rfl|exact Or.inr rfl) (.take rfl rfl (by first|exact Or.inl rfl|exact Or.inr rfl) .nil)))))))),?_⟩
 rcases h with ⟨rfl,rfl⟩|⟨b,t,rfl,hb,rfl⟩
 ·walk_at "wh"
  first|refine br_T ?_|refine zt3 rfl ?_
  refine zb6 (v:=.int (d c)) ha (zc5 (zf1 hc)) ?_
  refine zc7 (fun r H1 f1 s1 h1=>?_)
  walk_at "wh"
  exact q r H1 f1 s1 h1
 ·walk_at "wh"
  first|refine br_F ?_|refine zr8 (fun z=>by cases z) ?_
  refine zh3 (by walk_at "om") (by walk_at "om") (by walk_at "om") (by walk_at "om") ?_
  rw[show ((c:Int)+1 - 0).toNat=c+1 by walk_at "om"]
  refine zm7 (n:=c+1) Wk.range (by rw[sizeLine_eq];omega) (fun i=>.int (d i+t (c - i))) (fun _=>true) (fun j σ=>∃ t:Option V,σ=[t,some (.ref a),some (.ref b),some (.int c)]) ⟨none,rfl⟩ ?_ ?_
  ·rintro i x σ I R' S hi s1 hx ⟨_,rfl⟩ kk _
   obtain rfl:x=.int i:=by rw[hx,zcx7]
   refine br_T ?_
   refine zb6 (v:=.int (d i)) (s1 _ _ ha) (zc5 (zf1 (by walk_at "om"))) ?_
   refine zb6 (v:=.int (t (c - i))) (s1 _ _ hb) (by rw[show (c:Int) - (i:Int)=((c - i:Nat):Int) by walk_at "om"];exact zc5 (zf1 (by walk_at "om"))) ?_
   walk_at "wh"
   exact kk rfl _ _ (Same.refl _) ⟨_,rfl⟩
  intro acc H1 f1 s1 h1
  rw[ze0] at h1
  walk_at "wh"
  exact q acc H1 f1 s1 (by rw[h1,zct5];rfl)
def zo3 (sd:Bool) (x y:Int):Bool:=if sd then decide (y<=x) else decide (x<=y)
theorem zv5 {sd:Bool}{x y:Int}:zo3 sd x y=true↔leS sd x y:=by
 unfold zo3 leS
 cases sd<;>simp
@[irreducible] def zs0:Sp:=fun vs H Q _=>∃ (sd:Bool) (x y:Int),vs=[.str (wd sd),.int x,.int y]/\Q (.bl (zo3 sd x y)) H
theorem zaq0 {H:Hp}{sd:Bool}{x y:Int}{Q:VK}{E:XK}(q:Q (.bl (zo3 sd x y)) H):zs0 [.str (wd sd),.int x,.int y] H Q E:=by unfold zs0;exact⟨sd,x,y,rfl,q⟩
theorem zbw5 {f:Addr}{fd:FuncData}(F:Fun K "keeps" "keeps" zaa9 f fd) (N:Nm mg):FnOk P w K mg base CX0 1 f fd ["side","number","bound"] zs0:=by
 refine F.ok zbx0 (fun vs H Q E h=>by unfold zs0 at h;obtain⟨_,_,_,rfl,_⟩:=h;rfl) (fun cdv A outer s H vs Q E hr h=>?_)
 unfold zs0 at h
 obtain⟨sd,x,y,rfl,q⟩:=h
 have hu:=hu40 hr
 refine⟨_,(za6 (zb0 (peIf (ptC (zai5 (K:=K) rfl (by exact hu)) (pq 0) zh6) (peC oLe (pq 1) (pq 2)) (peC oGe (pq 1) (pq 2))))),?_⟩
 cases sd
 ·walk_at "wh"
  refine zt3 rfl ?_
  walk_at "wh"
  exact q
 ·walk_at "wh"
  refine zr8 (by decide) ?_
  walk_at "wh"
  exact q
@[irreducible] def zl5:Sp:=fun vs H Q _=>∃ (st:Addr) (rs:List (Addr×List Addr)) (xss:List (List (Int×Int×Int))),vs=[.ref st]/\StW H st rs xss/\1<=xss.length/\(xss.getD 0 []).length<=1000/\∀ H',Same H H'->Q (.int ((xss.getD 0 []).map fun z=>z.2.2).sum) H'
theorem zba0 {H:Hp}{st:Addr}{rs:List (Addr×List Addr)}{xss:List (List (Int×Int×Int))}{Q:VK}{E:XK}(S:StW H st rs xss) (h1:1<=xss.length) (hl:(xss.getD 0 []).length<=1000) (q:∀ H',Same H H'->Q (.int ((xss.getD 0 []).map fun z=>z.2.2).sum) H'):zl5 [.ref st] H Q E:=by unfold zl5;exact⟨st,rs,xss,rfl,S,h1,hl,q⟩
theorem zbr9 {xs:List (Int×Int×Int)}{k:Nat}(hk:k=xs.length):((List.range k).map fun i=>V.int (xs.getD i (0,0,0)).2.2)=(xs.map fun z=>z.2.2).map V.int:=by
 subst hk
 apply zcw2
 intro i
 rw[zcq8,zcq8,zcq8]
 by_cases h:i<xs.length
 ·rw[zcv3 h,zcq4 h]
  simp[h]
 ·rw[zct2 (by simp;omega),zct2 (by walk_at "om")]
  rfl
theorem zaz6 {f:Addr}{fd:FuncData}(F:Fun K "whole_in" "whole_in" zq0 f fd) (N:Nm mg):FnOk P w K mg base CX0 1 f fd ["stream"] zl5:=by
 refine F.ok zay2 (fun vs H Q E h=>by unfold zl5 at h;obtain⟨_,_,_,rfl,_⟩:=h;rfl) (fun cdv A outer s H vs Q E hr h=>?_)
 unfold zl5 at h
 obtain⟨st,rs,xss,rfl,S,h1,hl,q⟩:=h
 have hu:=hu40 hr
 have sl:=S.len
 obtain⟨r,er⟩:∃ r,rs[0]?=some r:=⟨_,zcq4 (by walk_at "om")⟩
 obtain⟨xs,ex⟩:∃ r,xss[0]?=some r:=⟨_,zcq4 (by walk_at "om")⟩
 rw[show xss.getD 0 []=xs by rw[zcq7,ex];rfl] at hl q
 have R:=S.row 0 r xs er ex
 have rl:=R.len
 refine⟨_,(za6 (zb0 (pB (zbb2 (K:=K) rfl rfl) N.sum_ zah4 (za0 (zf2 (N:=["left","sent","flow"]) (ks:=[none,none,none]) (ze3 (K:=K) rfl (za8 (K:=K) rfl (pq 0) za2)) (fun cl C s3 H3 fp=>(zk4 (K:=K) (n:=3) rfl rfl (zb4 (za7 (i:=0) nb_11 rfl (by first|exact Or.inl rfl|exact Or.inr rfl)) (zb4 (za7 (i:=1) nb_11 rfl (by first|exact Or.inl rfl|exact Or.inr rfl)) (zb4 (za7 (i:=2) nb_11 rfl (by first|exact Or.inl rfl|exact Or.inr rfl)) zk5))))) (fun cl C s3 H3 fp=>zc4) (fun cl C s3 H3 fp=>(pq 2)) (.skip (.skip (.skip .nil)))) za1)))),?_⟩
 refine zb6 (v:=.ref r.1) S.out (zc5 (j:=0) (by rw[zcq8,er];rfl)) ?_
 refine zb8 R.out ?_
 refine zm7 (Wk.list (SqL.of R.out)) (by rw[zcq3,sizeLine_eq];omega) (fun i=>.int (xs.getD i (0,0,0)).2.2) (fun _=>true) (fun j σ=>∃ t u w:Option V,σ=[t,u,w]) ⟨none,none,none,rfl⟩ ?_ ?_
 ·rintro i x σ I R' S' hi s1 hx ⟨_,_,_,rfl⟩ kk _
  rw[zcq8] at hx
  obtain⟨t,et,rfl⟩:=zcr1.mp hx
  obtain⟨z,ez⟩:∃ z,xs[i]?=some z:=⟨_,zcq4 (by have:=(zcq6.mp et).1;omega)⟩
  rw[show xs.getD i (0,0,0)=z by rw[zcq7,ez];rfl] at kk
  refine zd4 (s1 _ _ (R.row i t z et ez)) ?_
  refine br_T ?_
  walk_at "wh"
  exact kk rfl _ _ (Same.refl _) ⟨_,_,_,rfl⟩
 intro acc H1 f1 s1 h1
 rw[ze0,zbr9 (by rw[zcq3];exact rl)] at h1
 refine zag4 h1 ?_
 walk_at "wh"
 exact q _ s1
structure PapS (H:Hp) (p st tb:Addr) (rs:List (Addr×List Addr)) (xss:List (List (Int×Int×Int))) (qs:List Addr) (F k:Nat) (T:Nat->Nat->Int):Prop where
 out:H p=some (.tup [.ref st,.ref tb])
 stm:StW H st rs xss
 tab:zd3 H tb qs F k T
theorem PapS.same {H H':Hp}{p st tb:Addr}{rs:List (Addr×List Addr)}{xss:List (List (Int×Int×Int))}{qs:List Addr}{F k:Nat}{T:Nat->Nat->Int}(A:PapS H p st tb rs xss qs F k T) (s:Same H H'):PapS H' p st tb rs xss qs F k T:=⟨s _ _ A.out,A.stm.same s,A.tab.same s⟩
theorem zaz3 {H:Hp}{a:Addr}{ps:List Addr}{n k:Nat}{g:Nat->Nat->Int}(G:zd3 H a ps n k g):zs1 H a ps ((List.range n).map fun i=>(List.range k).map (g i)):=by
 refine⟨G.out,by rw[zcq3,zct9];exact G.len,fun i p z e1 e2=>?_⟩
 rw[zcq8] at e2
 obtain⟨j,ej,rfl⟩:=zcr1.mp e2
 have:j=i:=by have:=(zcq6.mp ej).2;rw[List.getElem_range] at this;exact this.symm
 subst this
 rw[← zav8]
 exact G.row j p e1
@[irreducible] def zh1:Sp:=fun vs H Q _=>∃ (b l p st tb:Addr) (ps:List Addr) (n m:Nat) (sd:Bool) (fs:List Fd) (rs:List (Addr×List Addr)) (xss:List (List (Int×Int×Int))) (qs:List Addr) (T:Nat->Nat->Int),vs=[.ref b,.str (wd sd),.ref p]/\zh5 H b l ps n m fs/\OkB n m fs/\PapS H p st tb rs xss qs fs.length (othH sd n m+1) T/\zt8 (ownH sd n m) fs.length (stmD xss)=true/\sml (stmD xss)=true/\∀ H',Same H H'->Q .non H'
theorem zan6 {H:Hp}{b l p st tb:Addr}{ps:List Addr}{n m:Nat}{sd:Bool}{fs:List Fd}{rs:List (Addr×List Addr)}{xss:List (List (Int×Int×Int))}{qs:List Addr}{T:Nat->Nat->Int}{Q:VK}{E:XK}(B:zh5 H b l ps n m fs) (O:OkB n m fs) (A:PapS H p st tb rs xss qs fs.length (othH sd n m+1) T) (hs:zt8 (ownH sd n m) fs.length (stmD xss)=true) (hm:sml (stmD xss)=true) (q:∀ H',Same H H'->Q .non H'):zh1 [.ref b,.str (wd sd),.ref p] H Q E:=by
 unfold zh1;exact⟨b,l,p,st,tb,ps,n,m,sd,fs,rs,xss,qs,T,rfl,B,O,A,hs,hm,q⟩
theorem zap8 {f:Addr}{fd:FuncData}(F:Fun K "wrong_form" "wrong_form" zl8 f fd) (N:Nm mg) (zcn5:Def P w K mg base CX0 7 "is_stream" ["hosts","fields","stream"] zi4) (zcl3:Def P w K mg base CX0 3 "is_table" ["many_rows","many_numbers","rows"] zj3) (zck4:Def P w K mg base CX0 1 "other_hosts" ["battle","side"] zd6) (zcn6:Def P w K mg base CX0 1 "own_hosts" ["battle","side"] zi8):FnOk P w K mg base CX0 8 f fd ["battle","side","paper"] zh1:=by
 refine F.ok zy9 (fun vs H Q E h=>by unfold zh1 at h;obtain⟨_,_,_,_,_,_,_,_,_,_,_,_,_,_,rfl,_⟩:=h;rfl) (fun cdv A outer s H vs Q E hr h=>?_)
 unfold zh1 at h
 obtain⟨b,l,p,st,tb,ps,n,m,sd,fs,rs,xss,qs,T,rfl,B,O,PA,hs,hm,q⟩:=h
 have hu:=hu40 hr
 have bl:=B.len
 have o2:=O.2
 obtain⟨ho,hw⟩:=zab5 O sd
 refine⟨_,(za4 (psS (i:=3) zy9.nd (pB (zo8 (K:=K) rfl) N.len_ zg5 (za0 (za8 (K:=K) rfl (pq 0) za2) za1)))
   (za4 (psIf (ptW (pwOr (zr1 (ptV (pB (zah7 (K:=K) rfl) N.isinstance_ zd7 (za0 (pq 2) (za0 (pTy N.tuple_ zan2) za1))))) (zaj8 (ptC (oNeXK (K:=K) rfl (by exact hu)) (pB (zo8 (K:=K) rfl) N.len_ zg5 (za0 (pq 2) za1)) za2)))) (za6 (zb0 (zp3 (za0 zh6 za1)))) zc1)
   (za4 (psIf (zr1 (ptV (pD zcn5 hr zb7 (za0 (pD zcn6 hr zb7 (za0 (pq 0) (za0 (pq 1) za1))) (za0 (pq 3) (za0 (za8 (K:=K) rfl (pq 2) za2) za1)))))) (za6 (zb0 (zp3 (za0 zh6 za1)))) zc1)
   (za4 (psIf (zr1 (ptV (pD zcl3 hr zb7 (za0 (pq 3) (za0 (zb5 oAdd (pD zck4 hr zb7 (za0 (pq 0) (za0 (pq 1) za1))) za2) (za0 (za8 (K:=K) rfl (pq 2) za2) za1)))))) (za6 (zb0 (zp3 (za0 zh6 za1)))) zc1)
   (za6 (zb0 zy3)))))),?_⟩
 refine zb2 (v:=.ref l) B.out rfl ?_
 refine zf3 B.lst ?_
 rw[zcq3,bl]
 refine zae7 PA.out ?_
 refine zd8 (br_T ?_)
 refine zq7 PA.out ?_
 refine zd8 (zt3 rfl ?_)
 refine zaq4 B.out ?_
 refine zb2 (v:=.ref st) PA.out rfl ?_
 refine zbi3 PA.stm.sh hm (fun H1 s1=>?_)
 rw[hs]
 refine zd8 (br_T ?_)
 refine zs5 (s1 _ _ B.out) ?_
 refine zb2 (v:=.ref tb) (s1 _ _ PA.out) rfl ?_
 refine zae1 (zaz3 (PA.tab.same s1)) (by rw[zcq3,zct9];omega) (fun r hr'=>by
  obtain⟨i,_,rfl⟩:=zcs5.mp hr'
  rw[zcq3,zct9];omega) (fun H2 s2=>?_)
 have e:(decide ((((List.range fs.length).map fun i=>(List.range (othH sd n m+1)).map (T i)).length:Int)=(fs.length:Int))&&((List.range fs.length).map fun i=>(List.range (othH sd n m+1)).map (T i)).all fun r=>decide ((r.length:Int)=(othH sd n m:Int)+1))=true:=by
  rw[zcq3,zct9,decide_eq_true rfl,zcv4,zct4]
  intro r hr'
  obtain⟨i,_,rfl⟩:=zcs5.mp hr'
  rw[zcq3,zct9]
  exact decide_eq_true (by push_cast;rfl)
 rw[e]
 refine zd8 (br_T ?_)
 walk_at "wh"
 exact q _ (s1.trans s2)
def bndS (D T:Nat->Nat->Int) (F k c:Nat):List Int:=if k+1<F then (List.range (c+1)).map fun s=>D k s+T (k+1) (c - s) else [D k c]
abbrev Kept (sd:Bool) (fs:List Fd) (xss:List (List (Int×Int×Int))) (T:Nat->Nat->Int) (k c:Nat):Prop:=∀ x∈bndS (fun k=>dueS sd (fs.getD k (.more 0 0)) (xss.getD k [])) T fs.length k c,zo3 sd (T k c) x=true
abbrev zr2 (sd:Bool) (n m:Nat) (fs:List Fd) (xss:List (List (Int×Int×Int))) (T:Nat->Nat->Int):Prop:=∀ k c,k<fs.length->c<=othH sd n m->Kept sd fs xss T k c
@[irreducible] def zf0:Sp:=fun vs H Q _=>∃ (b l p st tb:Addr) (ps:List Addr) (n m:Nat) (sd:Bool) (fs:List Fd) (rs:List (Addr×List Addr)) (xss:List (List (Int×Int×Int))) (qs:List Addr) (T:Nat->Nat->Int),vs=[.ref b,.str (wd sd),.ref p]/\zh5 H b l ps n m fs/\OkB n m fs/\(∀ f∈fs,f.Bd n m)/\PapS H p st tb rs xss qs fs.length (othH sd n m+1) T/\xss.length=fs.length/\(∀ xs∈xss,zu0 (ownH sd n m) xs)/\(zr2 sd n m fs xss T->∀ H',Same H H'->Q .non H')/\(¬ zr2 sd n m fs xss T->∀ r H',H r=none->Same H H'->Q (.ref r) H')
theorem zaf8 {H:Hp}{b l p st tb:Addr}{ps:List Addr}{n m:Nat}{sd:Bool}{fs:List Fd}{rs:List (Addr×List Addr)}{xss:List (List (Int×Int×Int))}{qs:List Addr}{T:Nat->Nat->Int}{Q:VK}{E:XK}(B:zh5 H b l ps n m fs) (O:OkB n m fs) (D:∀ f∈fs,f.Bd n m) (A:PapS H p st tb rs xss qs fs.length (othH sd n m+1) T) (hl:xss.length=fs.length) (ok:∀ xs∈xss,zu0 (ownH sd n m) xs) (q:zr2 sd n m fs xss T->∀ H',Same H H'->Q .non H') (qn:¬ zr2 sd n m fs xss T->∀ r H',H r=none->Same H H'->Q (.ref r) H'):zf0 [.ref b,.str (wd sd),.ref p] H Q E:=by
 unfold zf0;exact⟨b,l,p,st,tb,ps,n,m,sd,fs,rs,xss,qs,T,rfl,B,O,D,A,hl,ok,q,qn⟩
theorem zat2 {sd:Bool}{t:Int}{ns:List Int}{k:Nat}(hk:k=ns.length):((List.range k).map fun i=>V.bl (zo3 sd t (ns.getD i 0)))=(ns.map (zo3 sd t)).map V.bl:=by
 subst hk
 apply zcw2
 intro i
 rw[zcq8,zcq8,zcq8]
 by_cases h:i<ns.length
 ·rw[zcv3 h,zcq4 h]
  simp[h]
 ·rw[zct2 (by simp;omega),zct2 (by walk_at "om")]
  rfl
set_option maxHeartbeats 0 in
theorem zae6 {f:Addr}{fd:FuncData}(F:Fun K "wrong_number" "wrong_number" zi0 f fd) (N:Nm mg) (zcp2:Def P w K mg base CX0 1 "bounds" ["field_dues","behind","count"] zm6) (zcp9:Def P w K mg base CX0 4 "dues" ["battle","side","stream"] zx3) (zco6:Def P w K mg base CX0 1 "keeps" ["side","number","bound"] zs0):FnOk P w K mg base CX0 5 f fd ["battle","side","paper"] zf0:=by
 refine F.ok ze7 (fun vs H Q E h=>by unfold zf0 at h;obtain⟨_,_,_,_,_,_,_,_,_,_,_,_,_,_,rfl,_⟩:=h;rfl) (fun cdv A outer s H vs Q E hr h=>?_)
 unfold zf0 at h
 obtain⟨b,l,p,st,tb,ps,n,m,sd,fs,rs,xss,qs,T,rfl,B,O,D,PA,hl,ok,q,qn⟩:=h
 have hu:=hu40 hr
 have o2:=O.2
 obtain⟨ho,hw⟩:=zab5 O sd
 have tl:=PA.tab.len
 refine⟨_,(za4 (psS (i:=3) ze7.nd (za8 (K:=K) rfl (pq 2) za2))
   (za4 (zt9 PassesOwn.never rfl (zax9 (K:=K) rfl N.enumerate_ (za0 (pD zcp9 hr zb7 (za0 (pq 0) (za0 (pq 1) (za0 (za8 (K:=K) rfl (pq 2) za2) za1)))) za1)) (zk4 (K:=K) (n:=2) rfl rfl (zb4 (za7 (i:=4) ze7.nd rfl (by first|exact Or.inl rfl|exact Or.inr rfl)) (zb4 (za7 (i:=5) ze7.nd rfl (by first|exact Or.inl rfl|exact Or.inr rfl)) zk5))) (za4 (psS (i:=6) ze7.nd (peIf (ptC (oLtX (by exact hu)) (zb5 oAdd (pq 4) za2) (pB (zo8 (K:=K) rfl) N.len_ zg5 (za0 (pq 3) za1))) (za8 (K:=K) rfl (pq 3) (zb5 oAdd (pq 4) za2)) zy3))
   (za6 (zt9 PassesOwn.never rfl (zax9 (K:=K) rfl N.enumerate_ (za0 (za8 (K:=K) rfl (pq 3) (pq 4)) za1)) (zk4 (K:=K) (n:=2) rfl rfl (zb4 (za7 (i:=7) ze7.nd rfl (by first|exact Or.inl rfl|exact Or.inr rfl)) (zb4 (za7 (i:=8) ze7.nd rfl (by first|exact Or.inl rfl|exact Or.inr rfl)) zk5))) (za6 (psIf (zr1 (ptV (pB (zaj3 (K:=K) rfl rfl) N.all_ zw8 (za0 (zf2 (N:=["bound","side","number"]) (ks:=[none,some 1,some 8]) (ze3 (K:=K) rfl (pD zcp2 hr zb7 (za0 (pq 5) (za0 (pq 6) (za0 (pq 7) za1))))) (fun cl C s3 H3 fp=>(za7 (i:=0) nb_16 rfl (by first|exact Or.inl rfl|exact Or.inr rfl))) (fun cl C s3 H3 fp=>zc4) (fun cl C s3 H3 fp=>(pD zco6 hr zb7 (za0 (pq 1) (za0 (pq 2) (za0 (pq 0) za1))))) (.skip (.take rfl rfl (by first|exact Or.inl rfl|exact Or.inr rfl) (.take rfl rfl (by first|exact Or.inl rfl|exact Or.inr rfl) .nil)))) za1)))) (za6 (zb0 (zp3 (za0 zh6 (za0 (pq 4) (za0 (pq 7) za1)))))) zc1))))))
   (za6 (zb0 zy3)))),?_⟩
 refine zb2 (v:=.ref tb) PA.out rfl ?_
 refine zb2 (v:=.ref st) PA.out rfl ?_
 refine zcg2 B O D PA.stm hl ok (fun r gs H1 f1 s1 G1=>?_)
 have gl:=G1.len
 refine zaf4 G1.out ?_
 refine zu2 (xs:=gs.map V.ref) (fun i σ I=>∃ y5 y6 y7 y8 y9:Option V,σ=[some (.ref b),some (.str (wd sd)),some (.ref p),some (.ref tb),y5,y6,y7,y8,y9]/\Same H1 I/\∀ k c,k<i->c<=othH sd n m->Kept sd fs xss T k c) ?_ ?_ ?_ ?_
 ·exact⟨_,_,_,_,_,rfl,Same.refl _,fun k c hk=>absurd hk (Nat.not_lt_zero k)⟩
 ·rintro i σ I _ ⟨_,_,_,_,_,_,sI,_⟩
  exact SqL.of (sI _ _ G1.out)
 ·rintro i y σ I e I' hy ⟨y5,y6,y7,y8,y9,rfl,sI,kp⟩ fe sE he
  rw[zcq8] at hy
  obtain⟨g,eg,rfl⟩:=zcr1.mp hy
  have hi:i<fs.length:=by have:=(zcq6.mp eg).1;omega
  have s1I:=sI.trans sE
  have s0I:=s1.trans s1I
  have hg:=s1I _ _ (G1.row i g eg)
  have PI:=PA.same s0I
  obtain⟨t0,et0,ht0⟩:=PI.tab.some hi
  refine zd4 he ?_
  refine zf3 PI.tab.out ?_
  rw[zcq3,tl]
  walk_at "wh"
  have inner:∀ (bv:V) (Q1:St->Hp->Prop),(bv=.non/\¬ i+1<fs.length∨∃ t1:Addr,bv=.ref t1/\i+1<fs.length/\I' t1=some (.lst (rowV (othH sd n m+1) (T (i+1)))))->True:=fun _ _ _=>trivial
  refine zf5 (fun hl1=>?_) (fun hl1=>?_)
  ·have hi1:i+1<fs.length:=by walk_at "om"
   obtain⟨t1,et1,ht1⟩:=PI.tab.some hi1
   refine zb6 (v:=.ref t1) PI.tab.out (by rw[show (i:Int)+1=((i+1:Nat):Int) by walk_at "om"];exact zc5 (by rw[zcq8,et1];rfl)) ?_
   refine zb6 (v:=.ref t0) PI.tab.out (zc5 (by rw[zcq8,et0];rfl)) ?_
   refine zaf4 ht0 ?_
   refine zu2 (xs:=rowV (othH sd n m+1) (T i)) (fun c σ J=>∃ y8 y9:Option V,σ=[some (.ref b),some (.str (wd sd)),some (.ref p),some (.ref tb),some (.int i),some (.ref g),some (.ref t1),y8,y9]/\Same I' J/\∀ d,d<c->Kept sd fs xss T i d) ?_ ?_ ?_ ?_
   ·exact⟨_,_,rfl,Same.refl _,fun d hd=>absurd hd (Nat.not_lt_zero d)⟩
   ·rintro c σ J _ ⟨_,_,_,sJ,_⟩
    exact SqL.of (sJ _ _ ht0)
   ·rintro c y σ J e2 J' hy ⟨y8,y9,rfl,sJ,kq⟩ fe2 sE2 he2
    have hc:c<othH sd n m+1:=by have:=(zcq6.mp hy).1;rwa [zd0] at this
    rw[zf1 hc] at hy
    cases hy
    have sJ2:=sJ.trans sE2
    refine zd4 he2 ?_
    refine zbg4 (sJ2 _ _ hg) (sJ2 _ _ ht1) hc (by walk_at "om") (fun r3 J3 f3 s3 h3=>?_)
    refine zb8 h3 ?_
    refine zm7 (Wk.list (SqL.of h3)) (by rw[zcq3,zcq3,zct9,sizeLine_eq];omega) (fun j=>.bl (zo3 sd (T i c) (((List.range (c+1)).map fun s=>dueS sd (fs.getD i (.more 0 0)) (xss.getD i []) s+T (i+1) (c - s)).getD j 0))) (fun _=>true) (fun j σ=>∃ t:Option V,σ=[t,some (.str (wd sd)),some (.int (T i c))]) ⟨none,rfl⟩ ?_ ?_
    ·rintro j x σ J4 R' S' hj s4 hx ⟨_,rfl⟩ kk _
     rw[zcq8] at hx
     obtain⟨bd,ebd,rfl⟩:=zcr1.mp hx
     rw[show ((List.range (c+1)).map fun s=>dueS sd (fs.getD i (.more 0 0)) (xss.getD i []) s+T (i+1) (c - s)).getD j 0=bd by rw[zcq7,ebd];rfl] at kk
     refine br_T ?_
     refine zaq0 ?_
     walk_at "wh"
     exact kk rfl _ _ (Same.refl _) ⟨_,rfl⟩
    intro acc J5 f5 s5 h5
    rw[ze0,zat2 (by rw[zcq3])] at h5
    refine zu7 h5 ?_
    have iff:(((List.range (c+1)).map fun s=>dueS sd (fs.getD i (.more 0 0)) (xss.getD i []) s+T (i+1) (c - s)).map (zo3 sd (T i c))).all id=true↔Kept sd fs xss T i c:=by
     rw[zcx6,zct4]
     show _↔∀ x∈bndS (fun k=>dueS sd (fs.getD k (.more 0 0)) (xss.getD k [])) T fs.length i c,zo3 sd (T i c) x=true
     unfold bndS
     rw[if_pos hi1]
     exact Iff.rfl
    cases all:(((List.range (c+1)).map fun s=>dueS sd (fs.getD i (.more 0 0)) (xss.getD i []) s+T (i+1) (c - s)).map (zo3 sd (T i c))).all id
    ·walk_at "wh"
     refine zd8 (br_F ?_)
     refine zd9 (fun r6 J6 f6 s6 h6=>?_)
     walk_at "wh"
     have s05:=((s0I.trans sJ2).trans s3).trans s5
     exact qn (fun ka=>by have:=iff.mpr (ka i c hi (by walk_at "om"));rw[all] at this;cases this) r6 J6 (s05.free f6) (s05.trans s6)
    ·walk_at "wh"
     refine zd8 (br_T ?_)
     walk_at "wh"
     exact⟨_,_,rfl,(sJ2.trans s3).trans s5,fun d hd=>by
      rcases (show d<c∨d=c by walk_at "om") with h|rfl
      ·exact kq d h
      ·exact iff.mp all⟩
   ·rintro σ J ⟨y8,y9,rfl,sJ,kq⟩
    exact⟨_,_,_,_,_,rfl,s1I.trans sJ,fun k c hk hc=>by
     rcases (show k<i∨k=i by walk_at "om") with h|rfl
     ·exact kp k c h hc
     ·exact kq c (by rw[zd0];omega)⟩
  ·have hi1:¬ i+1<fs.length:=by walk_at "om"
   refine zb6 (v:=.ref t0) PI.tab.out (zc5 (by rw[zcq8,et0];rfl)) ?_
   refine zaf4 ht0 ?_
   refine zu2 (xs:=rowV (othH sd n m+1) (T i)) (fun c σ J=>∃ y8 y9:Option V,σ=[some (.ref b),some (.str (wd sd)),some (.ref p),some (.ref tb),some (.int i),some (.ref g),some .non,y8,y9]/\Same I' J/\∀ d,d<c->Kept sd fs xss T i d) ?_ ?_ ?_ ?_
   ·exact⟨_,_,rfl,Same.refl _,fun d hd=>absurd hd (Nat.not_lt_zero d)⟩
   ·rintro c σ J _ ⟨_,_,_,sJ,_⟩
    exact SqL.of (sJ _ _ ht0)
   ·rintro c y σ J e2 J' hy ⟨y8,y9,rfl,sJ,kq⟩ fe2 sE2 he2
    have hc:c<othH sd n m+1:=by have:=(zcq6.mp hy).1;rwa [zd0] at this
    rw[zf1 hc] at hy
    cases hy
    have sJ2:=sJ.trans sE2
    refine zd4 he2 ?_
    refine zbg8 (sJ2 _ _ hg) hc (by walk_at "om") (fun r3 J3 f3 s3 h3=>?_)
    refine zb8 h3 ?_
    refine zm7 (Wk.list (SqL.of h3)) (by rw[sizeLine_eq];simp only[zcs8,List.map_nil,zct0,zcw3];decide) (fun j=>.bl (zo3 sd (T i c) ([dueS sd (fs.getD i (.more 0 0)) (xss.getD i []) c].getD j 0))) (fun _=>true) (fun j σ=>∃ t:Option V,σ=[t,some (.str (wd sd)),some (.int (T i c))]) ⟨none,rfl⟩ ?_ ?_
    ·rintro j x σ J4 R' S' hj s4 hx ⟨_,rfl⟩ kk _
     rw[zcq8] at hx
     obtain⟨bd,ebd,rfl⟩:=zcr1.mp hx
     rw[show [dueS sd (fs.getD i (.more 0 0)) (xss.getD i []) c].getD j 0=bd by rw[zcq7,ebd];rfl] at kk
     refine br_T ?_
     refine zaq0 ?_
     walk_at "wh"
     exact kk rfl _ _ (Same.refl _) ⟨_,rfl⟩
    intro acc J5 f5 s5 h5
    rw[ze0,zat2 (by rw[zcq3])] at h5
    refine zu7 h5 ?_
    have iff:([dueS sd (fs.getD i (.more 0 0)) (xss.getD i []) c].map (zo3 sd (T i c))).all id=true↔Kept sd fs xss T i c:=by
     rw[zcx6,zct4]
     show _↔∀ x∈bndS (fun k=>dueS sd (fs.getD k (.more 0 0)) (xss.getD k [])) T fs.length i c,zo3 sd (T i c) x=true
     unfold bndS
     rw[if_neg hi1]
     exact Iff.rfl
    cases all:([dueS sd (fs.getD i (.more 0 0)) (xss.getD i []) c].map (zo3 sd (T i c))).all id
    ·walk_at "wh"
     refine zd8 (br_F ?_)
     refine zd9 (fun r6 J6 f6 s6 h6=>?_)
     walk_at "wh"
     have s05:=((s0I.trans sJ2).trans s3).trans s5
     exact qn (fun ka=>by have:=iff.mpr (ka i c hi (by walk_at "om"));rw[all] at this;cases this) r6 J6 (s05.free f6) (s05.trans s6)
    ·walk_at "wh"
     refine zd8 (br_T ?_)
     walk_at "wh"
     exact⟨_,_,rfl,(sJ2.trans s3).trans s5,fun d hd=>by
      rcases (show d<c∨d=c by walk_at "om") with h|rfl
      ·exact kq d h
      ·exact iff.mp all⟩
   ·rintro σ J ⟨y8,y9,rfl,sJ,kq⟩
    exact⟨_,_,_,_,_,rfl,s1I.trans sJ,fun k c hk hc=>by
     rcases (show k<i∨k=i by walk_at "om") with h|rfl
     ·exact kp k c h hc
     ·exact kq c (by rw[zd0];omega)⟩
 ·rintro σ I ⟨y5,y6,y7,y8,y9,rfl,sI,kp⟩
  walk_at "wh"
  exact q (fun k c hk hc=>kp k c (by rw[zcq3];omega) hc) _ (s1.trans sI)
@[irreducible] def zg0:Sp:=fun vs H Q _=>∃ (b l p st tb w:Addr) (ps:List Addr) (n m:Nat) (sd:Bool) (fs:List Fd) (rs:List (Addr×List Addr)) (xss:List (List (Int×Int×Int))) (qs:List Addr) (T:Nat->Nat->Int) (w0 w1:Int),vs=[.ref b,.str (wd sd),.ref w,.ref p]/\zh5 H b l ps n m fs/\OkB n m fs/\PapS H p st tb rs xss qs fs.length (othH sd n m+1) T/\xss.length=fs.length/\(xss.getD 0 []).length<=1000/\H w=some (.tup [.int w0,.int w1])/\(-(10 ^ 200)<w0/\w0<10 ^ 200)/\(-(10 ^ 200)<w1/\w1<10 ^ 200)/\(-(10 ^ 200)<T 0 (othH sd n m)/\T 0 (othH sd n m)<10 ^ 200)/\(-(10 ^ 200)<((xss.getD 0 []).map fun z=>z.2.2).sum/\((xss.getD 0 []).map fun z=>z.2.2).sum<10 ^ 200) /\
 (zo3 sd (w0*((xss.getD 0 []).map fun z=>z.2.2).sum) (T 0 (othH sd n m)*w1)=true->∀ H',Same H H'->Q .non H')/\(zo3 sd (w0*((xss.getD 0 []).map fun z=>z.2.2).sum) (T 0 (othH sd n m)*w1)=false->∀ r H',H r=none->Same H H'->H' r=some (.tup [.str "worth"])->Q (.ref r) H')
theorem zaj2 {H:Hp}{b l p st tb w:Addr}{ps:List Addr}{n m:Nat}{sd:Bool}{fs:List Fd}{rs:List (Addr×List Addr)}{xss:List (List (Int×Int×Int))}{qs:List Addr}{T:Nat->Nat->Int}{w0 w1:Int}{Q:VK}{E:XK}(B:zh5 H b l ps n m fs) (O:OkB n m fs) (A:PapS H p st tb rs xss qs fs.length (othH sd n m+1) T) (hl:xss.length=fs.length) (h0:(xss.getD 0 []).length<=1000) (hw:H w=some (.tup [.int w0,.int w1])) (b0:-(10 ^ 200)<w0/\w0<10 ^ 200) (b1:-(10 ^ 200)<w1/\w1<10 ^ 200) (b2:-(10 ^ 200)<T 0 (othH sd n m)/\T 0 (othH sd n m)<10 ^ 200) (b3:-(10 ^ 200)<((xss.getD 0 []).map fun z=>z.2.2).sum/\((xss.getD 0 []).map fun z=>z.2.2).sum<10 ^ 200) (q1:zo3 sd (w0*((xss.getD 0 []).map fun z=>z.2.2).sum) (T 0 (othH sd n m)*w1)=true->∀ H',Same H H'->Q .non H') (q2:zo3 sd (w0*((xss.getD 0 []).map fun z=>z.2.2).sum) (T 0 (othH sd n m)*w1)=false->∀ r H',H r=none->Same H H'->H' r=some (.tup [.str "worth"])->Q (.ref r) H'):zg0 [.ref b,.str (wd sd),.ref w,.ref p] H Q E:=by
 unfold zg0;exact⟨b,l,p,st,tb,w,ps,n,m,sd,fs,rs,xss,qs,T,w0,w1,rfl,B,O,A,hl,h0,hw,b0,b1,b2,b3,q1,q2⟩
set_option maxHeartbeats 0 in
theorem zai0 {f:Addr}{fd:FuncData}(F:Fun K "wrong_worth" "wrong_worth" zk1 f fd) (N:Nm mg) (zco6:Def P w K mg base CX0 1 "keeps" ["side","number","bound"] zs0) (zck4:Def P w K mg base CX0 1 "other_hosts" ["battle","side"] zd6) (zco7:Def P w K mg base CX0 1 "whole_in" ["stream"] zl5):FnOk P w K mg base CX0 2 f fd ["battle","side","worth","paper"] zg0:=by
 refine F.ok zw6 (fun vs H Q E h=>by unfold zg0 at h;obtain⟨_,_,_,_,_,_,_,_,_,_,_,_,_,_,_,_,_,rfl,_⟩:=h;rfl) (fun cdv A outer s H vs Q E hr h=>?_)
 unfold zg0 at h
 obtain⟨b,l,p,st,tb,w,ps,n,m,sd,fs,rs,xss,qs,T,w0,w1,rfl,B,O,PA,hl,h0,hw,b0,b1,b2,b3,q1,q2⟩:=h
 have hu:=hu40 hr
 have o2:=O.2
 obtain⟨t0,et0,ht0⟩:=PA.tab.some (i:=0) (by walk_at "om")
 refine⟨_,(za4 (psS (i:=4) zw6.nd (za8 (K:=K) rfl (za8 (K:=K) rfl (za8 (K:=K) rfl (pq 3) za2) za2) (pD zck4 hr zb7 (za0 (pq 0) (za0 (pq 1) za1)))))
   (za4 (psIf (ptV (pD zco6 hr zb7 (za0 (pq 1) (za0 (zb5 oMul (za8 (K:=K) rfl (pq 2) za2) (pD zco7 hr zb7 (za0 (za8 (K:=K) rfl (pq 3) za2) za1))) (za0 (zb5 oMul (pq 4) (za8 (K:=K) rfl (pq 2) za2)) za1))))) (za6 (zb0 zy3)) zc1)
   (za6 (zb0 (zp3 (za0 zh6 za1)))))),?_⟩
 refine zb2 (v:=.ref tb) PA.out rfl ?_
 refine zb6 (v:=.ref t0) PA.tab.out (zc5 (j:=0) (by rw[zcq8,et0];rfl)) ?_
 refine zs5 B.out ?_
 refine zb6 (v:=.int (T 0 (othH sd n m))) ht0 (zc5 (zf1 (by walk_at "om"))) ?_
 refine zb2 (v:=.int w0) hw rfl ?_
 refine zb2 (v:=.ref st) PA.out rfl ?_
 refine zba0 PA.stm (by walk_at "om") h0 (fun H1 s1=>?_)
 refine zu6 (zp6 (by walk_at "om") (by walk_at "om") (by walk_at "om") (by walk_at "om")) ?_
 refine zb2 (v:=.int w1) (s1 _ _ hw) rfl ?_
 refine zu6 (zp6 (by walk_at "om") (by walk_at "om") (by walk_at "om") (by walk_at "om")) ?_
 refine zaq0 ?_
 cases ek:zo3 sd (w0*((xss.getD 0 []).map fun z=>z.2.2).sum) (T 0 (othH sd n m)*w1)
 ·walk_at "wh"
  refine br_F ?_
  refine zd9 (fun r H2 f2 s2 h2=>?_)
  walk_at "wh"
  exact q2 ek r H2 (s1.free f2) (s1.trans s2) h2
 ·walk_at "wh"
  refine br_T ?_
  walk_at "wh"
  exact q1 ek _ s1
@[irreducible] def zq8:Sp:=fun vs H Q _=>∃ (b w l p st tb:Addr) (ps:List Addr) (n m:Nat) (sd:Bool) (fs:List Fd) (rs:List (Addr×List Addr)) (xss:List (List (Int×Int×Int))) (qs:List Addr) (T:Nat->Nat->Int) (w0 w1:Int),vs=[.ref b,.str (wd sd),.ref w,.ref p]/\zh5 H b l ps n m fs/\OkB n m fs/\(∀ f∈fs,f.Bd n m)/\PapS H p st tb rs xss qs fs.length (othH sd n m+1) T/\zt8 (ownH sd n m) fs.length (stmD xss)=true/\sml (stmD xss)=true/\xss.length=fs.length/\(∀ xs∈xss,zu0 (ownH sd n m) xs) /\
   H w=some (.tup [.int w0,.int w1])/\(-(10 ^ 200)<w0/\w0<10 ^ 200)/\(-(10 ^ 200)<w1/\w1<10 ^ 200)/\(-(10 ^ 200)<T 0 (othH sd n m)/\T 0 (othH sd n m)<10 ^ 200)/\(-(10 ^ 200)<((xss.getD 0 []).map fun z=>z.2.2).sum/\((xss.getD 0 []).map fun z=>z.2.2).sum<10 ^ 200) /\
   (zr2 sd n m fs xss T->zo3 sd (w0*((xss.getD 0 []).map fun z=>z.2.2).sum) (T 0 (othH sd n m)*w1)=true->∀ H',Same H H'->Q .non H')/\(¬ (zr2 sd n m fs xss T/\zo3 sd (w0*((xss.getD 0 []).map fun z=>z.2.2).sum) (T 0 (othH sd n m)*w1)=true)->∀ r H',H r=none->Same H H'->Q (.ref r) H')
theorem zau0 {H:Hp}{b l p st tb w:Addr}{ps:List Addr}{n m:Nat}{sd:Bool}{fs:List Fd}{rs:List (Addr×List Addr)}{xss:List (List (Int×Int×Int))}{qs:List Addr}{T:Nat->Nat->Int}{w0 w1:Int}{Q:VK}{E:XK}(B:zh5 H b l ps n m fs) (O:OkB n m fs) (D:∀ f∈fs,f.Bd n m) (A:PapS H p st tb rs xss qs fs.length (othH sd n m+1) T) (hs:zt8 (ownH sd n m) fs.length (stmD xss)=true) (hm:sml (stmD xss)=true) (hl:xss.length=fs.length) (ok:∀ xs∈xss,zu0 (ownH sd n m) xs)
  (hw:H w=some (.tup [.int w0,.int w1])) (b0:-(10 ^ 200)<w0/\w0<10 ^ 200) (b1:-(10 ^ 200)<w1/\w1<10 ^ 200) (b2:-(10 ^ 200)<T 0 (othH sd n m)/\T 0 (othH sd n m)<10 ^ 200) (b3:-(10 ^ 200)<((xss.getD 0 []).map fun z=>z.2.2).sum/\((xss.getD 0 []).map fun z=>z.2.2).sum<10 ^ 200)
  (q1:zr2 sd n m fs xss T->zo3 sd (w0*((xss.getD 0 []).map fun z=>z.2.2).sum) (T 0 (othH sd n m)*w1)=true->∀ H',Same H H'->Q .non H') (q2:¬ (zr2 sd n m fs xss T/\zo3 sd (w0*((xss.getD 0 []).map fun z=>z.2.2).sum) (T 0 (othH sd n m)*w1)=true)->∀ r H',H r=none->Same H H'->Q (.ref r) H'):zq8 [.ref b,.str (wd sd),.ref w,.ref p] H Q E:=by
 unfold zq8;exact⟨b,w,l,p,st,tb,ps,n,m,sd,fs,rs,xss,qs,T,w0,w1,rfl,B,O,D,A,hs,hm,hl,ok,hw,b0,b1,b2,b3,q1,q2⟩
set_option maxHeartbeats 0 in
theorem zbl5 {f:Addr}{fd:FuncData}(F:Fun K "judged" "judged" zw0 f fd) (N:Nm mg) (zcl1:Def P w K mg base (CXR P w) 6 "look_battle" ["battle"] (ze1 zck0)) (zcn7:Def P w K mg base (CXR P w) 1 "look_side" ["side"] (zi3 zck2)) (zcm4:Def P w K mg base CX0 8 "wrong_form" ["battle","side","paper"] zh1) (zcl7:Def P w K mg base CX0 5 "wrong_number" ["battle","side","paper"] zf0) (zcm1:Def P w K mg base CX0 2 "wrong_worth" ["battle","side","worth","paper"] zg0):FnOk P w K mg base CX0 9 f fd ["battle","side","worth","paper"] zq8:=by
 refine F.ok zz6 (fun vs H Q E h=>by unfold zq8 at h;obtain⟨_,_,_,_,_,_,_,_,_,_,_,_,_,_,_,_,_,rfl,_⟩:=h;rfl) (fun cdv A outer s H vs Q E hr h=>?_)
 unfold zq8 at h
 obtain⟨b,w,l,p,st,tb,ps,n,m,sd,fs,rs,xss,qs,T,w0,w1,rfl,B,O,D,PA,hs,hm,hl,ok,hw,b0,b1,b2,b3,q1,q2⟩:=h
 have hu:=hu40 hr
 refine⟨_,(za4 (zs6 (pD zcl1 hr zbs0 (za0 (pq 0) za1)))
   (za4 (zs6 (pD zcn7 hr zbs0 (za0 (pq 1) za1)))
   (za4 (psS (i:=4) zz6.nd (pD zcm4 hr zb7 (za0 (pq 0) (za0 (pq 1) (za0 (pq 3) za1)))))
   (za4 (psCut (psIf (ptC oIsX (pq 4) zy3) (za6 (psS (i:=4) zz6.nd (pD zcl7 hr zb7 (za0 (pq 0) (za0 (pq 1) (za0 (pq 3) za1)))))) zc1))
   (za4 (psCut (psIf (ptC oIsX (pq 4) zy3) (za6 (psS (i:=4) zz6.nd (pD zcm1 hr zb7 (za0 (pq 0) (za0 (pq 1) (za0 (pq 2) (za0 (pq 3) za1))))))) zc1))
   (za6 (zb0 (pq 4)))))))),?_⟩
 have o2:=O.2
 refine zw5 B O (fun H1 s1=>?_)
 refine zaw3 (fun H2 s2=>?_)
 have s02:=s1.trans s2
 refine zan6 (B.same s02) O (PA.same s02) hs hm (fun H3 s3=>?_)
 have s03:=s02.trans s3
 refine zbj8 (fun σ J=>(σ=[some (.ref b),some (.str (wd sd)),some (.ref w),some (.ref p),some .non]/\Same H J/\zr2 sd n m fs xss T)∨∃ r,σ=[some (.ref b),some (.str (wd sd)),some (.ref w),some (.ref p),some (.ref r)]/\Q (.ref r) J) ?_ ?_
 ·walk_at "wh"
  first|refine br_T ?_|refine zt3 rfl ?_
  refine zaf8 (B.same s03) O D (PA.same s03) hl ok (fun ka H4 s4=>?_) (fun ka r H4 f4 s4=>?_)
  ·walk_at "wh"
   exact .inl ⟨rfl,s03.trans s4,ka⟩
  ·walk_at "wh"
   exact .inr ⟨r,rfl,q2 (fun z=>ka z.1) r H4 (s03.free f4) (s03.trans s4)⟩
 rintro σ H4 (⟨rfl,s04,ka⟩|⟨r,rfl,qr⟩)
 ·walk_at "wh"
  refine zbj8 (fun σ J=>(σ=[some (.ref b),some (.str (wd sd)),some (.ref w),some (.ref p),some .non]/\Q .non J)∨∃ r,σ=[some (.ref b),some (.str (wd sd)),some (.ref w),some (.ref p),some (.ref r)]/\Q (.ref r) J) ?_ ?_
  ·walk_at "wh"
   first|refine br_T ?_|refine zt3 rfl ?_
   refine zaj2 (B.same s04) O (PA.same s04) hl (by
    obtain⟨x0,ex0⟩:∃ x,xss[0]?=some x:=⟨_,zcq4 (by walk_at "om")⟩
    rw[show xss.getD 0 []=x0 by rw[zcq7,ex0];rfl]
    exact (ok x0 (zcr0 ex0)).1) (s04 _ _ hw) b0 b1 b2 b3 (fun ek H5 s5=>?_) (fun ek r H5 f5 s5 h5=>?_)
   ·walk_at "wh"
    exact .inl ⟨rfl,q1 ka ek _ (s04.trans s5)⟩
   ·walk_at "wh"
    exact .inr ⟨r,rfl,q2 (fun z=>by rw[ek] at z;cases z.2) r _ (s04.free f5) (s04.trans s5)⟩
  rintro σ H5 (⟨rfl,q⟩|⟨r,rfl,q⟩)
  ·walk_at "wh"
   exact q
  ·walk_at "wh"
   exact q
 ·walk_at "wh"
  refine zbj8 (fun σ J=>σ=[some (.ref b),some (.str (wd sd)),some (.ref w),some (.ref p),some (.ref r)]/\Q (.ref r) J) ?_ ?_
  ·walk_at "wh"
   first|refine br_F ?_|refine zr8 (by decide) ?_|refine zr8 (fun z=>by cases z) ?_
   walk_at "wh"
   exact⟨rfl,qr⟩
  rintro σ H5 ⟨rfl,q⟩
  walk_at "wh"
  exact q
def lg (t b:Int):Int:=if b<0 then 0 - (t.gcd b:Int) else (t.gcd b:Int)
def lowT (t b:Int):Int:=t.fdiv (lg t b)
def lowB (t b:Int):Int:=b.fdiv (lg t b)
theorem zbs6 {t b:Int}(h:b≠0):0<(t.gcd b:Int):=by
 have:0<t.gcd b:=Int.gcd_pos_of_ne_zero_right _ h
 omega
theorem gcd_le {t b:Int}(h:b≠0):(t.gcd b:Int)<=b.natAbs:=by
 have:=Int.gcd_le_natAbs_right t h
 omega
theorem zbc1 (t b:Int):lg t b∣t:=by
 unfold lg;split
 ·rw[Int.zero_sub];exact Int.neg_dvd.mpr (Int.gcd_dvd_left _ _)
 ·exact Int.gcd_dvd_left _ _
theorem zbb8 (t b:Int):lg t b∣b:=by
 unfold lg;split
 ·rw[Int.zero_sub];exact Int.neg_dvd.mpr (Int.gcd_dvd_right _ _)
 ·exact Int.gcd_dvd_right _ _
theorem zbs9 (t b:Int):lowT t b=t / lg t b:=Int.fdiv_eq_ediv_of_dvd (zbc1 t b)
theorem zbp5 (t b:Int):lowB t b=b / lg t b:=Int.fdiv_eq_ediv_of_dvd (zbb8 t b)
theorem zcg9 (t b:Int):(lowT t b).natAbs<=t.natAbs:=by rw[zbs9];exact Int.natAbs_ediv_le_natAbs _ _
theorem zce2 (t b:Int):(lowB t b).natAbs<=b.natAbs:=by rw[zbp5];exact Int.natAbs_ediv_le_natAbs _ _
theorem zbe0 (t b:Int):b=lg t b*lowB t b:=by rw[zbp5];exact (Int.mul_ediv_cancel' (zbb8 t b)).symm
theorem zbe4 (t b:Int):t=lg t b*lowT t b:=by rw[zbs9];exact (Int.mul_ediv_cancel' (zbc1 t b)).symm
theorem zbt8 {x y:Int}(hx:0<=x) (hy:0<y):y.gcd (x % y)=x.gcd y:=by
 rw[Int.gcd_eq_natAbs_gcd_natAbs,Int.gcd_eq_natAbs_gcd_natAbs,Int.natAbs_emod_of_nonneg hx]
 exact (Nat.gcd_comm _ _).trans ((Nat.gcd_rec _ _).symm.trans (Nat.gcd_comm _ _))
theorem zcf8 {x y:Int}(hx:0<=x) (hy:y=0):((x.gcd y:Nat):Int)=x:=by
 subst hy;rw[Int.gcd_zero_right];omega
@[irreducible] def zf8:Sp:=fun vs H Q _=>∃ t b:Int,vs=[.int t,.int b]/\0<b/\b<10 ^ 100/\∀ p H',H p=none->Same H H'->H' p=some (.tup [.int (lowT t b),.int (lowB t b)])->Q (.ref p) H'
theorem zat5 {H:Hp}{t b:Int}{Q:VK}{E:XK}(h0:0<b) (h2:b<10 ^ 100) (q:∀ p H',H p=none->Same H H'->H' p=some (.tup [.int (lowT t b),.int (lowB t b)])->Q (.ref p) H'):zf8 [.int t,.int b] H Q E:=by
 unfold zf8;exact⟨t,b,rfl,h0,h2,q⟩
theorem zci5 (t b:Int):b.gcd (t % b)=t.gcd b:=by
 have e:t % b=t+b*(-(t / b)):=by
  rw[Int.emod_def,Int.mul_neg];rfl
 rw[e,Int.gcd_add_mul_left_right,Int.gcd_comm]
theorem zai8 {f:Addr}{fd:FuncData}(F:Fun K "_law_lowest" "_law_lowest" zj8 f fd) (N:Nm mg):FnOk P w K mg base CX0 1 f fd ["_law_top","_law_bottom"] zf8:=by
 refine F.ok zo5 (fun vs H Q E h=>by unfold zf8 at h;obtain⟨n,k,rfl,_⟩:=h;rfl) (fun cdv A outer s H vs Q E hr h=>?_)
 unfold zf8 at h
 obtain⟨t,b,rfl,hb,hb2,q⟩:=h
 refine⟨_,(za4 (psS (i:=2) zo5.nd (pq 1))
   (za4 (psS (i:=3) zo5.nd (zb5 oMod (pq 0) (pq 1)))
   (za4 (zch8 PassesOwn.never (ptC oGt (pq 3) za2) (za6 (psPar (i:=2) (j:=3) rfl zo5.nd rfl rfl (by decide) rfl rfl (za0 (pq 3) (za0 (zb5 oMod (pq 2) (pq 3)) za1)) rfl)))
   (za6 (zb0 (zp3 (za0 (zb5 oDiv (pq 0) (pq 2)) (za0 (zb5 oDiv (pq 1) (pq 2)) za1)))))))),?_⟩
 refine zbs3 (by walk_at "om") ?_
 refine zbw4 (fun σ H2=>∃ x y:Int,σ=[some (.int t),some (.int b),some (.int x),some (.int y)]/\H2=H/\0<=x/\0<=y/\x.gcd y=t.gcd b) (fun σ _=>match σ with | [_,_,_,some (.int y)]=>y.toNat|_=>0) ?_ ?_
 ·exact⟨_,_,rfl,rfl,by walk_at "om",Int.emod_nonneg t (by walk_at "om"),zci5 t b⟩
 ·rintro σ H2 ⟨x,y,rfl,rfl,hx,hy,hg⟩
  walk_at "wh"
  refine zcf9 (fun h=>?_) (fun h=>?_)
  ·walk_at "wh"
   refine zbs3 (by walk_at "om") ?_
   walk_at "wh"
   have h1:=Int.emod_nonneg x (show y≠0 by walk_at "om")
   have h2:=Int.emod_lt_of_pos x h
   refine⟨⟨_,_,rfl,rfl,hy,h1,?_⟩,?_⟩
   ·rw[zbt8 hx h];exact hg
   ·show (x % y).toNat<y.toNat
    omega
  ·have hy0:y=0:=by walk_at "om"
   have e:x=(t.gcd b:Int):=by rw[← hg];exact (zcf8 hx hy0).symm
   have g1:=zbs6 (t:=t) (b:=b) (by walk_at "om")
   have g2:=gcd_le (t:=t) (b:=b) (by walk_at "om")
   have el:x=lg t b:=by unfold lg;rw[if_neg (by walk_at "om"),e]
   refine zbr7 (by walk_at "om") (by walk_at "om") (by walk_at "om") ?_
   refine zbr7 (by walk_at "om") (by walk_at "om") (by walk_at "om") ?_
   refine zd9 (fun p H' hf hs ha=>?_)
   rw[el] at ha
   exact q _ _ hf hs ha
def sdI (sd:Bool):Int:=if sd then 1 else 0
@[irreducible] def zi6:Sp:=fun vs H Q _=>∃ (b l st:Addr) (ps:List Addr) (n m:Nat) (sd:Bool) (fs:List Fd) (rs:List (Addr×List Addr)) (xss:List (List (Int×Int×Int))),vs=[.ref b,.int (sdI sd),.ref st]/\zh5 H b l ps n m fs/\OkB n m fs/\(∀ f∈fs,f.Bd n m)/\StW H st rs xss/\xss.length=fs.length/\(∀ xs∈xss,zu0 (ownH sd n m) xs)/\∀ (r:Addr) (qs:List Addr) (H':Hp),H r=none->Same H H'->zd3 H' r qs fs.length (othH sd n m+1) (fun k=>dueS sd (fs.getD k (.more 0 0)) (xss.getD k []))->Q (.ref r) H'
theorem zbv2 {H:Hp}{b l st:Addr}{ps:List Addr}{n m:Nat}{sd:Bool}{fs:List Fd}{rs:List (Addr×List Addr)}{xss:List (List (Int×Int×Int))}{Q:VK}{E:XK}(B:zh5 H b l ps n m fs) (O:OkB n m fs) (D:∀ f∈fs,f.Bd n m) (S:StW H st rs xss) (hl:xss.length=fs.length) (ok:∀ xs∈xss,zu0 (ownH sd n m) xs) (q:∀ (r:Addr) (qs:List Addr) (H':Hp),H r=none->Same H H'->zd3 H' r qs fs.length (othH sd n m+1) (fun k=>dueS sd (fs.getD k (.more 0 0)) (xss.getD k []))->Q (.ref r) H'):zi6 [.ref b,.int (sdI sd),.ref st] H Q E:=by
 unfold zi6;exact⟨b,l,st,ps,n,m,sd,fs,rs,xss,rfl,B,O,D,S,hl,ok,q⟩
theorem zau2 {xs:List (Int×Int×Int)}{sd:Bool}{f:Fd}{c i:Nat}{z:Int×Int×Int}(e:xs[i]?=some z):dueS sd f (xs.take (i+1)) c=dueS sd f (xs.take i) c+z.2.2*wonS sd f z.2.1.toNat c:=by
 unfold dueS
 rw[List.take_succ,e,zcs3,zcy5]
 simp
set_option maxHeartbeats 0 in
theorem zaw8 {f:Addr}{fd:FuncData}(F:Fun K "_law_dues" "_law_dues" zm9 f fd) (N:Nm mg) (zcn8:Def P w K mg base CX0 1 "_law_paid" ["_law_field","_law_x","_law_y"] zi9):FnOk P w K mg base CX0 2 f fd ["_law_battle_here","_law_side","_law_stream"] zi6:=by
 refine F.ok zd2 (fun vs H Q E h=>by unfold zi6 at h;obtain⟨_,_,_,_,_,_,_,_,_,_,rfl,_⟩:=h;rfl) (fun cdv A outer s H vs Q E hr h=>?_)
 unfold zi6 at h
 obtain⟨b,l,st,ps,n,m,sd,fs,rs,xss,rfl,B,O,D,S,hl,ok,q⟩:=h
 have hu:=hu40 hr
 have bl:=B.len
 have sl:=S.len
 have o1:=O.1
 have o2:=O.2
 obtain⟨ho,hw⟩:=zab5 O sd
 refine⟨_,(za4 (psS (i:=3) zd2.nd (zk8 za1))
   (za4 (zt9 PassesOwn.never rfl (zr5 N.range_ (za0 (pB (zo8 (K:=K) rfl) N.len_ zg5 (za0 (za8 (K:=K) rfl (pq 0) za2) za1)) za1)) (za7 (i:=4) zd2.nd rfl (by first|exact Or.inl rfl|exact Or.inr rfl)) (za4 (psS (i:=5) zd2.nd (zk8 za1))
   (za4 (zt9 PassesOwn.never rfl (zr5 N.range_ (za0 (zb5 oAdd (za8 (K:=K) rfl (zk8 (za0 (za8 (K:=K) rfl (pq 0) za2) (za0 (za8 (K:=K) rfl (pq 0) za2) za1))) (pq 1)) za2) za1)) (za7 (i:=6) zd2.nd rfl (by first|exact Or.inl rfl|exact Or.inr rfl)) (za4 (psS (i:=7) zd2.nd za2)
   (za4 (zt9 PassesOwn.never rfl (ze3 (K:=K) rfl (za8 (K:=K) rfl (pq 2) (pq 4))) (zk4 (K:=K) (n:=3) rfl rfl (zb4 (za7 (i:=8) zd2.nd rfl (by first|exact Or.inl rfl|exact Or.inr rfl)) (zb4 (za7 (i:=9) zd2.nd rfl (by first|exact Or.inl rfl|exact Or.inr rfl)) (zb4 (za7 (i:=10) zd2.nd rfl (by first|exact Or.inl rfl|exact Or.inr rfl)) zk5)))) (za4 (zav0 (za8 (K:=K) rfl (zk8 (za0 (zp3 (za0 (pq 9) (za0 (pq 6) za1))) (za0 (zp3 (za0 (pq 6) (za0 (pq 9) za1))) za1))) (pq 1)) (zk4 (K:=K) (n:=2) rfl rfl (zb4 (za7 (i:=11) zd2.nd rfl (by first|exact Or.inl rfl|exact Or.inr rfl)) (zb4 (za7 (i:=12) zd2.nd rfl (by first|exact Or.inl rfl|exact Or.inr rfl)) zk5))))
   (za6 (psS (i:=7) zd2.nd (zb5 oAdd (pq 7) (zb5 oMul (pq 10) (pD zcn8 hr zb7 (za0 (za8 (K:=K) rfl (za8 (K:=K) rfl (pq 0) za2) (pq 4)) (za0 (pq 11) (za0 (pq 12) za1))))))))))
   (za6 (zs6 (zq6 (pq 5) (za0 (pq 7) za1)))))))
   (za6 (zs6 (zq6 (pq 3) (za0 (pq 5) za1)))))))
   (za6 (zb0 (pq 3))))),?_⟩
 refine zc7 (fun fo H1 f1 s1 h1=>?_)
 refine zb2 (v:=.ref l) (s1 _ _ B.out) rfl ?_
 refine zf3 (s1 _ _ B.lst) ?_
 rw[zcq3,bl]
 refine zh3 (by decide) (by decide) (by walk_at "om") (by walk_at "om") ?_
 rw[show ((fs.length:Int) - 0).toNat=fs.length by walk_at "om"]
 refine zn7 (fun k σ I=>∃ (y5 y6 y7 y8 y9 y10 y11 y12 y13:Option V) (qs:List Addr),σ=[some (.ref b),some (.int (sdI sd)),some (.ref st),some (.ref fo),y5,y6,y7,y8,y9,y10,y11,y12,y13]/\Same H I/\I fo=some (.lst (qs.map V.ref))/\qs.length=k/\∀ (i:Nat) q',qs[i]?=some q'->q'≠fo/\I q'=some (.lst (rowV (othH sd n m+1) (dueS sd (fs.getD i (.more 0 0)) (xss.getD i []))))) ?_ ?_ ?_
 ·exact⟨_,_,_,_,_,_,_,_,_,[],rfl,s1,h1,rfl,fun i q' e=>by simp at e⟩
 ·rintro k σ I hk ⟨y5,y6,y7,y8,y9,y10,y11,y12,y13,qs,rfl,sI,hfo,ql,qr⟩
  have hk:k<fs.length:=hk
  obtain⟨f,ef⟩:∃ f,fs[k]?=some f:=⟨_,zcq4 hk⟩
  obtain⟨p,ep⟩:∃ p,ps[k]?=some p:=⟨_,zcq4 (by walk_at "om")⟩
  obtain⟨r,er⟩:∃ r,rs[k]?=some r:=⟨_,zcq4 (by walk_at "om")⟩
  obtain⟨xs,ex⟩:∃ r,xss[k]?=some r:=⟨_,zcq4 (by walk_at "om")⟩
  obtain⟨fdk,fok⟩:=B.fld k p f ep ef
  have fbd:=D f (zcr0 ef)
  have okx:=ok xs (zcr0 ex)
  have R:=S.row k r xs er ex
  have rl:=R.len
  have gk:fs.getD k (.more 0 0)=f:=by rw[zcq7,ef];rfl
  have gx:xss.getD k []=xs:=by rw[zcq7,ex];rfl
  refine zc7 (fun so H2 f2 s2 h2=>?_)
  have s02:=sI.trans s2
  have nso:so≠fo:=Ne.symm (za5 hfo f2)
  refine zb2 (v:=.int m) (s02 _ _ B.out) rfl ?_
  refine zb2 (v:=.int n) (s02 _ _ B.out) rfl ?_
  refine zc7 (fun p3 H3 f3 s3 h3=>?_)
  have s03:=s02.trans s3
  refine zb6 (v:=.int (othH sd n m)) h3 (by cases sd<;>rfl) ?_
  refine zh3 (by decide) (by decide) (by walk_at "om") (by walk_at "om") ?_
  rw[show ((othH sd n m:Int)+1 - 0).toNat=othH sd n m+1 by walk_at "om"]
  refine zn7 (fun c σ J=>∃ (y7 y8 y9 y10 y11 y12 y13:Option V),σ=[some (.ref b),some (.int (sdI sd)),some (.ref st),some (.ref fo),some (.int (0+(k:Int))),some (.ref so),y7,y8,y9,y10,y11,y12,y13]/\Same I J/\J so=some (.lst (rowV c (dueS sd f xs)))) ?_ ?_ ?_
  ·exact⟨_,_,_,_,_,_,_,rfl,s2.trans s3,s3 _ _ h2⟩
  ·rintro c σ J hc ⟨z7,z8,z9,z10,z11,z12,z13,rfl,sJ,hso⟩
   have hc:c<othH sd n m+1:=hc
   have s0J:=sI.trans sJ
   refine zb6 (v:=.ref r.1) (s0J _ _ S.out) (by rw[zcx7];exact zc5 (by rw[zcq8,er];rfl)) ?_
   refine zb8 (s0J _ _ R.out) ?_
   refine zm8 (xs:=r.2.map V.ref) (fun i σ L=>∃ (y9 y10 y11 y12 y13:Option V),σ=[some (.ref b),some (.int (sdI sd)),some (.ref st),some (.ref fo),some (.int (0+(k:Int))),some (.ref so),some (.int (0+(c:Int))),some (.int (dueS sd f (xs.take i) c)),y9,y10,y11,y12,y13]/\Same J L) ?_ ?_ ?_ ?_
   ·exact⟨_,_,_,_,_,rfl,Same.refl _⟩
   ·rintro i σ L _ ⟨_,_,_,_,_,_,sL⟩
    exact SqL.of (sL _ _ (s0J _ _ R.out))
   ·rintro i v σ L hi ⟨w9,w10,w11,w12,w13,rfl,sL⟩
    rw[zcq8] at hi
    obtain⟨t,et,rfl⟩:=zcr1.mp hi
    obtain⟨z,ez⟩:∃ z,xs[i]?=some z:=⟨_,zcq4 (by have:=(zcq6.mp et).1;omega)⟩
    obtain⟨zb,zf⟩:=okx.2 z (zcr0 ez)
    have s0L:=s0J.trans sL
    refine zd4 (s0L _ _ (R.row i t z et ez)) ?_
    refine zd9 (fun p4 L4 f4 s4 h4=>?_)
    refine zd9 (fun p5 L5 f5 s5 h5=>?_)
    refine zc7 (fun p6 L6 f6 s6 h6=>?_)
    have s46:=(s4.trans s5).trans s6
    have BL:=B.same (s0L.trans s46)
    have FL:=fdk.same (s0L.trans s46)
    rw[zcx7] at h4 h5
    cases sd
    ·have zb:0<=z.2.1/\z.2.1<=(n:Int):=zb
     have hc:c<m+1:=hc
     have wb:=Fd.won_bd fok fbd (x:=z.2.1.toNat) (y:=c) (by walk_at "om") (by walk_at "om")
     have h4:L4 p4=some (.tup [.int ((z.2.1.toNat:Nat):Int),.int ((c:Nat):Int)]):=by rw[h4,show ((z.2.1.toNat:Nat):Int)=z.2.1 by walk_at "om"]
     refine zb6 (v:=.ref p4) h6 rfl ?_
     refine zd4 ((s5.trans s6) _ _ h4) ?_
     refine zb2 (v:=.ref l) BL.out rfl ?_
     refine zb6 (v:=.ref p) BL.lst (by rw[zcx7];exact zc5 (by rw[zcq8,ep];rfl)) ?_
     refine zbr6 FL (by walk_at "om") (by walk_at "om") (fun L7 s7=>?_)
     refine zu6 (zp6 (by walk_at "om") (by walk_at "om") (by walk_at "om") (by walk_at "om")) ?_
     walk_at "wh"
     refine⟨some (.int z.1),some (.int z.2.1),some (.int z.2.2),some (.int ((z.2.1.toNat:Nat):Int)),some (.int (c:Int)),?_,(sL.trans s46).trans s7⟩
     rw[zau2 ez]
     rfl
    ·have zb:0<=z.2.1/\z.2.1<=(m:Int):=zb
     have hc:c<n+1:=hc
     have wb:=Fd.won_bd fok fbd (x:=c) (y:=z.2.1.toNat) (by walk_at "om") (by walk_at "om")
     have h5:L5 p5=some (.tup [.int ((c:Nat):Int),.int ((z.2.1.toNat:Nat):Int)]):=by rw[h5,show ((z.2.1.toNat:Nat):Int)=z.2.1 by walk_at "om"]
     refine zb6 (v:=.ref p5) h6 rfl ?_
     refine zd4 (s6 _ _ h5) ?_
     refine zb2 (v:=.ref l) BL.out rfl ?_
     refine zb6 (v:=.ref p) BL.lst (by rw[zcx7];exact zc5 (by rw[zcq8,ep];rfl)) ?_
     refine zbr6 FL (by walk_at "om") (by walk_at "om") (fun L7 s7=>?_)
     refine zu6 (zp6 (by walk_at "om") (by walk_at "om") (by walk_at "om") (by walk_at "om")) ?_
     walk_at "wh"
     refine⟨some (.int z.1),some (.int z.2.1),some (.int z.2.2),some (.int (c:Int)),some (.int ((z.2.1.toNat:Nat):Int)),?_,(sL.trans s46).trans s7⟩
     rw[zau2 ez]
     rfl
   ·rintro σ L ⟨w9,w10,w11,w12,w13,rfl,sL⟩
    rw[zcq3,rl,zcy2]
    have hso':=sL _ _ hso
    refine zak5 hso' ?_
    refine zaj7 hso' (by rw[zd0,sizeLine_eq];omega) (fun L2 c2 h2'=>?_)
    walk_at "wh"
    refine⟨_,_,_,_,_,_,_,rfl,(sJ.trans sL).chg f2 c2,?_⟩
    rw[h2']
    unfold rowV
    rw[zcy4,zcs3]
    rfl
  ·rintro σ J ⟨z7,z8,z9,z10,z11,z12,z13,rfl,sJ,hso⟩
   have hfo':=sJ _ _ hfo
   refine zak5 hfo' ?_
   refine zaj7 hfo' (by rw[zcq3,sizeLine_eq];omega) (fun J2 c2 h2'=>?_)
   walk_at "wh"
   refine⟨_,_,_,_,_,_,_,_,_,qs++[so],rfl,(sI.trans sJ).chg f1 c2,by rw[h2',zcs3];rfl,by rw[zcr6,ql];rfl,fun i q' e=>?_⟩
   rcases zc9 e with ⟨e1,e2⟩|⟨e1,rfl⟩
   ·obtain⟨g1,g2⟩:=qr i q' e2
    exact⟨g1,c2 _ _ g1 (sJ _ _ g2)⟩
   ·rw[e1,ql,gk,gx]
    exact⟨nso,c2 _ _ nso hso⟩
 ·rintro σ I ⟨y5,y6,y7,y8,y9,y10,y11,y12,y13,qs,rfl,sI,hfo,ql,qr⟩
  walk_at "wh"
  exact q fo qs I f1 sI ⟨hfo,ql,fun i q' e=>(qr i q' e).2⟩
@[irreducible] def zg9:Sp:=fun vs H Q _=>∃ (o t:Addr) (os ts:List Addr) (F w k c:Nat) (D T:Nat->Nat->Int),vs=[.ref o,.ref t,.int k,.int c]/\zd3 H o os F w D/\zd3 H t ts F w T/\k<F/\c<w/\w<=100/\∀ r H',H r=none->Same H H'->H' r=some (.lst ((bndS D T F k c).map V.int))->Q (.ref r) H'
theorem zbx6 {H:Hp}{o t:Addr}{os ts:List Addr}{F w k c:Nat}{D T:Nat->Nat->Int}{Q:VK}{E:XK}(G:zd3 H o os F w D) (G':zd3 H t ts F w T) (hk:k<F) (hc:c<w) (hw:w<=100) (q:∀ r H',H r=none->Same H H'->H' r=some (.lst ((bndS D T F k c).map V.int))->Q (.ref r) H'):zg9 [.ref o,.ref t,.int k,.int c] H Q E:=by
 unfold zg9;exact⟨o,t,os,ts,F,w,k,c,D,T,rfl,G,G',hk,hc,hw,q⟩
theorem zan0 {f:Addr}{fd:FuncData}(F:Fun K "_law_comes" "_law_comes" zm2 f fd) (N:Nm mg):FnOk P w K mg base CX0 1 f fd ["_law_owed","_law_table_here","_law_k","_law_rest"] zg9:=by
 refine F.ok zam0 (fun vs H Q E h=>by unfold zg9 at h;obtain⟨_,_,_,_,_,_,_,_,_,_,rfl,_⟩:=h;rfl) (fun cdv A outer s H vs Q E hr h=>?_)
 unfold zg9 at h
 obtain⟨o,t,os,ts,F',w,k,c,D,T,rfl,G,G',hk,hc,hw,q⟩:=h
 have hu:=hu40 hr
 obtain⟨ok,eok,hok⟩:=G.some hk
 refine⟨_,(za4 (psIf (ptC (zai5 (K:=K) rfl (by exact hu)) (pq 2) (zb5 oSub (pB (zo8 (K:=K) rfl) N.len_ zg5 (za0 (pq 0) za1)) za2)) (za6 (zb0 (zk8 (za0 (za8 (K:=K) rfl (za8 (K:=K) rfl (pq 0) (pq 2)) (pq 3)) za1)))) zc1)
   (za6 (zb0 (zf2 (N:=["_law_sent","_law_owed","_law_k","_law_table_here","_law_rest"]) (ks:=[none,some 0,some 2,some 1,some 3]) (zr5 N.range_ (za0 (zb5 oAdd (pq 3) za2) za1)) (fun cl C s3 H3 fp=>(za7 (i:=0) nb_23 rfl (by first|exact Or.inl rfl|exact Or.inr rfl))) (fun cl C s3 H3 fp=>zc4) (fun cl C s3 H3 fp=>(zb5 oAdd (za8 (K:=K) rfl (za8 (K:=K) rfl (pq 1) (pq 2)) (pq 0)) (za8 (K:=K) rfl (za8 (K:=K) rfl (pq 3) (zb5 oAdd (pq 2) za2)) (zb5 oSub (pq 4) (pq 0))))) (.skip (.take rfl rfl (by first|exact Or.inl rfl|exact Or.inr rfl) (.take rfl rfl (by first|exact Or.inl rfl|exact Or.inr rfl) (.take rfl rfl (by first|exact Or.inl rfl|exact Or.inr rfl) (.take rfl rfl (by first|exact Or.inl rfl|exact Or.inr rfl) .nil))))))))),?_⟩
 refine zf3 G.out ?_
 rw[zcq3,G.len]
 refine zf5 (fun e=>?_) (fun e=>?_)
 ·walk_at "wh"
  refine zb6 (v:=.ref ok) G.out (zc5 (by rw[zcq8,eok];rfl)) ?_
  refine zb6 (v:=.int (D k c)) hok (zc5 (zf1 hc)) ?_
  refine zc7 (fun r H1 f1 s1 h1=>?_)
  walk_at "wh"
  exact q r H1 f1 s1 (by unfold bndS;rw[if_neg (by walk_at "om")];exact h1)
 ·have hk1:k+1<F':=by walk_at "om"
  obtain⟨tk,etk,htk⟩:=G'.some hk1
  refine zh3 (by walk_at "om") (by walk_at "om") (by walk_at "om") (by walk_at "om") ?_
  rw[show ((c:Int)+1 - 0).toNat=c+1 by walk_at "om"]
  refine zm7 (n:=c+1) Wk.range (by rw[sizeLine_eq];omega) (fun i=>.int (D k i+T (k+1) (c - i))) (fun _=>true) (fun j σ=>∃ x:Option V,σ=[x,some (.ref o),some (.int k),some (.ref t),some (.int c)]) ⟨none,rfl⟩ ?_ ?_
  ·rintro i x σ I R' S hi s1 hx ⟨_,rfl⟩ kk _
   obtain rfl:x=.int i:=by rw[hx,zcx7]
   refine br_T ?_
   refine zb6 (v:=.ref ok) (s1 _ _ G.out) (zc5 (by rw[zcq8,eok];rfl)) ?_
   refine zb6 (v:=.int (D k i)) (s1 _ _ hok) (zc5 (zf1 (by walk_at "om"))) ?_
   refine zb6 (v:=.ref tk) (s1 _ _ G'.out) (by rw[show (k:Int)+1=((k+1:Nat):Int) by walk_at "om"];exact zc5 (by rw[zcq8,etk];rfl)) ?_
   refine zb6 (v:=.int (T (k+1) (c - i))) (s1 _ _ htk) (by rw[show (c:Int) - (i:Int)=((c - i:Nat):Int) by walk_at "om"];exact zc5 (zf1 (by walk_at "om"))) ?_
   walk_at "wh"
   exact kk rfl _ _ (Same.refl _) ⟨_,rfl⟩
  intro acc H1 f1 s1 h1
  rw[ze0] at h1
  walk_at "wh"
  exact q acc H1 f1 s1 (by unfold bndS;rw[if_pos hk1,h1,zct5];rfl)
theorem zac5 (sd:Bool) (fs:List Fd) (xss:List (List (Int×Int×Int))):(zc6 sd fs xss).length=fs.length:=by unfold zc6;rw[zcq3,zct9]
theorem zk9 {sd:Bool}{fs:List Fd}{xss:List (List (Int×Int×Int))}{k:Nat}(hk:k<fs.length):(zc6 sd fs xss).drop k=dueS sd (fs.getD k (.more 0 0)) (xss.getD k []) :: (zc6 sd fs xss).drop (k+1):=by
 rw[List.drop_eq_getElem_cons (by rw[zac5];exact hk)]
 congr 1
 unfold zc6
 rw[List.getElem_map,List.getElem_range]
theorem zbe8 {sd:Bool}{fs:List Fd}{xss:List (List (Int×Int×Int))}{k c:Nat}{T:Nat->Nat->Int}(hk:k<fs.length) (hT:k+1<fs.length->∀ c',T (k+1) c'=tabR sd ((zc6 sd fs xss).drop (k+1)) c'):bndS (fun k=>dueS sd (fs.getD k (.more 0 0)) (xss.getD k [])) T fs.length k c=zaf1 sd ((zc6 sd fs xss).drop k) c:=by
 unfold bndS
 rw[zk9 hk]
 by_cases h:k+1<fs.length
 ·rw[if_pos h]
  have e:∀ s,T (k+1) (c - s)=tabR sd (dueS sd (fs.getD (k+1) (.more 0 0)) (xss.getD (k+1) []) :: (zc6 sd fs xss).drop (k+1+1)) (c - s):=fun s=>by rw[hT h,zk9 h]
  rw[zk9 h]
  exact zcs6 fun s _=>by rw[e]
 ·rw[if_neg h,zcx4 (by rw[zac5];omega)]
  rfl
theorem zao8 {sd:Bool}{fs:List Fd}{xss:List (List (Int×Int×Int))}{k:Nat}(hk:k<fs.length):(zc6 sd fs xss).drop k≠[]:=by rw[zk9 hk];simp
theorem zbw3 (k:Nat):(List.replicate k [V.int 0]).flatten=rowV k fun _=>0:=by
 induction k with
 | zero=>rfl
 | succ k ih=>rw[List.replicate_succ',List.flatten_append,ih,zbp3];simp
def tbN (sd:Bool) (fs:List Fd) (xss:List (List (Int×Int×Int))) (k c:Nat):Nat->Nat->Int:=fun i d=>if k<i∨i=k/\d<c then tabR sd ((zc6 sd fs xss).drop i) d else 0
@[irreducible] def zg6:Sp:=fun vs H Q _=>∃ (b l st:Addr) (ps:List Addr) (n m:Nat) (sd:Bool) (fs:List Fd) (rs:List (Addr×List Addr)) (xss:List (List (Int×Int×Int))),vs=[.ref b,.int (sdI sd),.ref st]/\zh5 H b l ps n m fs/\OkB n m fs/\(∀ f∈fs,f.Bd n m)/\StW H st rs xss/\xss.length=fs.length/\(∀ xs∈xss,zu0 (ownH sd n m) xs)/\∀ (r:Addr) (qs:List Addr) (H':Hp),Same H H'->zd3 (nw H H') r qs fs.length (othH sd n m+1) (fun k=>tabR sd ((zc6 sd fs xss).drop k))->Q (.ref r) H'
theorem zby2 {H:Hp}{b l st:Addr}{ps:List Addr}{n m:Nat}{sd:Bool}{fs:List Fd}{rs:List (Addr×List Addr)}{xss:List (List (Int×Int×Int))}{Q:VK}{E:XK}(B:zh5 H b l ps n m fs) (O:OkB n m fs) (D:∀ f∈fs,f.Bd n m) (S:StW H st rs xss) (hl:xss.length=fs.length) (ok:∀ xs∈xss,zu0 (ownH sd n m) xs) (q:∀ (r:Addr) (qs:List Addr) (H':Hp),Same H H'->zd3 (nw H H') r qs fs.length (othH sd n m+1) (fun k=>tabR sd ((zc6 sd fs xss).drop k))->Q (.ref r) H'):zg6 [.ref b,.int (sdI sd),.ref st] H Q E:=by
 unfold zg6;exact⟨b,l,st,ps,n,m,sd,fs,rs,xss,rfl,B,O,D,S,hl,ok,q⟩
set_option maxHeartbeats 0 in
theorem zam5 {f:Addr}{fd:FuncData}(F:Fun K "_law_table" "_law_table" zm1 f fd) (N:Nm mg) (zcm5:Def P w K mg base CX0 1 "_law_comes" ["_law_owed","_law_table_here","_law_k","_law_rest"] zg9) (zcn9:Def P w K mg base CX0 2 "_law_dues" ["_law_battle_here","_law_side","_law_stream"] zi6):FnOk P w K mg base CX0 3 f fd ["_law_battle_here","_law_side","_law_stream"] zg6:=by
 refine F.ok zj6 (fun vs H Q E h=>by unfold zg6 at h;obtain⟨_,_,_,_,_,_,_,_,_,_,rfl,_⟩:=h;rfl) (fun cdv A outer s H vs Q E hr h=>?_)
 unfold zg6 at h
 obtain⟨b,l,st,ps,n,m,sd,fs,rs,xss,rfl,B,O,D,S,hl,ok,q⟩:=h
 have hu:=hu40 hr
 have o1:=O.1
 have o2:=O.2
 obtain⟨ho,hw⟩:=zab5 O sd
 refine⟨_,(za4 (psS (i:=3) zj6.nd (pD zcn9 hr zb7 (za0 (pq 0) (za0 (pq 1) (za0 (pq 2) za1)))))
   (za4 (psC (i:=4) (N:=["_law_row"]) (ks:=[none]) zj6.nd (ze3 (K:=K) rfl (pq 3)) (fun cl C s3 H3 fp=>(za7 (i:=0) nb_24 rfl (by first|exact Or.inl rfl|exact Or.inr rfl))) (fun cl C s3 H3 fp=>zc4) (fun cl C s3 H3 fp=>(zb5 oMul (zk8 (za0 za2 za1)) (pB (zo8 (K:=K) rfl) N.len_ zg5 (za0 (pq 0) za1)))) (.skip .nil))
   (za4 (zt9 PassesOwn.never rfl (piRevR N.reversed_ N.range_ (za0 (pB (zo8 (K:=K) rfl) N.len_ zg5 (za0 (pq 3) za1)) za1)) (za7 (i:=5) zj6.nd rfl (by first|exact Or.inl rfl|exact Or.inr rfl)) (za6 (zt9 PassesOwn.never rfl (zr5 N.range_ (za0 (pB (zo8 (K:=K) rfl) N.len_ zg5 (za0 (za8 (K:=K) rfl (pq 3) (pq 5)) za1)) za1)) (za7 (i:=6) zj6.nd rfl (by first|exact Or.inl rfl|exact Or.inr rfl)) (za4 (psS (i:=7) zj6.nd (pD zcm5 hr zb7 (za0 (pq 3) (za0 (pq 4) (za0 (pq 5) (za0 (pq 6) za1))))))
   (za6 (zav0 (za8 (K:=K) rfl (zk8 (za0 (pB (cMinK (K:=K) rfl rfl) N.min_ zcc1 (za0 (pq 7) za1)) (za0 (pB (cMaxK (K:=K) rfl rfl) N.max_ zcb5 (za0 (pq 7) za1)) za1))) (pq 1)) (zbm7 (za8 (K:=K) rfl (pq 4) (pq 5)) (pq 6) setM)))))))
   (za6 (zb0 (pq 4)))))),?_⟩
 refine zbv2 B O D S hl ok (fun o os H1 f1 s1 G=>?_)
 have ol:=G.len
 refine zb8 G.out ?_
 refine zac0 (n:=(os.map V.ref).length) (Wk.list (SqL.of G.out)) (by rw[zcq3,sizeLine_eq];omega) (fun _=>.lst (rowV (othH sd n m+1) fun _=>0)) (fun j σ=>∃ t:Option V,σ=[t]) ⟨none,rfl⟩ ?_ ?_
 ·rintro i x σ I R' S' hi sI hx ⟨_,rfl⟩ kk
  rw[zcq8] at hx
  obtain⟨y,ey,rfl⟩:=zcr1.mp hx
  refine br_T ?_
  refine zc7 (fun p2 I2 f2 s2 h2=>?_)
  refine zf3 ((sI.trans s2) _ _ (G.row i y ey)) ?_
  rw[zd0]
  refine rep_rd h2 (by walk_at "om") (by walk_at "om") (by rw[sizeLine_eq];simp only[zct0,zcw3];omega) (fun p3 I3 f3 s3 h3=>?_)
  rw[zbw3,zcx1] at h3
  walk_at "wh"
  exact kk _ p3 I3 (s2.free f3) (s2.trans s3) h3 ⟨_,rfl⟩
 intro t ts H2 FL
 rw[zcq3,ol] at FL
 refine zf3 (FL.same _ _ G.out) ?_
 rw[zcq3,ol]
 refine zcj4 (by walk_at "om") (by walk_at "om") ?_
 rw[zcx1]
 have tbl:∀ {I:Hp}{T:Nat->Nat->Int},I t=some (.lst (ts.map V.ref))->(∀ (i:Nat) p,ts[i]?=some p->I p=some (.lst (rowV (othH sd n m+1) (T i))))->zd3 I t ts fs.length (othH sd n m+1) T:=fun h1 h2=>⟨h1,FL.len,h2⟩
 refine zay4 (fun j σ I=>∃ (y6 y7 y8:Option V),σ=[some (.ref b),some (.int (sdI sd)),some (.ref st),some (.ref o),some (.ref t),y6,y7,y8]/\Same H1 I/\zd3 I t ts fs.length (othH sd n m+1) (fun i d=>if fs.length<=i+j then tabR sd ((zc6 sd fs xss).drop i) d else 0)) ?_ ?_ ?_
 ·refine⟨_,_,_,rfl,FL.same,tbl FL.out fun i p e=>?_⟩
  rw[(FL.row i p e).2]
  have:=(zcq6.mp e).1
  have tl:=FL.len
  exact congrArg some (congrArg HO.lst (zv9 fun c _=>by rw[if_neg (by walk_at "om")]))
 ·rintro j σ I hj ⟨y6,y7,y8,rfl,sI,GI⟩
  have hj:j<fs.length:=hj
  obtain⟨k,ek⟩:∃ k:Nat,k+j+1=fs.length:=⟨fs.length - 1 - j,by walk_at "om"⟩
  have hk:k<fs.length:=by walk_at "om"
  rw[show ((fs.length:Int) - 1 - (j:Int))=(k:Int) by walk_at "om"]
  obtain⟨ok',eok,hok⟩:=G.some hk
  obtain⟨tk,etk,_⟩:=GI.some hk
  have ntk:t≠tk:=fun e=>FL.nin (e▸zcr0 etk)
  have ftk:H1 tk=none:=(FL.row k tk etk).1
  refine zb6 (v:=.ref ok') (sI _ _ G.out) (zc5 (by rw[zcq8,eok];rfl)) ?_
  refine zf3 (sI _ _ hok) ?_
  rw[zd0]
  refine zh3 (by decide) (by decide) (by walk_at "om") (by walk_at "om") ?_
  rw[show (((othH sd n m+1:Nat):Int) - 0).toNat=othH sd n m+1 by walk_at "om"]
  refine zn7 (fun c σ J=>∃ (y7 y8:Option V),σ=[some (.ref b),some (.int (sdI sd)),some (.ref st),some (.ref o),some (.ref t),some (.int k),y7,y8]/\Same H1 J/\zd3 J t ts fs.length (othH sd n m+1) (tbN sd fs xss k c)) ?_ ?_ ?_
  ·refine⟨_,_,rfl,sI,GI.ext fun i d hi hd=>?_⟩
   unfold tbN
   by_cases h:k<i
   ·rw[if_pos (by walk_at "om"),if_pos (.inl h)]
   ·rw[if_neg (by walk_at "om"),if_neg (by walk_at "om")]
  ·rintro c σ J hc ⟨z7,z8,rfl,sJ,GJ⟩
   have hc:c<othH sd n m+1:=hc
   rw[zcx7]
   refine zbx6 (G.same sJ) GJ hk hc (by walk_at "om") (fun r3 J3 f3 s3 h3=>?_)
   have ce:=zbe8 (sd:=sd) (xss:=xss) (c:=c) (T:=tbN sd fs xss k c) hk (fun _ c'=>by unfold tbN;rw[if_pos (.inl (by walk_at "om"))])
   rw[ce] at h3
   obtain⟨te,tn⟩:=zap9 sd (zao8 (sd:=sd) (xss:=xss) hk) c
   refine zbm4 (SqL.of h3) (List.length_pos_iff.mpr tn) (fun M1 hM1 hm1=>?_)
   refine zbn9 (SqL.of h3) (List.length_pos_iff.mpr tn) (fun M2 hM2 hm2=>?_)
   refine zc7 (fun p4 J4 f4 s4 h4=>?_)
   walk_at "wh"
   have em:tabR sd ((zc6 sd fs xss).drop k) c=if sd then M2 else M1:=by
    rw[te]
    cases sd
    ·exact (zah3 (sd:=false) hM1 hm1).symm
    ·exact (zah3 (sd:=true) hM2 hm2).symm
   refine zb6 (v:=.int (tabR sd ((zc6 sd fs xss).drop k) c)) h4 (by rw[em];cases sd<;>rfl) ?_
   have s34:=s3.trans s4
   have G4:=GJ.same s34
   refine zb6 (v:=.ref tk) G4.out (zc5 (by rw[zcq8,etk];rfl)) ?_
   refine zbc8 (j:=c) (G4.row k tk etk) (by unfold ixN;rw[zd0,if_pos (by walk_at "om"),if_pos (by walk_at "om"),zcx1]) (fun J5 c5 h5=>?_)
   rw[zbd0] at h5
   walk_at "wh"
   refine⟨_,_,rfl,(sJ.trans s34).chg ftk c5,tbl (c5 _ _ ntk G4.out) fun i p e=>?_⟩
   by_cases hik:i=k
   ·subst hik
    have:p=tk:=by rw[etk] at e;exact (Option.some.inj e).symm
    subst this
    rw[h5]
    refine congrArg some (congrArg HO.lst (zv9 fun d _=>?_))
    unfold tbN
    by_cases hd:d=c
    ·rw[if_pos hd,if_pos (.inr ⟨rfl,by walk_at "om"⟩),hd]
    ·rw[if_neg hd]
     by_cases hd2:d<c
     ·rw[if_pos (.inr ⟨rfl,hd2⟩),if_pos (.inr ⟨rfl,by walk_at "om"⟩)]
     ·rw[if_neg (by walk_at "om"),if_neg (by walk_at "om")]
   ·have np:p≠tk:=fun e2=>by
     subst e2
     have l1:=(zcq6.mp e)
     have l2:=(zcq6.mp etk)
     exact hik ((List.getElem_inj FL.nd).mp (l1.2.trans l2.2.symm))
    rw[c5 _ _ np (G4.row i p e)]
    refine congrArg some (congrArg HO.lst (zv9 fun d _=>?_))
    unfold tbN
    by_cases h:k<i
    ·rw[if_pos (.inl h),if_pos (.inl h)]
    ·rw[if_neg (by walk_at "om"),if_neg (by walk_at "om")]
  ·rintro σ J ⟨z7,z8,rfl,sJ,GJ⟩
   walk_at "wh"
   refine⟨_,_,_,rfl,sJ,GJ.ext fun i d hi hd=>?_⟩
   unfold tbN
   by_cases h:k<=i
   ·rw[if_pos (by walk_at "om"),if_pos (by walk_at "om")]
   ·rw[if_neg (by walk_at "om"),if_neg (by walk_at "om")]
 ·rintro σ I ⟨y6,y7,y8,rfl,sI,GI⟩
  walk_at "wh"
  have GN:zd3 (nw H I) t ts fs.length (othH sd n m+1) (fun i d=>if fs.length<=i+fs.length then tabR sd ((zc6 sd fs xss).drop i) d else 0):=⟨zu4 (s1.free FL.facc) GI.out,GI.len,fun i p e=>zu4 (s1.free (FL.row i p e).1) (GI.row i p e)⟩
  exact q t ts I (s1.trans sI) (GN.ext fun i d _ _=>by rw[if_pos (by walk_at "om")])
theorem zbd3 {H:Hp}{a:Addr}{ns:List Int}(h:H a=some (.lst (ns.map V.int))):ShV H (.ref a) (.list (ns.map PyData.int)):=.lst h (ShL.idx (by rw[zcq3,zcq3]) fun i x d e1 e2=>by
 rw[zcq8] at e1 e2
 obtain⟨y,ey,rfl⟩:=zcr1.mp e1
 rw[ey] at e2
 cases e2
 exact .int _)
theorem zau3 {ns:List Int}{h:Int}{f:Nat}(nn:∀ x∈ns,0<=x) (hl:ns.length=f) (hs:ns.sum=h):zbf1 h f (.list (ns.map PyData.int))=true:=by
 unfold zbf1
 rw[zak1,decide_eq_true (show ((ns.length:Nat):Int)=f by rw[hl]),decide_eq_true hs,Bool.and_true,Bool.and_true]
 show (ns.map PyData.int).all (zu1 0)=true
 rw[zcx6,zct4]
 exact fun x hx=>decide_eq_true (nn x hx)
theorem zbe5 {ns:List Int}(h:ns.length<=1000):sml (.list (ns.map PyData.int))=true:=(okD.list (n:=0) (by rw[zcq3];exact h) fun d hd=>by
 obtain⟨y,_,rfl⟩:=zcs5.mp hd
 exact⟨rfl,rfl,zcu4 _⟩).1
structure Pln (h f:Nat) (ns:List Int):Prop where
 nn:∀ x∈ns,0<=x
 len:ns.length=f
 sum:ns.sum=h
def zas6 (fs:List Fd) (xs ys:List Int):Int:=((List.range fs.length).map fun k=>(fs.getD k (.more 0 0)).won (xs.getD k 0).toNat (ys.getD k 0).toNat).sum
@[irreducible] def zg8:Sp:=fun vs H Q _=>∃ (b l p1 p2:Addr) (ps:List Addr) (a c:Nat) (fs:List Fd) (xs ys:List Int),vs=[.ref b,.ref p1,.ref p2]/\zh5 H b l ps a c fs/\OkB a c fs/\H p1=some (.lst (xs.map V.int))/\H p2=some (.lst (ys.map V.int))/\Pln a fs.length xs/\Pln c fs.length ys/\∀ H',Same H H'->Q .non H'
theorem zan7 {H:Hp}{b l p1 p2:Addr}{ps:List Addr}{a c:Nat}{fs:List Fd}{xs ys:List Int}{Q:VK}{E:XK}(B:zh5 H b l ps a c fs) (O:OkB a c fs) (h1:H p1=some (.lst (xs.map V.int))) (h2:H p2=some (.lst (ys.map V.int))) (P1:Pln a fs.length xs) (P2:Pln c fs.length ys) (q:∀ H',Same H H'->Q .non H'):zg8 [.ref b,.ref p1,.ref p2] H Q E:=by
 unfold zg8;exact⟨b,l,p1,p2,ps,a,c,fs,xs,ys,rfl,B,O,h1,h2,P1,P2,q⟩
theorem zam1 {f:Addr}{fd:FuncData}(F:Fun K "look_plans" "look_plans" zm3 f fd) (N:Nm mg) (zco2:Def P w K mg base CX0 4 "is_plan" ["hosts","fields","plan"] zo2) (Z:Cz K mg base zck3 zck0 zck8 zck2 zck6):FnOk P w K mg base CX0 5 f fd ["battle","one","other"] zg8:=by
 refine F.ok zy8 (fun vs H Q E h=>by unfold zg8 at h;obtain⟨_,_,_,_,_,_,_,_,_,_,rfl,_⟩:=h;rfl) (fun cdv A outer s H vs Q E hr h=>?_)
 unfold zg8 at h
 obtain⟨b,l,p1,p2,ps,a,c,fs,xs,ys,rfl,B,O,h1,h2,P1,P2,q⟩:=h
 have bl:=B.len
 have o2:=O.2
 have l1:=P1.len
 have l2:=P2.len
 refine⟨_,(za4 (psS (i:=3) zy8.nd (pB (zo8 (K:=K) rfl) N.len_ zg5 (za0 (za8 (K:=K) rfl (pq 0) za2) za1)))
   (za6 (psIf (ptW (pwOr (zr1 (ptV (pD zco2 hr zb7 (za0 (za8 (K:=K) rfl (pq 0) za2) (za0 (pq 3) (za0 (pq 1) za1)))))) (zaj8 (zr1 (ptV (pD zco2 hr zb7 (za0 (za8 (K:=K) rfl (pq 0) za2) (za0 (pq 3) (za0 (pq 2) za1))))))))) (za6 zbu4) zc1))),?_⟩
 refine zb2 (v:=.ref l) B.out rfl ?_
 refine zf3 B.lst ?_
 rw[zcq3,bl]
 refine zb2 (v:=.int a) B.out rfl ?_
 refine zbc4 (zbd3 h1) (zbe5 (by walk_at "om")) (fun H1 s1=>?_)
 rw[zau3 P1.nn l1 P1.sum]
 refine zd8 (br_T ?_)
 refine zb2 (v:=.int c) (s1 _ _ B.out) rfl ?_
 refine zbc4 (zbd3 (s1 _ _ h2)) (zbe5 (by walk_at "om")) (fun H2 s2=>?_)
 rw[zau3 P2.nn l2 P2.sum]
 refine zd8 (br_T ?_)
 walk_at "wh"
 exact q _ (s1.trans s2)
@[irreducible] def zh2:Sp:=fun vs H Q _=>∃ (b l p1 p2:Addr) (ps:List Addr) (a c:Nat) (fs:List Fd) (xs ys:List Int),vs=[.ref l,.ref p1,.ref p2]/\zh5 H b l ps a c fs/\OkB a c fs/\H p1=some (.lst (xs.map V.int))/\H p2=some (.lst (ys.map V.int))/\Pln a fs.length xs/\Pln c fs.length ys/\∀ H',Same H H'->Q (.int (zas6 fs xs ys)) H'
theorem zal9 {H:Hp}{b l p1 p2:Addr}{ps:List Addr}{a c:Nat}{fs:List Fd}{xs ys:List Int}{Q:VK}{E:XK}(B:zh5 H b l ps a c fs) (O:OkB a c fs) (h1:H p1=some (.lst (xs.map V.int))) (h2:H p2=some (.lst (ys.map V.int))) (P1:Pln a fs.length xs) (P2:Pln c fs.length ys) (q:∀ H',Same H H'->Q (.int (zas6 fs xs ys)) H'):zh2 [.ref l,.ref p1,.ref p2] H Q E:=by
 unfold zh2;exact⟨b,l,p1,p2,ps,a,c,fs,xs,ys,rfl,B,O,h1,h2,P1,P2,q⟩
theorem zam8 {f:Addr}{fd:FuncData}(F:Fun K "won_in_all" "won_in_all" zl7 f fd) (N:Nm mg) (zcp7:Def P w K mg base CX0 1 "won" ["field","x","y"] zab3):FnOk P w K mg base CX0 2 f fd ["fields","one","other"] zh2:=by
 refine F.ok zao9 (fun vs H Q E h=>by unfold zh2 at h;obtain⟨_,_,_,_,_,_,_,_,_,_,rfl,_⟩:=h;rfl) (fun cdv A outer s H vs Q E hr h=>?_)
 unfold zh2 at h
 obtain⟨b,l,p1,p2,ps,a,c,fs,xs,ys,rfl,B,O,h1,h2,P1,P2,q⟩:=h
 have bl:=B.len
 have o2:=O.2
 have l1:=P1.len
 have l2:=P2.len
 refine⟨_,(za6 (zb0 (pB (zbb2 (K:=K) rfl rfl) N.sum_ zah4 (za0 (zf2 (N:=["field","x","y"]) (ks:=[none,none,none]) (zch2 (K:=K) rfl N.zip_ (za0 (pq 0) (za0 (pq 1) (za0 (pq 2) za1)))) (fun cl C s3 H3 fp=>(zk4 (K:=K) (n:=3) rfl rfl (zb4 (za7 (i:=0) nb_3 rfl (by first|exact Or.inl rfl|exact Or.inr rfl)) (zb4 (za7 (i:=1) nb_3 rfl (by first|exact Or.inl rfl|exact Or.inr rfl)) (zb4 (za7 (i:=2) nb_3 rfl (by first|exact Or.inl rfl|exact Or.inr rfl)) zk5))))) (fun cl C s3 H3 fp=>zc4) (fun cl C s3 H3 fp=>(pD zcp7 hr zb7 (za0 (pq 0) (za0 (pq 1) (za0 (pq 2) za1))))) (.skip (.skip (.skip .nil)))) za1)))),?_⟩
 refine zcg1 (SqL.of B.lst) (SqL.of h1) (SqL.of h2) ?_
 refine zm7 (Wk.zip3 (n:=fs.length) (SqL.of B.lst) (SqL.of h1) (SqL.of h2) (by rw[zcq3,bl]) (by rw[zcq3,l1]) (by rw[zcq3,l2])) (by rw[sizeLine_eq];omega) (fun i=>.int ((fs.getD i (.more 0 0)).won (xs.getD i 0).toNat (ys.getD i 0).toNat)) (fun _=>true) (fun j σ=>∃ t u v:Option V,σ=[t,u,v]) ⟨none,none,none,rfl⟩ ?_ ?_
 ·rintro j v σ H1 R S hj s1 ⟨t,u1,u2,u3,rfl,ht,e1,e2,e3⟩ ⟨t',u',v',rfl⟩ k _
  obtain⟨p,f,rfl,ep,ef,hf,ok⟩:=(B.same s1).elt e1
  rw[zcq8] at e2 e3
  obtain⟨x,ex,rfl⟩:=zcr1.mp e2
  obtain⟨y,ey,rfl⟩:=zcr1.mp e3
  have x0:=P1.nn x (zcr0 ex)
  have y0:=P2.nn y (zcr0 ey)
  have xm:=(zj4 P1.nn).1 x (zcr0 ex)
  have ym:=(zj4 P2.nn).1 y (zcr0 ey)
  rw[P1.sum] at xm
  rw[P2.sum] at ym
  rw[show fs.getD j (.more 0 0)=f by rw[zcq7,ef];rfl,show xs.getD j 0=x by rw[zcq7,ex];rfl,show ys.getD j 0=y by rw[zcq7,ey];rfl] at k
  obtain⟨x',rfl⟩:∃ x':Nat,x=x':=⟨x.toNat,by walk_at "om"⟩
  obtain⟨y',rfl⟩:∃ y':Nat,y=y':=⟨y.toNat,by walk_at "om"⟩
  refine zd4 ht ?_
  refine br_T ?_
  refine zbm3 hf (by walk_at "om") (by walk_at "om") ?_
  walk_at "wh"
  exact k rfl _ _ (Same.refl _) ⟨_,_,_,rfl⟩
 intro acc H1 f1 s1 h1'
 rw[ze0] at h1'
 refine zag4 (ns:=(List.range fs.length).map fun k=>(fs.getD k (.more 0 0)).won (xs.getD k 0).toNat (ys.getD k 0).toNat) (by rw[h1',zct5];rfl) ?_
 walk_at "wh"
 exact q _ s1
@[irreducible] def zw9:Sp:=fun vs H Q _=>∃ (b l p1 p2:Addr) (ps:List Addr) (a c:Nat) (fs:List Fd) (xs ys:List Int),vs=[.ref b,.ref p1,.ref p2]/\zh5 H b l ps a c fs/\OkB a c fs/\H p1=some (.lst (xs.map V.int))/\H p2=some (.lst (ys.map V.int))/\Pln a fs.length xs/\Pln c fs.length ys/\∀ H',Same H H'->Q (.int (zas6 fs xs ys)) H'
theorem zbm2 {H:Hp}{b l p1 p2:Addr}{ps:List Addr}{a c:Nat}{fs:List Fd}{xs ys:List Int}{Q:VK}{E:XK}(B:zh5 H b l ps a c fs) (O:OkB a c fs) (h1:H p1=some (.lst (xs.map V.int))) (h2:H p2=some (.lst (ys.map V.int))) (P1:Pln a fs.length xs) (P2:Pln c fs.length ys) (q:∀ H',Same H H'->Q (.int (zas6 fs xs ys)) H'):zw9 [.ref b,.ref p1,.ref p2] H Q E:=by
 unfold zw9;exact⟨b,l,p1,p2,ps,a,c,fs,xs,ys,rfl,B,O,h1,h2,P1,P2,q⟩
theorem zch9 {f:Addr}{fd:FuncData}(F:Fun K "gain" "gain" zak0 f fd) (N:Nm mg) (zcl1:Def P w K mg base (CXR P w) 6 "look_battle" ["battle"] (ze1 zck0)) (zcm6:Def P w K mg base CX0 5 "look_plans" ["battle","one","other"] zg8) (zcm7:Def P w K mg base CX0 2 "won_in_all" ["fields","one","other"] zh2):FnOk P w K mg base CX0 7 f fd ["battle","one","other"] zw9:=by
 refine F.ok zcg6 (fun vs H Q E h=>by unfold zw9 at h;obtain⟨_,_,_,_,_,_,_,_,_,_,rfl,_⟩:=h;rfl) (fun cdv A outer s H vs Q E hr h=>?_)
 unfold zw9 at h
 obtain⟨b,l,p1,p2,ps,a,c,fs,xs,ys,rfl,B,O,h1,h2,P1,P2,q⟩:=h
 refine⟨_,(za4 (zs6 (pD zcl1 hr zbs0 (za0 (pq 0) za1)))
   (za4 (zs6 (pD zcm6 hr zb7 (za0 (pq 0) (za0 (pq 1) (za0 (pq 2) za1)))))
   (za6 (zb0 (pD zcm7 hr zb7 (za0 (za8 (K:=K) rfl (pq 0) za2) (za0 (pq 1) (za0 (pq 2) za1)))))))),?_⟩
 refine zw5 B O (fun H1 s1=>?_)
 refine zan7 (B.same s1) O (s1 _ _ h1) (s1 _ _ h2) P1 P2 (fun H2 s2=>?_)
 have s12:=s1.trans s2
 refine zb2 (v:=.ref l) (s12 _ _ B.out) rfl ?_
 refine zal9 (B.same s12) O (s12 _ _ h1) (s12 _ _ h2) P1 P2 (fun H3 s3=>?_)
 walk_at "wh"
 exact q _ (s12.trans s3)
def zg4:Nat->Nat->List (List Nat)
 | 0,h=>[[h]]
 | f+1,h=>(List.range (h+1)).flatMap fun s=>(zg4 f (h - s)).map fun q=>s :: q
theorem zt0:∀ {f h:Nat}{q:List Nat},q∈zg4 f h->q.length=f+1/\q.sum=h
 | 0,h,q,hq=>by
  rw[zcx8.mp (show q∈[[h]] from hq)]
  exact⟨rfl,by simp⟩
 | f+1,h,q,hq=>by
  obtain⟨s,hs,hq⟩:=List.mem_flatMap.mp (show q∈(List.range (h+1)).flatMap fun s=>(zg4 f (h - s)).map fun q=>s :: q from hq)
  obtain⟨q',hq',rfl⟩:=zcs5.mp hq
  obtain⟨a,b⟩:=zt0 hq'
  have:=zcu9.mp hs
  exact⟨by rw[zct0,a],by rw[zcu6,b];omega⟩
theorem zak6:∀ (f h:Nat),h<=10->(zg4 f h).length<=11 ^ f
 | 0,h,_=>by show 1<=1;decide
 | f+1,h,hh=>by
  have step:∀ n,n<=11->(((List.range n).flatMap fun s=>(zg4 f (h - s)).map fun q=>s :: q).length)<=n*11 ^ f:=fun n=>by
   induction n with
   | zero=>intro _;simp
   | succ n ih=>
    intro hn
    have ih:=ih (by walk_at "om")
    rw[zcy4,List.flatMap_append,zcr6]
    have:([n].flatMap fun s=>(zg4 f (h - s)).map fun q=>s :: q).length=(zg4 f (h - n)).length:=by simp
    rw[this,Nat.add_mul,Nat.one_mul]
    have:=zak6 f (h - n) (by walk_at "om")
    omega
  have:=step (h+1) (by walk_at "om")
  have e:11 ^ (f+1)=11*11 ^ f:=by rw[Nat.pow_succ,Nat.mul_comm]
  rw[e]
  exact zcv1 this (Nat.mul_le_mul_right _ (by walk_at "om"))
theorem zab8 {f h:Nat}(h1:h<=10) (h2:f<=4):(zg4 f h).length<=20000:=by
 refine zcv1 (zak6 f h h1) (zcv1 (Nat.pow_le_pow_right (by decide) h2) (by decide))
theorem zbl9 (f h:Nat):zg4 f h≠[]:=by
 induction f generalizing h with
 | zero=>show [[h]]≠[];simp
 | succ f ih=>
  intro e
  have:zg4 f (h - 0)=[]:=by
   have e:(List.range (h+1)).flatMap (fun s=>(zg4 f (h - s)).map fun q=>s :: q)=[]:=e
   rw[List.flatMap_eq_nil_iff] at e
   have:=e 0 (zcu9.mpr (by walk_at "om"))
   exact List.map_eq_nil_iff.mp this
  exact ih _ this
theorem zbt0 (sd:Bool):∀ {ds:List (Nat->Int)}{r:Nat},ds≠[]->∃ q∈zg4 (ds.length - 1) r,((List.range ds.length).map fun k=>(ds.getD k fun _=>0) (q.getD k 0)).sum=tabR sd ds r
 | [d],r,_=>⟨[r],by show [r]∈[[r]];simp,by show ([d r]:List Int).sum=d r;simp⟩
 | d :: e :: ds,r,_=>by
  obtain⟨s,hs,es⟩:=zcs5.mp (zz5 sd (xs:=(List.range (r+1)).map fun s=>d s+tabR sd (e :: ds) (r - s)) (by simp))
  obtain⟨q,hq,eq⟩:=zbt0 sd (ds:=e :: ds) (r:=r - s) (by simp)
  refine⟨s :: q,?_,?_⟩
  ·show s :: q∈zg4 (ds.length+1) r
   exact List.mem_flatMap.mpr ⟨s,hs,zcs5.mpr ⟨q,hq,rfl⟩⟩
  ·rw[zct0,List.range_succ_eq_map,zcs8,zcu6,zct5]
   show d s+_=optL sd ((List.range (r+1)).map fun s=>d s+tabR sd (e :: ds) (r - s))
   rw[← es,← eq]
   rfl
 | [],_,h=>absurd rfl h
def zs8 (sd:Bool) (fs:List Fd) (ms:List (List Int×Int)) (q:List Nat):Int:=(ms.map fun x=>x.2*((List.range fs.length).map fun k=>wonS sd (fs.getD k (.more 0 0)) (x.1.getD k 0).toNat (q.getD k 0)).sum).sum
theorem zbc7 {ms:List (List Int×Int)}{h:Int}{sd:Bool}{fs:List Fd}{xss:List (List (Int×Int×Int))}(O:OkS ms h fs.length) (S:zau5 ms fs.length xss) (q:List Nat):zs8 sd fs ms q=((List.range (zc6 sd fs xss).length).map fun k=>((zc6 sd fs xss).getD k fun _=>0) (q.getD k 0)).sum:=by
 rw[zbx4 (n:=fs.length) rfl]
 unfold zs8
 have e1:(ms.map fun x=>x.2*((List.range fs.length).map fun k=>wonS sd (fs.getD k (.more 0 0)) (x.1.getD k 0).toNat (q.getD k 0)).sum)=ms.map fun x=>((List.range fs.length).map fun k=>x.2*wonS sd (fs.getD k (.more 0 0)) (x.1.getD k 0).toNat (q.getD k 0)).sum:=zcs6 fun x _=>(zbb6 _ _ _).symm
 rw[e1,zbb7 (fun (x:List Int×Int) (k:Nat)=>x.2*wonS sd (fs.getD k (.more 0 0)) (x.1.getD k 0).toNat (q.getD k 0))]
 refine congrArg List.sum (zcs6 fun k hk=>?_)
 have hk:=zcu9.mp hk
 have g2:xss[k]?=some (xss.getD k []):=by rw[zcq7,zcq4 (by rw[S.1];exact hk)];rfl
 exact (zbz9 O hk (S.2 k _ g2).1).symm
theorem zcg4 {ms:List (List Int×Int)}{h:Int}{sd:Bool}{fs:List Fd}{xss:List (List (Int×Int×Int))}{r:Nat}(O:OkS ms h fs.length) (S:zau5 ms fs.length xss):tabR sd (zc6 sd fs xss) r=optL sd ((zg4 (fs.length - 1) r).map (zs8 sd fs ms)):=by
 have f1:=O.f1
 have dl:(zc6 sd fs xss).length=fs.length:=by unfold zc6;rw[zcq3,zct9]
 have ne:zc6 sd fs xss≠[]:=fun e=>by rw[e] at dl;simp at dl;omega
 obtain⟨q,hq,eq⟩:=zbt0 sd (r:=r) ne
 refine zah3 (zcs5.mpr ⟨q,by rw[dl] at hq;exact hq,by rw[zbc7 O S,eq]⟩) fun a ha=>?_
 obtain⟨q',hq',rfl⟩:=zcs5.mp ha
 obtain⟨l,s⟩:=zt0 hq'
 rw[zbc7 O S]
 exact zas7 sd ne (by rw[l,dl];omega) s
theorem zby9 {sd:Bool}{n m:Nat}{fs:List Fd}{xss:List (List (Int×Int×Int))}{T:Nat->Nat->Int}(ka:zr2 sd n m fs xss T):∀ (j k:Nat),k+j+1=fs.length->∀ c,c<=othH sd n m->leS sd (T k c) (tabR sd ((zc6 sd fs xss).drop k) c):=by
 intro j
 induction j with
 | zero=>
  intro k hk c hc
  have h1:=ka k c (by walk_at "om") hc
  have e:(zc6 sd fs xss).drop k=[dueS sd (fs.getD k (.more 0 0)) (xss.getD k [])]:=by
   rw[zk9 (by walk_at "om"),zcx4 (by rw[zac5];omega)]
  rw[e]
  exact zv5.mp (h1 _ (by unfold bndS;rw[if_neg (by walk_at "om")];exact .head _))
 | succ j ih=>
  intro k hk c hc
  have h1:=ka k c (by walk_at "om") hc
  obtain⟨s,hs,es⟩:=zcs5.mp (zz5 sd (xs:=zaf1 sd ((zc6 sd fs xss).drop k) c) ((zap9 sd (zao8 (sd:=sd) (xss:=xss) (by walk_at "om")) c).2) |> fun h=>by
   rw[zk9 (show k<fs.length by walk_at "om"),zk9 (show k+1<fs.length by walk_at "om")] at h
   exact (show optL sd (zaf1 sd (dueS sd (fs.getD k (.more 0 0)) (xss.getD k []) :: dueS sd (fs.getD (k+1) (.more 0 0)) (xss.getD (k+1) []) :: (zc6 sd fs xss).drop (k+1+1)) c)∈(List.range (c+1)).map fun s=>dueS sd (fs.getD k (.more 0 0)) (xss.getD k []) s+tabR sd (dueS sd (fs.getD (k+1) (.more 0 0)) (xss.getD (k+1) []) :: (zc6 sd fs xss).drop (k+1+1)) (c - s) from h))
  have hs':=zcu9.mp hs
  have a1:=zv5.mp (h1 (dueS sd (fs.getD k (.more 0 0)) (xss.getD k []) s+T (k+1) (c - s)) (by unfold bndS;rw[if_pos (by walk_at "om")];exact zcs5.mpr ⟨s,hs,rfl⟩))
  have a2:=ih (k+1) (by walk_at "om") (c - s) (by walk_at "om")
  rw[(zap9 sd (zao8 (sd:=sd) (xss:=xss) (show k<fs.length by walk_at "om")) c).1,zk9 (show k<fs.length by walk_at "om"),zk9 (show k+1<fs.length by walk_at "om"),← es]
  rw[zk9 (show k+1<fs.length by walk_at "om")] at a2
  generalize tabR sd (dueS sd (fs.getD (k+1) (.more 0 0)) (xss.getD (k+1) []) :: (zc6 sd fs xss).drop (k+1+1)) (c - s)=y at a2 ⊢
  unfold leS at *
  cases sd
  ·simp only[zcv8,if_false] at *
   omega
  ·simp only[if_true] at *
   omega
def zx7 (f h:Nat):List (List Int):=(zg4 f h).map fun q=>q.map fun n=>((n:Nat):Int)
def zax4:Nat->Sp
 | 0=>fun _ _ _ _=>False
 | n+1=>fun vs H Q _=>∃ (h f:Nat),vs=[.int h,.int ((f:Nat)+1:Int)]/\f<=n/\f<=4/\h<=10/\∀ r ps H',H r=none->Same H H'->zs1 H' r ps (zx7 f h)->Q (.ref r) H'
@[irreducible] def ze4:Sp:=zax4 7
theorem zat1 {H:Hp}{h f:Nat}{Q:VK}{E:XK}(hf:f<=4) (hh:h<=10) (q:∀ r ps H',H r=none->Same H H'->zs1 H' r ps (zx7 f h)->Q (.ref r) H'):ze4 [.int h,.int ((f:Nat)+1:Int)] H Q E:=by unfold ze4;exact⟨h,f,rfl,zcv1 hf (by decide),hf,hh,q⟩
theorem zbu8 {H:Hp}{r:Addr}{ps qs:List Addr}{a b:List (List Int)}(h:H r=some (.lst ((ps++qs).map V.ref))) (l1:ps.length=a.length) (l2:qs.length=b.length) (k1:∀ (i:Nat) p z,ps[i]?=some p->a[i]?=some z->H p=some (.lst (z.map V.int))) (k2:∀ (i:Nat) p z,qs[i]?=some p->b[i]?=some z->H p=some (.lst (z.map V.int))):zs1 H r (ps++qs) (a++b):=by
 refine⟨h,by rw[zcr6,zcr6,l1,l2],fun i p z e1 e2=>?_⟩
 by_cases hi:i<ps.length
 ·rw[zct1 hi] at e1
  rw[zct1 (by walk_at "om")] at e2
  exact k1 i p z e1 e2
 ·rw[zcu2 (by walk_at "om")] at e1 e2
  exact k2 (i - ps.length) p z e1 (by rw[l1];exact e2)
def zap1 (f h k:Nat):List (List Int):=((List.range k).flatMap fun s=>(zg4 f (h - s)).map fun q=>s :: q).map fun q=>q.map fun n=>((n:Nat):Int)
theorem zaa8 (f h k:Nat):zap1 f h (k+1)=zap1 f h k++(zx7 f (h - k)).map fun z=>(k:Int) :: z:=by
 unfold zap1 zx7
 rw[zcy4,List.flatMap_append,zcs3]
 congr 1
 simp
theorem zar9 {f h k:Nat}(hk:k<=h+1):(zap1 f h k).length<=(zx7 (f+1) h).length:=by
 show (zap1 f h k).length<=(zap1 f h (h+1)).length
 have:∀ d,(zap1 f h k).length<=(zap1 f h (k+d)).length:=fun d=>by
  induction d with
  | zero=>exact zcr9 _
  | succ d ih=>rw[← Nat.add_assoc,zaa8,zcr6];omega
 have:=this (h+1 - k)
 rwa [show k+(h+1 - k)=h+1 by walk_at "om"] at this
theorem zad7 {f h:Nat}(h1:h<=10) (h2:f<=4):(zx7 f h).length<=20000:=by unfold zx7;rw[zcq3];exact zab8 h1 h2
set_option maxHeartbeats 0 in
theorem zaa2 {f:Addr}{fd:FuncData}(F:Fun K "_law_all_plans" "_law_all_plans" zf4 f fd) (N:Nm mg) (hgR:mg "_law_all_plans"=some (.ref f)) (hkR:zcr5 K (.ref f)=true) (hbR:zai2 K fd ["_law_hosts","_law_many"] []):FnOk P w K mg base CX0 8 f fd ["_law_hosts","_law_many"] ze4:=by
 have key:∀ n,FnOk P w K mg base CX0 (n+1) f fd ["_law_hosts","_law_many"] (zax4 n):=by
  intro n
  induction n with
  | zero=>exact F.ok zg2 (fun vs H Q E h=>h.elim) (fun cdv A outer s H vs Q E hr h=>h.elim)
  | succ n ih=>
   have zck9:Def P w K mg base CX0 (n+1) "_law_all_plans" ["_law_hosts","_law_many"] (zax4 n):=⟨f,fd,ih,hgR,hkR,hbR⟩
   refine F.ok zg2 (fun vs H Q E h=>by obtain⟨_,_,rfl,_⟩:=h;rfl) (fun cdv A outer s H vs Q E hr h=>?_)
   have hu:=hu40 hr
   refine⟨_,(za4 (psIf (ptC (oEqK (K:=K) rfl (by exact hu)) (pq 1) za2) (za6 (zb0 (zk8 (za0 (zk8 (za0 (pq 0) za1)) za1)))) zc1)
   (za4 (psS (i:=2) zg2.nd (zk8 za1))
   (za4 (zt9 PassesOwn.never rfl (zr5 N.range_ (za0 (zb5 oAdd (pq 0) za2) za1)) (za7 (i:=3) zg2.nd rfl (by first|exact Or.inl rfl|exact Or.inr rfl)) (za6 (psS (i:=2) zg2.nd (zb5 oAdd (pq 2) (zf2 (N:=["_law_rest","_law_sent"]) (ks:=[none,some 3]) (ze3 (K:=K) rfl (pD zck9 hr zb7 (za0 (zb5 oSub (pq 0) (pq 3)) (za0 (zb5 oSub (pq 1) za2) za1)) (hk:=by walk_at "om"))) (fun cl C s3 H3 fp=>(za7 (i:=0) nb_25 rfl (by first|exact Or.inl rfl|exact Or.inr rfl))) (fun cl C s3 H3 fp=>zc4) (fun cl C s3 H3 fp=>(zb5 oAdd (zk8 (za0 (pq 1) za1)) (pq 0))) (.skip (.take rfl rfl (by first|exact Or.inl rfl|exact Or.inr rfl) .nil)))))))
   (za6 (zb0 (pq 2)))))),?_⟩
   obtain⟨h,g,rfl,hn,hg,hh,q⟩:=h
   refine zf5 (fun e=>?_) (fun e=>?_)
   ·obtain rfl:g=0:=by walk_at "om"
    refine zc7 (fun p1 H1 f1 s1 h1=>?_)
    refine zc7 (fun p2 H2 f2 s2 h2=>?_)
    walk_at "wh"
    exact q p2 [p1] H2 (s1.free f2) (s1.trans s2) ⟨h2,rfl,fun i p z e1 e2=>by
     match i with
     | 0=>cases e1;cases e2;exact s2 _ _ h1
     | i+1=>simp at e1⟩
   ·obtain⟨g',rfl⟩:∃ g',g=g'+1:=⟨g - 1,by walk_at "om"⟩
    obtain⟨n',rfl⟩:∃ n',n=n'+1:=⟨n - 1,by walk_at "om"⟩
    refine zc7 (fun p1 H1 f1 s1 h1=>?_)
    refine zh3 (by decide) (by decide) (by walk_at "om") (by walk_at "om") ?_
    rw[show ((h:Int)+1 - 0).toNat=h+1 by walk_at "om"]
    refine zn7 (fun k σ I=>∃ (y4:Option V) (r:Addr) (ps:List Addr),σ=[some (.int h),some (.int ((((g'+1:Nat):Nat):Int)+1)),some (.ref r),y4]/\H r=none/\Same H I/\zs1 I r ps (zap1 g' h k)) ?_ ?_ ?_
    ·exact⟨_,p1,[],rfl,f1,s1,⟨h1,rfl,fun i p z e1=>by simp at e1⟩⟩
    ·rintro k σ I hk ⟨y4,r,ps,rfl,fr,sI,R⟩
     have hk:k<h+1:=hk
     have sz:=zad7 (f:=g'+1) hh hg
     have sz2:=zad7 (f:=g') (h:=h - k) (by walk_at "om") (by walk_at "om")
     have u1:=zar9 (f:=g') (h:=h) (k:=k) (by walk_at "om")
     have u2:=zar9 (f:=g') (h:=h) (k:=k+1) (by walk_at "om")
     rw[zaa8,zcr6,zcq3] at u2
     have rl:=R.len
     rw[zcx7]
     walk_at "wh"
     rw[show (h:Int) - (k:Int)=((h - k:Nat):Int) by walk_at "om",show (((g'+1:Nat):Nat):Int)+1 - 1=((g':Nat):Int)+1 by walk_at "om"]
     refine⟨h - k,g',rfl,by walk_at "om",by walk_at "om",by walk_at "om",fun r2 ps2 I2 f2 s2 R2=>?_⟩
     have r2l:=R2.len
     refine zb8 R2.out ?_
     refine zac0 (n:=(ps2.map V.ref).length) (Wk.list (SqL.of R2.out)) (by rw[zcq3,sizeLine_eq];omega) (fun i=>.lst (((k:Int) :: (zx7 g' (h - k)).getD i []).map V.int)) (fun j σ=>∃ t:Option V,σ=[t,some (.int k)]) ⟨none,rfl⟩ ?_ ?_
     ·rintro i x σ J R' S' hi sJ hx ⟨_,rfl⟩ kk
      obtain⟨p,z,rfl,ep,ez,hp⟩:=(R2.same sJ).elt hx
      have zl:z.length<=10:=by
       have:=zcr0 ez
       unfold zx7 at this
       obtain⟨q',hq',rfl⟩:=zcs5.mp this
       rw[zcq3,(zt0 hq').1]
       omega
      rw[show (zx7 g' (h - k)).getD i []=z by rw[zcq7,ez];rfl] at kk
      refine br_T ?_
      refine zc7 (fun p5 J5 f5 s5 h5=>?_)
      refine zbc9 h5 (s5 _ _ hp) (by rw[zcq3,sizeLine_eq,zcw7];omega) (fun p6 J6 f6 s6 h6=>?_)
      walk_at "wh"
      exact kk _ p6 J6 (s5.free f6) (s5.trans s6) h6 ⟨_,rfl⟩
     intro acc qs J FL
     have ql:=FL.len
     rw[zcq3] at ql
     refine zbc9 ((s2.trans FL.same) _ _ R.out) FL.out (by rw[zcq3,zcq3,sizeLine_eq];omega) (fun r3 J3 f3 s3 h3=>?_)
     walk_at "wh"
     have sJ:Same I J:=s2.trans FL.same
     refine⟨_,r3,ps++qs,rfl,(sI.trans sJ).free f3,(sI.trans sJ).trans s3,?_⟩
     rw[zaa8]
     refine zbu8 (by rw[h3,zcs3]) rl (by rw[zcq3];omega) (fun i p z e1 e2=>(sJ.trans s3) _ _ (R.row i p z e1 e2)) (fun i p z e1 e2=>?_)
     rw[zcq8] at e2
     obtain⟨z',ez',rfl⟩:=zcr1.mp e2
     have:=s3 _ _ (FL.row i p e1).2
     rw[show (zx7 g' (h - k)).getD i []=z' by rw[zcq7,ez'];rfl] at this
     exact this
    ·rintro σ I ⟨y4,r,ps,rfl,fr,sI,R⟩
     walk_at "wh"
     exact q r ps I fr sI R
 unfold ze4
 exact key 7
def gS (sd:Bool) (fs:List Fd) (x:List Int) (q:List Nat):Int:=((List.range fs.length).map fun k=>wonS sd (fs.getD k (.more 0 0)) (x.getD k 0).toNat (q.getD k 0)).sum
def zz3 (q:List Nat):List Int:=q.map fun n=>((n:Nat):Int)
theorem zah2 (q:List Nat) (k:Nat):((zz3 q).getD k 0).toNat=q.getD k 0:=by
 unfold zz3
 rw[zcq7,zcq7,zcq8]
 cases q[k]? with
 | none=>rfl
 | some n=>exact zcx1 n
theorem zav9:∀ q:List Nat,(zz3 q).sum=((q.sum:Nat):Int)
 | []=>rfl
 | n :: q=>by
  show ((n:Nat):Int)+(zz3 q).sum=_
  rw[zav9 q,zcu6];push_cast;rfl
theorem zbq9 {f h:Nat}{q:List Nat}(hq:q∈zg4 f h):Pln h (f+1) (zz3 q):=by
 obtain⟨a,b⟩:=zt0 hq
 refine⟨fun x hx=>?_,by unfold zz3;rw[zcq3,a],by rw[zav9,b]⟩
 obtain⟨n,_,rfl⟩:=zcs5.mp hx
 omega
theorem gain_F (fs:List Fd) (x:List Int) (q:List Nat):zas6 fs x (zz3 q)=gS false fs x q:=by
 unfold zas6 gS
 exact congrArg List.sum (zcs6 fun k _=>by rw[zah2];rfl)
theorem gain_T (fs:List Fd) (x:List Int) (q:List Nat):zas6 fs (zz3 q) x=gS true fs x q:=by
 unfold zas6 gS
 exact congrArg List.sum (zcs6 fun k _=>by rw[zah2];rfl)
theorem zak8 {α:Type}(c:Int):∀ xs:List α,(xs.map fun _=>c).sum=(xs.length:Int)*c
 | []=>by simp
 | x :: xs=>by
  rw[zcs8,zcu6,zak8 c xs,zct0]
  push_cast
  rw[Int.add_mul,Int.one_mul,Int.add_comm]
theorem zcb0 {h f:Nat}{ns:List Int}(P:Pln h f ns) (k:Nat):0<=ns.getD k 0/\ns.getD k 0<=h:=by
 rw[zcq7]
 cases e:ns[k]? with
 | none=>exact⟨Int.le_refl _,by show (0:Int)<=h;omega⟩
 | some x=>
  have hx:=zcr0 e
  have:=(zj4 P.nn).1 x hx
  rw[P.sum] at this
  exact⟨P.nn x hx,this⟩
theorem gS_bd {sd:Bool}{n m:Nat}{fs:List Fd}{x:List Int}{q:List Nat}{f:Nat}(ok:∀ f∈fs,f.Ok) (bd:∀ f∈fs,f.Bd n m) (h5:fs.length<=5) (P1:Pln (ownH sd n m) fs.length x) (P2:Pln (othH sd n m) f (zz3 q)):-(10 ^ 30)<=gS sd fs x q/\gS sd fs x q<=10 ^ 30:=by
 have each:∀ k∈List.range fs.length,-(2*10 ^ 28)<=wonS sd (fs.getD k (.more 0 0)) (x.getD k 0).toNat (q.getD k 0)/\wonS sd (fs.getD k (.more 0 0)) (x.getD k 0).toNat (q.getD k 0)<=2*10 ^ 28:=fun k hk=>by
  have hk:=zcu9.mp hk
  have g1:fs.getD k (.more 0 0)∈fs:=by rw[zcq7,zcq4 hk];exact zcw5 _
  have a1:=zcb0 P1 k
  have a2:=zcb0 P2 k
  rw[← zah2]
  cases sd
  ·have a1:0<=x.getD k 0/\x.getD k 0<=(n:Int):=a1
   have a2:0<=(zz3 q).getD k 0/\(zz3 q).getD k 0<=(m:Int):=a2
   exact Fd.won_bd (ok _ g1) (bd _ g1) (by walk_at "om") (by walk_at "om")
  ·have a1:0<=x.getD k 0/\x.getD k 0<=(m:Int):=a1
   have a2:0<=(zz3 q).getD k 0/\(zz3 q).getD k 0<=(n:Int):=a2
   exact Fd.won_bd (ok _ g1) (bd _ g1) (by walk_at "om") (by walk_at "om")
 have h1:=zag5 (f:=fun _:Nat=>-(2*(10:Int) ^ 28)) (xs:=List.range fs.length) fun x hx=>(each x hx).1
 have h2:=zag5 (g:=fun _:Nat=>2*(10:Int) ^ 28) (xs:=List.range fs.length) fun x hx=>(each x hx).2
 rw[zak8,zct9] at h1 h2
 unfold gS
 exact⟨by walk_at "om",by walk_at "om"⟩
theorem zak4 {sd:Bool}{fs:List Fd}{ms:List (List Int×Int)}{q:List Nat}{i:Nat}{x:List Int×Int}(e:ms[i]?=some x):zs8 sd fs (ms.take (i+1)) q=zs8 sd fs (ms.take i) q+x.2*gS sd fs x.1 q:=by
 unfold zs8
 rw[List.take_succ,e,zcs3,zcy5]
 simp[gS]
@[irreducible] def ze8:Sp:=fun vs H Q _=>∃ (b l mx:Addr) (ps:List Addr) (n m:Nat) (sd:Bool) (fs:List Fd) (ts:List (Addr×Addr)) (ms:List (List Int×Int)),vs=[.ref b,.int (sdI sd),.ref mx]/\zh5 H b l ps n m fs/\OkB n m fs/\(∀ f∈fs,f.Bd n m)/\zr7 H mx ts ms/\OkS ms (ownH sd n m:Nat) fs.length/\ms.length<=5/\(∀ x∈ms,x.2<=10 ^ 20)/\∀ H',Same H H'->Q (.int (optL sd ((zg4 (fs.length - 1) (othH sd n m)).map (zs8 sd fs ms)))) H'
theorem zbf3 {H:Hp}{b l mx:Addr}{ps:List Addr}{n m:Nat}{sd:Bool}{fs:List Fd}{ts:List (Addr×Addr)}{ms:List (List Int×Int)}{Q:VK}{E:XK}(B:zh5 H b l ps n m fs) (O:OkB n m fs) (D:∀ f∈fs,f.Bd n m) (M:zr7 H mx ts ms) (OS:OkS ms (ownH sd n m:Nat) fs.length) (ml:ms.length<=5) (mw:∀ x∈ms,x.2<=10 ^ 20) (q:∀ H',Same H H'->Q (.int (optL sd ((zg4 (fs.length - 1) (othH sd n m)).map (zs8 sd fs ms)))) H'):ze8 [.ref b,.int (sdI sd),.ref mx] H Q E:=by
 unfold ze8;exact⟨b,l,mx,ps,n,m,sd,fs,ts,ms,rfl,B,O,D,M,OS,ml,mw,q⟩
theorem zh5.oks {H:Hp}{b l:Addr}{ps:List Addr}{n m:Nat}{fs:List Fd}(B:zh5 H b l ps n m fs):∀ f∈fs,f.Ok:=fun f hf=>by
 obtain⟨i,ei⟩:=zcv6 hf
 have:=(zcq6.mp ei).1
 have bl:=B.len
 exact (B.fld i _ f (zcq4 (by walk_at "om")) ei).2
set_option maxHeartbeats 0 in
theorem zag6 {f:Addr}{fd:FuncData}(F:Fun K "_law_brought" "_law_brought" zh8 f fd) (N:Nm mg) (zck9:Def P w K mg base CX0 8 "_law_all_plans" ["_law_hosts","_law_many"] ze4) (zcq0:Def P w K mg base CX0 7 "gain" ["battle","one","other"] zw9):FnOk P w K mg base CX0 9 f fd ["_law_battle_here","_law_side","_law_mix_here"] ze8:=by
 refine F.ok zc8 (fun vs H Q E h=>by unfold ze8 at h;obtain⟨_,_,_,_,_,_,_,_,_,_,rfl,_⟩:=h;rfl) (fun cdv A outer s H vs Q E hr h=>?_)
 unfold ze8 at h
 obtain⟨b,l,mx,ps,n,m,sd,fs,ts,ms,rfl,B,O,D,M,OS,ml,mw,q⟩:=h
 have hu:=hu40 hr
 have bl:=B.len
 have o1:=O.1
 have o2:=O.2
 have oks:=B.oks
 have tl:=M.len
 obtain⟨ho,hw⟩:=zab5 O sd
 obtain⟨g,eg⟩:∃ g,fs.length=g+1:=⟨fs.length - 1,by walk_at "om"⟩
 have eg1:fs.length - 1=g:=by walk_at "om"
 rw[eg1] at q
 have psz:=zab8 (f:=g) (h:=othH sd n m) (by walk_at "om") (by walk_at "om")
 refine⟨_,(za4 (psS (i:=3) zc8.nd (zk8 za1))
   (za4 (zt9 PassesOwn.never rfl (ze3 (K:=K) rfl (pD zck9 hr zb7 (za0 (za8 (K:=K) rfl (pq 0) (zb5 oSub za2 (pq 1))) (za0 (pB (zo8 (K:=K) rfl) N.len_ zg5 (za0 (za8 (K:=K) rfl (pq 0) za2) za1)) za1)))) (za7 (i:=4) zc8.nd rfl (by first|exact Or.inl rfl|exact Or.inr rfl)) (za4 (psS (i:=5) zc8.nd za2)
   (za4 (zt9 PassesOwn.never rfl (ze3 (K:=K) rfl (pq 2)) (zk4 (K:=K) (n:=2) rfl rfl (zb4 (za7 (i:=6) zc8.nd rfl (by first|exact Or.inl rfl|exact Or.inr rfl)) (zb4 (za7 (i:=7) zc8.nd rfl (by first|exact Or.inl rfl|exact Or.inr rfl)) zk5))) (za4 (zav0 (za8 (K:=K) rfl (zk8 (za0 (zp3 (za0 (pq 6) (za0 (pq 4) za1))) (za0 (zp3 (za0 (pq 4) (za0 (pq 6) za1))) za1))) (pq 1)) (zk4 (K:=K) (n:=2) rfl rfl (zb4 (za7 (i:=8) zc8.nd rfl (by first|exact Or.inl rfl|exact Or.inr rfl)) (zb4 (za7 (i:=9) zc8.nd rfl (by first|exact Or.inl rfl|exact Or.inr rfl)) zk5))))
   (za6 (psS (i:=5) zc8.nd (zb5 oAdd (pq 5) (zb5 oMul (pq 7) (pD zcq0 hr zb7 (za0 (pq 0) (za0 (pq 8) (za0 (pq 9) za1))))))))))
   (za6 (zs6 (zq6 (pq 3) (za0 (pq 5) za1)))))))
   (za6 (zb0 (za8 (K:=K) rfl (zk8 (za0 (pB (cMinK (K:=K) rfl rfl) N.min_ zcc1 (za0 (pq 3) za1)) (za0 (pB (cMaxK (K:=K) rfl rfl) N.max_ zcb5 (za0 (pq 3) za1)) za1))) (pq 1)))))),?_⟩
 refine zc7 (fun fo H1 f1 s1 h1=>?_)
 refine zb2 (v:=.int (othH sd n m)) (s1 _ _ B.out) (by cases sd<;>rfl) ?_
 refine zb2 (v:=.ref l) (s1 _ _ B.out) rfl ?_
 refine zf3 (s1 _ _ B.lst) ?_
 rw[zcq3,bl,show ((fs.length:Nat):Int)=((g:Nat):Int)+1 by walk_at "om"]
 refine zat1 (by walk_at "om") (by walk_at "om") (fun r qs H2 f2 s2 R=>?_)
 have rl:=R.len
 have s02:=s1.trans s2
 have nfr:r≠fo:=Ne.symm (za5 h1 f2)
 have nfq:∀ (i:Nat) p,qs[i]?=some p->p≠fo:=fun i p ep e=>by
  subst e
  obtain⟨z,ez⟩:∃ z,(zx7 g (othH sd n m))[i]?=some z:=⟨_,zcq4 (by have:=(zcq6.mp ep).1;omega)⟩
  have a1:=R.row i _ z ep ez
  rw[s2 _ _ h1] at a1
  have:z.map V.int=[]:=by injection a1 with a1;injection a1 with a1;exact a1.symm
  have hz:z=[]:=List.map_eq_nil_iff.mp this
  have:=zcr0 ez
  unfold zx7 at this
  obtain⟨q',hq',e'⟩:=zcs5.mp this
  have:=(zt0 hq').1
  rw[hz] at e'
  have:=List.map_eq_nil_iff.mp e'
  simp_all
 refine zb8 R.out ?_
 refine zm8 (xs:=qs.map V.ref) (fun i σ I=>∃ (y5 y6 y7 y8 y9 y10:Option V),σ=[some (.ref b),some (.int (sdI sd)),some (.ref mx),some (.ref fo),y5,y6,y7,y8,y9,y10]/\Same H I/\Chg fo H2 I/\I fo=some (.lst ((((zg4 g (othH sd n m)).take i).map (zs8 sd fs ms)).map V.int))) ?_ ?_ ?_ ?_
 ·exact⟨_,_,_,_,_,_,rfl,s02,(Same.refl _).toChg,s2 _ _ h1⟩
 ·rintro i σ I _ ⟨_,_,_,_,_,_,_,_,cI,_⟩
  exact SqL.of (cI _ _ nfr R.out)
 ·rintro i v σ I hi ⟨y5,y6,y7,y8,y9,y10,rfl,sI,cI,hfo⟩
  obtain⟨p,z,rfl,ep,ez,hp⟩:=R.elt hi
  obtain⟨qn,eqn,hz⟩:∃ qn,(zg4 g (othH sd n m))[i]?=some qn/\z=zz3 qn:=by
   unfold zx7 at ez
   rw[zcq8] at ez
   obtain⟨qn,e,rfl⟩:=zcr1.mp ez
   exact⟨qn,e,rfl⟩
  subst hz
  have hil:=(zcq6.mp eqn).1
  have P2:=zbq9 (zcr0 eqn)
  have hpI:=cI _ _ (nfq i p ep) hp
  refine zb8 (sI _ _ M.out) ?_
  refine zm8 (xs:=ts.map fun t=>V.ref t.1) (fun j σ J=>∃ (y7 y8 y9 y10:Option V),σ=[some (.ref b),some (.int (sdI sd)),some (.ref mx),some (.ref fo),some (.ref p),some (.int (zs8 sd fs (ms.take j) qn)),y7,y8,y9,y10]/\Same I J) ?_ ?_ ?_ ?_
  ·exact⟨_,_,_,_,rfl,Same.refl _⟩
  ·rintro j σ J _ ⟨_,_,_,_,_,sJ⟩
   exact SqL.of ((sI.trans sJ) _ _ M.out)
  ·rintro j v σ J hj ⟨y7,y8,y9,y10,rfl,sJ⟩
   obtain⟨t,x,rfl,et,ex,ht,hx⟩:=(M.same (sI.trans sJ)).elt hj
   obtain⟨nn,xl,xs,x1⟩:=OS.all x (zcr0 ex)
   have x2:=mw x (zcr0 ex)
   have P1:Pln (ownH sd n m) fs.length x.1:=⟨nn,xl,xs⟩
   have gb:=gS_bd oks D (by walk_at "om") P1 P2
   refine zd4 ht ?_
   refine zd9 (fun p4 L4 f4 s4 h4=>?_)
   refine zd9 (fun p5 L5 f5 s5 h5=>?_)
   refine zc7 (fun p6 L6 f6 s6 h6=>?_)
   have s46:=(s4.trans s5).trans s6
   have B6:=B.same ((sI.trans sJ).trans s46)
   have hp6:=s46 _ _ (sJ _ _ hpI)
   have hx6:=s46 _ _ hx
   rw[← eg] at P2
   cases sd
   ·walk_at "wh"
    refine zb6 (v:=.ref p4) h6 rfl ?_
    refine zd4 ((s5.trans s6) _ _ h4) ?_
    refine zbm2 B6 O hx6 hp6 P1 P2 (fun L7 s7=>?_)
    rw[gain_F]
    refine zu6 (zp6 (by walk_at "om") (by walk_at "om") (by walk_at "om") (by walk_at "om")) ?_
    walk_at "wh"
    refine⟨some (.ref t.2),some (.int x.2),some (.ref t.2),some (.ref p),?_,(sJ.trans s46).trans s7⟩
    rw[zak4 ex]
    rfl
   ·walk_at "wh"
    refine zb6 (v:=.ref p5) h6 rfl ?_
    refine zd4 (s6 _ _ h5) ?_
    refine zbm2 B6 O hp6 hx6 P2 P1 (fun L7 s7=>?_)
    rw[gain_T]
    refine zu6 (zp6 (by walk_at "om") (by walk_at "om") (by walk_at "om") (by walk_at "om")) ?_
    walk_at "wh"
    refine⟨some (.ref t.2),some (.int x.2),some (.ref p),some (.ref t.2),?_,(sJ.trans s46).trans s7⟩
    rw[zak4 ex]
    rfl
  ·rintro σ J ⟨y7,y8,y9,y10,rfl,sJ⟩
   rw[zcq3,tl,zcy2]
   have hfo':=sJ _ _ hfo
   refine zak5 hfo' ?_
   refine zaj7 hfo' (by rw[zcq3,zcq3,zcw0,sizeLine_eq];omega) (fun J2 c2 h2'=>?_)
   walk_at "wh"
   refine⟨_,_,_,_,_,_,rfl,(sI.trans sJ).chg f1 c2,(cI.same sJ).trans c2,?_⟩
   rw[h2',List.take_succ,eqn,zcs3,zcs3]
   rfl
 ·rintro σ I ⟨y5,y6,y7,y8,y9,y10,rfl,sI,cI,hfo⟩
  have e:(zg4 g (othH sd n m)).take (qs.map V.ref).length=zg4 g (othH sd n m):=by
   rw[zcq3,rl]
   unfold zx7
   rw[zcq3,zcy2]
  rw[e] at hfo
  have ne:0<((zg4 g (othH sd n m)).map (zs8 sd fs ms)).length:=by
   rw[zcq3]
   exact List.length_pos_iff.mpr (zbl9 _ _)
  refine zbm4 (SqL.of hfo) ne (fun M1 hM1 hm1=>?_)
  refine zbn9 (SqL.of hfo) ne (fun M2 hM2 hm2=>?_)
  refine zc7 (fun p4 J4 f4 s4 h4=>?_)
  have em:optL sd ((zg4 g (othH sd n m)).map (zs8 sd fs ms))=if sd then M2 else M1:=by
   cases sd
   ·exact (zah3 (sd:=false) hM1 hm1).symm
   ·exact (zah3 (sd:=true) hM2 hm2).symm
  refine zb6 (v:=.int (optL sd ((zg4 g (othH sd n m)).map (zs8 sd fs ms)))) h4 (by rw[em];cases sd<;>rfl) ?_
  walk_at "wh"
  exact q _ (sI.trans s4)
theorem zat6 {a b x:Addr}{H H':Hp}(c:Chg2 a b H H') (f:H' x=none) (n1:x≠a) (n2:x≠b):H x=none:=by
 cases e:H x with
 | none=>rfl
 | some o=>
  have:=c x o n1 n2 e
  rw[f] at this
  cases this
abbrev BdG (F w:Nat) (T:Nat->Nat->Int):Prop:=∀ k c,k<F->c<w->-(10 ^ 61)<=T k c/\T k c<=10 ^ 61
def zsT (zs:List (List Int)):Nat->Nat->Int:=fun k c=>(zs.getD k []).getD c 0
theorem zbn8 {H:Hp}{r:Addr}{rs:List Addr}{zs:List (List Int)}{F w:Nat}(h:H r=some (.lst (rs.map V.ref))) (l1:rs.length=F) (l2:zs.length=F) (k:∀ (i:Nat) q z,rs[i]?=some q->zs[i]?=some z->H q=some (.lst (z.map V.int))/\z.length=w/\∀ y∈z,-(10 ^ 61)<=y/\y<=10 ^ 61):zd3 H r rs F w (zsT zs)/\BdG F w (zsT zs):=by
 refine⟨⟨h,l1,fun i p e=>?_⟩,fun i c hi hc=>?_⟩
 ·obtain⟨z,ez⟩:∃ z,zs[i]?=some z:=⟨_,zcq4 (by have:=(zcq6.mp e).1;omega)⟩
  obtain⟨a,b,_⟩:=k i p z e ez
  rw[a,zaz1 b]
  unfold zsT
  rw[show zs.getD i []=z by rw[zcq7,ez];rfl]
 ·obtain⟨z,ez⟩:∃ z,zs[i]?=some z:=⟨_,zcq4 (by walk_at "om")⟩
  obtain⟨q,eq⟩:∃ q,rs[i]?=some q:=⟨_,zcq4 (by walk_at "om")⟩
  obtain⟨_,b,c'⟩:=k i q z eq ez
  unfold zsT
  rw[show zs.getD i []=z by rw[zcq7,ez];rfl,zcq7,zcq4 (by walk_at "om")]
  exact c' _ (zcw5 _)
@[irreducible] def zf6:Sp:=fun vs H Q _=>∃ (pl bt l st:Addr) (b:Int) (ps:List Addr) (n m:Nat) (sd:Bool) (fs:List Fd) (rs:List (Addr×List Addr)) (xss:List (List (Int×Int×Int))),vs=[.ref pl,.ref bt,.int (sdI sd),.ref st]/\zc0 H pl b/\b<=50000/\zh5 (rm pl H) bt l ps n m fs/\OkB n m fs/\(∀ f∈fs,f.Bd n m)/\StW (rm pl H) st rs xss/\xss.length=fs.length/\(∀ xs∈xss,zu0 (ownH sd n m) xs)/\(∀ k c,k<fs.length->c<=othH sd n m->-(10 ^ 60)<=tabR sd ((zc6 sd fs xss).drop k) c/\tabR sd ((zc6 sd fs xss).drop k) c<=10 ^ 60) /\
 ∀ (r t0 t1 t2 t3:Addr) (q0 q1 q2 q3:List Addr) (T1 T2 T3:Nat->Nat->Int) (H':Hp),Chg pl H H'->zc0 H' pl (b+1000)->rm pl H' r=some (.lst [.ref t0,.ref t1,.ref t2,.ref t3])->zd3 (rm pl H') t0 q0 fs.length (othH sd n m+1) (fun k=>tabR sd ((zc6 sd fs xss).drop k))->zd3 (rm pl H') t1 q1 fs.length (othH sd n m+1) T1->BdG fs.length (othH sd n m+1) T1->zd3 (rm pl H') t2 q2 fs.length (othH sd n m+1) T2->BdG fs.length (othH sd n m+1) T2->zd3 (rm pl H') t3 q3 fs.length (othH sd n m+1) T3->BdG fs.length (othH sd n m+1) T3->Q (.ref r) H'
theorem zbs2 {H:Hp}{pl bt l st:Addr}{b:Int}{ps:List Addr}{n m:Nat}{sd:Bool}{fs:List Fd}{rs:List (Addr×List Addr)}{xss:List (List (Int×Int×Int))}{Q:VK}{E:XK}(L:zc0 H pl b) (hb:b<=50000) (B:zh5 (rm pl H) bt l ps n m fs) (O:OkB n m fs) (D:∀ f∈fs,f.Bd n m) (S:StW (rm pl H) st rs xss) (xl:xss.length=fs.length) (ok:∀ xs∈xss,zu0 (ownH sd n m) xs) (tb:∀ k c,k<fs.length->c<=othH sd n m->-(10 ^ 60)<=tabR sd ((zc6 sd fs xss).drop k) c/\tabR sd ((zc6 sd fs xss).drop k) c<=10 ^ 60)
  (q:∀ (r t0 t1 t2 t3:Addr) (q0 q1 q2 q3:List Addr) (T1 T2 T3:Nat->Nat->Int) (H':Hp),Chg pl H H'->zc0 H' pl (b+1000)->rm pl H' r=some (.lst [.ref t0,.ref t1,.ref t2,.ref t3])->zd3 (rm pl H') t0 q0 fs.length (othH sd n m+1) (fun k=>tabR sd ((zc6 sd fs xss).drop k))->zd3 (rm pl H') t1 q1 fs.length (othH sd n m+1) T1->BdG fs.length (othH sd n m+1) T1->zd3 (rm pl H') t2 q2 fs.length (othH sd n m+1) T2->BdG fs.length (othH sd n m+1) T2->zd3 (rm pl H') t3 q3 fs.length (othH sd n m+1) T3->BdG fs.length (othH sd n m+1) T3->Q (.ref r) H'):zf6 [.ref pl,.ref bt,.int (sdI sd),.ref st] H Q E:=by
 unfold zf6;exact⟨pl,bt,l,st,b,ps,n,m,sd,fs,rs,xss,rfl,L,hb,B,O,D,S,xl,ok,tb,q⟩
set_option maxHeartbeats 0 in
theorem zah6 {f:Addr}{fd:FuncData}(F:Fun K "_law_tables" "_law_tables" zk2 f fd) (N:Nm mg) (zck1:Def P w K mg base CX0 2 "_law_draw" ["_law_left_here","_law_base"] zd1) (zcm8:Def P w K mg base CX0 3 "_law_table" ["_law_battle_here","_law_side","_law_stream"] zg6):FnOk P w K mg base CX0 4 f fd ["_law_left_here","_law_battle_here","_law_side","_law_stream"] zf6:=by
 refine F.ok zi1 (fun vs H Q E h=>by unfold zf6 at h;obtain⟨_,_,_,_,_,_,_,_,_,_,_,_,rfl,_⟩:=h;rfl) (fun cdv A outer s H vs Q E hr h=>?_)
 unfold zf6 at h
 obtain⟨pl,bt,l,st,b,ps,n,m,sd,fs,rs,xss,rfl,L,hb,B,O,D,S,xl,ok,tb,q⟩:=h
 have hu:=hu40 hr
 have o1:=O.1
 have o2:=O.2
 obtain⟨ho,hw⟩:=zab5 O sd
 obtain⟨opl,epl⟩:=L.some
 refine⟨_,(za4 (psS (i:=4) zi1.nd (pD zcm8 hr zb7 (za0 (pq 1) (za0 (pq 2) (za0 (pq 3) za1)))))
   (za4 (psC (i:=5) (N:=["_law_row","_law_side","_law_left_here"]) (ks:=[none,some 2,some 0]) zi1.nd (ze3 (K:=K) rfl (pq 4)) (fun cl C s3 H3 fp=>(za7 (i:=0) nb_26 rfl (by first|exact Or.inl rfl|exact Or.inr rfl))) (fun cl C s3 H3 fp=>zc4) (fun cl C s3 H3 fp=>(zf2 (N:=["_law_number","_law_side","_law_left_here"]) (ks:=[none,some 1,some 2]) (ze3 (K:=K) rfl (pq 0)) (fun cl C s3 H3 fp=>(za7 (i:=0) nb_27 rfl (by first|exact Or.inl rfl|exact Or.inr rfl))) (fun cl C s3 H3 fp=>zc4) (fun cl C s3 H3 fp=>(zb5 oSub (pq 0) (zb5 oMul (za8 (K:=K) rfl (zk8 (za0 za2 (za0 (zai3 uNeg za2) za1))) (pq 1)) (pD zck1 hr zb7 (za0 (pq 2) (za0 za2 za1)))))) (.skip (.take rfl rfl (by first|exact Or.inl rfl|exact Or.inr rfl) (.take rfl rfl (by first|exact Or.inl rfl|exact Or.inr rfl) .nil))))) (.skip (.take rfl rfl (by first|exact Or.inl rfl|exact Or.inr rfl) (.take rfl rfl (by first|exact Or.inl rfl|exact Or.inr rfl) .nil))))
   (za4 (psC (i:=6) (N:=["_law_row","_law_left_here"]) (ks:=[none,some 0]) zi1.nd (ze3 (K:=K) rfl (pq 4)) (fun cl C s3 H3 fp=>(za7 (i:=0) nb_28 rfl (by first|exact Or.inl rfl|exact Or.inr rfl))) (fun cl C s3 H3 fp=>zc4) (fun cl C s3 H3 fp=>(zf2 (N:=["_law_number","_law_left_here"]) (ks:=[none,some 1]) (ze3 (K:=K) rfl (pq 0)) (fun cl C s3 H3 fp=>(za7 (i:=0) nb_29 rfl (by first|exact Or.inl rfl|exact Or.inr rfl))) (fun cl C s3 H3 fp=>zc4) (fun cl C s3 H3 fp=>(zb5 oSub (pD zck1 hr zb7 (za0 (pq 1) (za0 za2 za1))) za2)) (.skip (.take rfl rfl (by first|exact Or.inl rfl|exact Or.inr rfl) .nil)))) (.skip (.take rfl rfl (by first|exact Or.inl rfl|exact Or.inr rfl) .nil)))
   (za4 (psC (i:=7) (N:=["_law_row"]) (ks:=[none]) zi1.nd (ze3 (K:=K) rfl (pq 4)) (fun cl C s3 H3 fp=>(za7 (i:=0) nb_30 rfl (by first|exact Or.inl rfl|exact Or.inr rfl))) (fun cl C s3 H3 fp=>zc4) (fun cl C s3 H3 fp=>(pT (cListK (K:=K) rfl) N.list_ zaa0 (za0 (pq 0) za1))) (.skip .nil))
   (za4 (psS (i:=8) zi1.nd (pD zck1 hr zb7 (za0 (pq 0) (za0 (pB (zo8 (K:=K) rfl) N.len_ zg5 (za0 (pq 7) za1)) za1))))
   (za4 (psAugS (za8 (K:=K) rfl (pq 7) (pq 8)) (pD zck1 hr zb7 (za0 (pq 0) (za0 (pB (zo8 (K:=K) rfl) N.len_ zg5 (za0 (za8 (K:=K) rfl (pq 7) (pq 8)) za1)) za1))) (za8 (K:=K) rfl (zk8 (za0 za2 (za0 (zai3 uNeg za2) za1))) (pq 2)))
   (za6 (zb0 (zk8 (za0 (pq 4) (za0 (pq 5) (za0 (pq 6) (za0 (pq 7) za1))))))))))))),?_⟩
 refine zby2 (B.same (zk6 _ _)) O D (S.same (zk6 _ _)) xl ok (fun t0 q0 H1 s1 G0=>?_)
 have G1:=G0.same (nw_rm epl)
 have L1:=L.same s1
 have ql:=G1.len
 refine zb8 (zk6 pl H1 _ _ G1.out) ?_
 obtain⟨o_a,e_a⟩:=L1.some
 refine zv8 (xs:=q0.map V.ref) (by rw[zcq3,sizeLine_eq];omega) (fun r_a K_a f_a s_a h_a=>?_)
 have nr_a:r_a≠pl:=L1.ne f_a
 have out_a:=zh4 G1.out
 refine⟨fun i ys σ I=>∃ (t:Option V) (rs':List Addr) (zs:List (List Int)),σ=[t,some (.int (sdI sd)),some (.ref pl)]/\ys=rs'.map V.ref/\zc0 I pl (b+10+50*i)/\Chg2 pl r_a H1 I/\rs'.length=i/\zs.length=i/\∀ (k:Nat) q z,rs'[k]?=some q->zs[k]?=some z->H1 q=none/\q≠r_a/\I q=some (.lst (z.map V.int))/\z.length=othH sd n m+1/\∀ y∈z,-(10 ^ 61)<=y/\y<=10 ^ 61,?_,?_,?_,?_⟩
 ·exact⟨none,[],[],rfl,rfl,(L1.same s_a).up (by walk_at "om"),s_a.to2,rfl,rfl,fun k q z e=>by simp at e⟩
 ·rintro i ys σ I ⟨_,_,_,_,_,_,c4,_⟩
  exact SqL.of (c4 _ _ out_a.1 (za5 out_a.2 f_a) out_a.2)
 ·rintro i mm x ys σ I hx hi hm hl h4 ⟨t,rs',zs,rfl,rfl,L4,c4,rl,zl,pr⟩
  rw[zcq8] at hx
  obtain⟨p,ep,rfl⟩:=zcr1.mp hx
  have hi':i<fs.length:=by rw[zcq3] at hi;omega
  have hp:=zh4 (G1.row i p ep)
  have hpI:=c4 _ _ hp.1 (za5 hp.2 f_a) hp.2
  refine br_T ?_
  refine zb8 hpI ?_
  refine zv8 (xs:=rowV (othH sd n m+1) (tabR sd ((zc6 sd fs xss).drop i))) (by rw[zd0,sizeLine_eq];omega) (fun acc I5 f5 s5 h5=>?_)
  have na:acc≠pl:=L4.ne f5
  have nra:r_a≠acc:=za5 h4 f5
  refine⟨fun j ys σ J=>∃ (t:Option V) (ns:List Int),σ=[t,some (.int (sdI sd)),some (.ref pl)]/\ys=ns.map V.int/\zc0 J pl (b+10+50*i+j)/\Chg2 pl acc I J/\ns.length=j/\∀ y∈ns,-(10 ^ 61)<=y/\y<=10 ^ 61,?_,?_,?_,?_⟩
  ·exact⟨none,[],rfl,rfl,(L4.same s5).up (by walk_at "om"),s5.to2,rfl,fun y hy=>by cases hy⟩
  ·rintro j ys σ J ⟨_,_,_,_,_,c6,_⟩
   exact SqL.of (c6 _ _ hp.1 (za5 hpI f5) hpI)
  ·rintro j m6 x ys σ J hx hj hm6 hl6 h6 ⟨t6,ns,rfl,rfl,L6,c6,nl,nb⟩
   have hj:j<othH sd n m+1:=by rwa [zd0] at hj
   rw[zf1 hj] at hx
   cases hx
   have tbj:=tb i j hi' (by walk_at "om")
   refine br_T ?_
   refine zc7 (fun p7 J7 f7 s7 h7=>?_)
   refine zb6 (v:=.int (if sd then -1 else 1)) h7 (by cases sd<;>rfl) ?_
   refine ze6 (L6.same s7) (by walk_at "om") (by walk_at "om") (by walk_at "om") (fun d8 J8 d80 d81 c8 L8=>?_)
   refine zu6 (zp6 (by cases sd<;>decide) (by cases sd<;>decide) (by walk_at "om") (by walk_at "om")) ?_
   walk_at "wh"
   have c68:Chg2 pl acc I J8:=fun x o z1 z2 e=>c8 _ _ z1 (s7 _ _ (c6 _ _ z1 z2 e))
   have bd:-(10 ^ 61)<=tabR sd ((zc6 sd fs xss).drop i) j - (if sd then -1 else 1)*d8/\tabR sd ((zc6 sd fs xss).drop i) j - (if sd then -1 else 1)*d8<=10 ^ 61:=by
    cases sd
    ·rw[if_neg zcr2];exact⟨by walk_at "om",by walk_at "om"⟩
    ·rw[if_pos rfl];exact⟨by walk_at "om",by walk_at "om"⟩
   refine zp2 (by rw[zd0];exact hj) hm6 hl6 (c8 _ _ na (s7 _ _ h6)) (fun J9 c9 h9=>?_)
   exact⟨_,ns++[_],rfl,by rw[zcs3];rfl,(L8.chg c9 (Ne.symm na)).up (by push_cast;omega),fun x o z1 z2 e=>c9 _ _ z2 (c68 _ _ z1 z2 e),by rw[zcr6,nl];rfl,zao2 nb bd⟩
  ·rintro ys σ J h6 ⟨t6,ns,rfl,rfl,L6,c6,nl,nb⟩
   rw[zd0] at nl L6
   refine zp2 hi hm hl (c6 _ _ nr_a nra h4) (fun I7 c7 h7=>?_)
   refine⟨_,rs'++[acc],zs++[ns],rfl,by rw[zcs3];rfl,(L6.chg c7 (Ne.symm nr_a)).up (by push_cast;omega),fun x o z1 z2 e=>c7 _ _ z2 (c6 _ _ z1 (za5 (c4 _ _ z1 z2 e) f5) (c4 _ _ z1 z2 e)),by rw[zcr6,rl];rfl,by rw[zcr6,zl];rfl,fun k q z e1 e2=>?_⟩
   rcases zc9 e1 with ⟨a1,a2⟩|⟨a1,a2⟩
   ·rcases zc9 e2 with ⟨b1,b2⟩|⟨b1,b2⟩
    ·obtain⟨w1,w2,w3,w4⟩:=pr k q z a2 b2
     have nq1:q≠pl:=fun z'=>by rw[z',e_a] at w1;cases w1
     exact⟨w1,w2,c7 _ _ w2 (c6 _ _ nq1 (za5 w3 f5) w3),w4⟩
    ·omega
   ·rcases zc9 e2 with ⟨b1,b2⟩|⟨b1,b2⟩
    ·omega
    ·rw[a2,b2]
     exact⟨zat6 c4 f5 na (Ne.symm nra),Ne.symm nra,c7 _ _ (Ne.symm nra) h6,nl,nb⟩
 rintro ys_a σ_a H2 hacc_a ⟨_,rs_a,zs_a,rfl,rfl,L2,c_a,rl_a,zl_a,pr_a⟩
 rw[zcq3,ql] at rl_a zl_a L2
 have k_a:Same (rm pl H1) (rm pl H2):=fun x o e=>zo7 (zh4 e).1 (c_a _ _ (zh4 e).1 (za5 (zh4 e).2 f_a) (zh4 e).2)
 have y_a:Chg pl H1 H2:=fun x o z e=>c_a _ _ z (za5 e f_a) e
 obtain⟨G_a,BD_a⟩:=zbn8 (H:=rm pl H2) (w:=othH sd n m+1) (zo7 nr_a hacc_a) rl_a zl_a (fun i q z a1 a2=>by
  obtain⟨w1,w2,w3,w4⟩:=pr_a i q z a1 a2
  exact⟨zo7 (fun z'=>by rw[z',e_a] at w1;cases w1) w3,w4⟩)
 have G2:=G1.same k_a
 refine zb8 (zk6 pl H2 _ _ G2.out) ?_
 obtain⟨o_d,e_d⟩:=L2.some
 refine zv8 (xs:=q0.map V.ref) (by rw[zcq3,sizeLine_eq];omega) (fun r_d K_d f_d s_d h_d=>?_)
 have nr_d:r_d≠pl:=L2.ne f_d
 have out_d:=zh4 G2.out
 refine⟨fun i ys σ I=>∃ (t:Option V) (rs':List Addr) (zs:List (List Int)),σ=[t,some (.ref pl)]/\ys=rs'.map V.ref/\zc0 I pl (b+300+50*i)/\Chg2 pl r_d H2 I/\rs'.length=i/\zs.length=i/\∀ (k:Nat) q z,rs'[k]?=some q->zs[k]?=some z->H2 q=none/\q≠r_d/\I q=some (.lst (z.map V.int))/\z.length=othH sd n m+1/\∀ y∈z,-(10 ^ 61)<=y/\y<=10 ^ 61,?_,?_,?_,?_⟩
 ·exact⟨none,[],[],rfl,rfl,(L2.same s_d).up (by walk_at "om"),s_d.to2,rfl,rfl,fun k q z e=>by simp at e⟩
 ·rintro i ys σ I ⟨_,_,_,_,_,_,c4,_⟩
  exact SqL.of (c4 _ _ out_d.1 (za5 out_d.2 f_d) out_d.2)
 ·rintro i mm x ys σ I hx hi hm hl h4 ⟨t,rs',zs,rfl,rfl,L4,c4,rl,zl,pr⟩
  rw[zcq8] at hx
  obtain⟨p,ep,rfl⟩:=zcr1.mp hx
  have hi':i<fs.length:=by rw[zcq3] at hi;omega
  have hp:=zh4 (G2.row i p ep)
  have hpI:=c4 _ _ hp.1 (za5 hp.2 f_d) hp.2
  refine br_T ?_
  refine zb8 hpI ?_
  refine zv8 (xs:=rowV (othH sd n m+1) (tabR sd ((zc6 sd fs xss).drop i))) (by rw[zd0,sizeLine_eq];omega) (fun acc I5 f5 s5 h5=>?_)
  have na:acc≠pl:=L4.ne f5
  have nra:r_d≠acc:=za5 h4 f5
  refine⟨fun j ys σ J=>∃ (t:Option V) (ns:List Int),σ=[t,some (.ref pl)]/\ys=ns.map V.int/\zc0 J pl (b+300+50*i+j)/\Chg2 pl acc I J/\ns.length=j/\∀ y∈ns,-(10 ^ 61)<=y/\y<=10 ^ 61,?_,?_,?_,?_⟩
  ·exact⟨none,[],rfl,rfl,(L4.same s5).up (by walk_at "om"),s5.to2,rfl,fun y hy=>by cases hy⟩
  ·rintro j ys σ J ⟨_,_,_,_,_,c6,_⟩
   exact SqL.of (c6 _ _ hp.1 (za5 hpI f5) hpI)
  ·rintro j m6 x ys σ J hx hj hm6 hl6 h6 ⟨t6,ns,rfl,rfl,L6,c6,nl,nb⟩
   have hj:j<othH sd n m+1:=by rwa [zd0] at hj
   rw[zf1 hj] at hx
   cases hx
   have tbj:=tb i j hi' (by walk_at "om")
   refine br_T ?_
   refine ze6 L6 (by walk_at "om") (by walk_at "om") (by walk_at "om") (fun d8 J8 d80 d81 c8 L8=>?_)
   walk_at "wh"
   have c68:Chg2 pl acc I J8:=fun x o z1 z2 e=>c8 _ _ z1 (c6 _ _ z1 z2 e)
   have bd:-(10 ^ 61)<=d8 - 10/\d8 - 10<=10 ^ 61:=⟨by walk_at "om",by walk_at "om"⟩
   refine zp2 (by rw[zd0];exact hj) hm6 hl6 (c8 _ _ na h6) (fun J9 c9 h9=>?_)
   exact⟨_,ns++[_],rfl,by rw[zcs3];rfl,(L8.chg c9 (Ne.symm na)).up (by push_cast;omega),fun x o z1 z2 e=>c9 _ _ z2 (c68 _ _ z1 z2 e),by rw[zcr6,nl];rfl,zao2 nb bd⟩
  ·rintro ys σ J h6 ⟨t6,ns,rfl,rfl,L6,c6,nl,nb⟩
   rw[zd0] at nl L6
   refine zp2 hi hm hl (c6 _ _ nr_d nra h4) (fun I7 c7 h7=>?_)
   refine⟨_,rs'++[acc],zs++[ns],rfl,by rw[zcs3];rfl,(L6.chg c7 (Ne.symm nr_d)).up (by push_cast;omega),fun x o z1 z2 e=>c7 _ _ z2 (c6 _ _ z1 (za5 (c4 _ _ z1 z2 e) f5) (c4 _ _ z1 z2 e)),by rw[zcr6,rl];rfl,by rw[zcr6,zl];rfl,fun k q z e1 e2=>?_⟩
   rcases zc9 e1 with ⟨a1,a2⟩|⟨a1,a2⟩
   ·rcases zc9 e2 with ⟨b1,b2⟩|⟨b1,b2⟩
    ·obtain⟨w1,w2,w3,w4⟩:=pr k q z a2 b2
     have nq1:q≠pl:=fun z'=>by rw[z',e_d] at w1;cases w1
     exact⟨w1,w2,c7 _ _ w2 (c6 _ _ nq1 (za5 w3 f5) w3),w4⟩
    ·omega
   ·rcases zc9 e2 with ⟨b1,b2⟩|⟨b1,b2⟩
    ·omega
    ·rw[a2,b2]
     exact⟨zat6 c4 f5 na (Ne.symm nra),Ne.symm nra,c7 _ _ (Ne.symm nra) h6,nl,nb⟩
 rintro ys_d σ_d H3 hacc_d ⟨_,rs_d,zs_d,rfl,rfl,L3,c_d,rl_d,zl_d,pr_d⟩
 rw[zcq3,ql] at rl_d zl_d L3
 have k_d:Same (rm pl H2) (rm pl H3):=fun x o e=>zo7 (zh4 e).1 (c_d _ _ (zh4 e).1 (za5 (zh4 e).2 f_d) (zh4 e).2)
 have y_d:Chg pl H2 H3:=fun x o z e=>c_d _ _ z (za5 e f_d) e
 obtain⟨G_d,BD_d⟩:=zbn8 (H:=rm pl H3) (w:=othH sd n m+1) (zo7 nr_d hacc_d) rl_d zl_d (fun i q z a1 a2=>by
  obtain⟨w1,w2,w3,w4⟩:=pr_d i q z a1 a2
  exact⟨zo7 (fun z'=>by rw[z',e_d] at w1;cases w1) w3,w4⟩)
 have G3:=G2.same k_d
 have Ga3:=G_a.same k_d
 refine zb8 (zk6 pl H3 _ _ G3.out) ?_
 refine zac0 (n:=(q0.map V.ref).length) (Wk.list (SqL.of (zk6 pl H3 _ _ G3.out))) (by rw[zcq3,sizeLine_eq];omega) (fun i=>.lst (rowV (othH sd n m+1) (tabR sd ((zc6 sd fs xss).drop i)))) (fun j σ=>∃ t:Option V,σ=[t]) ⟨none,rfl⟩ ?_ ?_
 ·rintro i x σ I R' S' hi sI hx ⟨_,rfl⟩ kk
  rw[zcq8] at hx
  obtain⟨p,ep,rfl⟩:=zcr1.mp hx
  refine br_T ?_
  refine zbx7 (SqL.of (sI _ _ (zk6 pl H3 _ _ (G3.row i p ep)))) (fun p2 I2 f2 s2 h2=>?_)
  walk_at "wh"
  exact kk _ p2 I2 f2 s2 h2 ⟨_,rfl⟩
 intro tg tqs H4 FL
 rw[zcq3,ql] at FL
 have tl:=FL.len
 have s4:=FL.same
 have L4:=L3.same s4
 have ntg:tg≠pl:=L3.ne FL.facc
 refine zf3 FL.out ?_
 rw[zcq3,tl]
 refine ze6 L4 (by walk_at "om") (by walk_at "om") (by walk_at "om") (fun d5 H5 d50 d51 c5 L5=>?_)
 obtain⟨k,rfl⟩:∃ k:Nat,d5=k:=⟨d5.toNat,by walk_at "om"⟩
 have hk:k<fs.length:=by walk_at "om"
 obtain⟨tk,etk,htk⟩:=FL.some hk
 have ftk:=FL.free (zcr0 etk)
 have ntk:tk≠pl:=L3.ne ftk
 have ntt:tg≠tk:=fun e=>FL.nin (e▸zcr0 etk)
 have out5:=c5 _ _ ntg FL.out
 have htk5:=c5 _ _ ntk htk
 refine zb6 (v:=.ref tk) out5 (zc5 (by rw[zcq8,etk];rfl)) ?_
 refine zb6 (v:=.ref tk) out5 (zc5 (by rw[zcq8,etk];rfl)) ?_
 refine zf3 htk5 ?_
 rw[zd0]
 refine ze6 L5 (by walk_at "om") (by walk_at "om") (by walk_at "om") (fun d6 H6 d60 d61 c6 L6=>?_)
 obtain⟨c,rfl⟩:∃ c:Nat,d6=c:=⟨d6.toNat,by walk_at "om"⟩
 have hc:c<othH sd n m+1:=by walk_at "om"
 have htk6:=c6 _ _ ntk htk5
 refine get_rd (v:=.int (tabR sd ((zc6 sd fs xss).drop k) c)) htk6 (by walk_at "om") (zc5 (zf1 hc)) ?_
 refine zc7 (fun p7 H7 f7 s7 h7=>?_)
 refine zb6 (v:=.int (if sd then -1 else 1)) h7 (by cases sd<;>rfl) ?_
 refine zbc8 (j:=c) (s7 _ _ htk6) (by unfold ixN;rw[zd0,if_pos (by walk_at "om"),if_pos (by walk_at "om"),zcx1]) (fun H8 c8 h8=>?_)
 rw[zbd0] at h8
 have c36:Chg pl H3 H7:=((s4.toChg.trans c5).trans c6).same s7
 have k38:Same (rm pl H3) (rm pl H8):=fun x o e=>zo7 (zh4 e).1 (c8 _ _ (fun z=>by rw[z] at e;have:=(zh4 e).2;rw[ftk] at this;cases this) (c36 _ _ (zh4 e).1 (zh4 e).2))
 have y38:Chg pl H3 H8:=fun x o z e=>c8 _ _ (fun z'=>by rw[z',ftk] at e;cases e) (c36 _ _ z e)
 have y08:Chg pl H H8:=((s1.toChg.trans y_a).trans y_d).trans y38
 have L8:=(L6.same s7).chg c8 (Ne.symm ntk)
 have c46:Chg pl H4 H7:=(c5.trans c6).same s7
 have GT:zd3 (rm pl H8) tg tqs fs.length (othH sd n m+1) (fun i d=>if i=k/\d=c then tabR sd ((zc6 sd fs xss).drop k) c+(if sd then -1 else 1) else tabR sd ((zc6 sd fs xss).drop i) d):=by
  refine⟨zo7 ntg (c8 _ _ ntt (c46 _ _ ntg FL.out)),tl,fun i p e=>?_⟩
  have np:p≠pl:=L3.ne (FL.row i p e).1
  by_cases hik:i=k
  ·subst hik
   have:p=tk:=by rw[etk] at e;exact (Option.some.inj e).symm
   subst this
   rw[zo7 np h8]
   refine congrArg some (congrArg HO.lst (zv9 fun d _=>?_))
   by_cases hd:d=c
   ·rw[if_pos hd];exact (if_pos (show i=i/\d=c from ⟨rfl,hd⟩)).symm
   ·rw[if_neg hd];exact (if_neg (show ¬ (i=i/\d=c) from fun z=>hd z.2)).symm
  ·have npk:p≠tk:=fun e2=>by
    subst e2
    have l1:=(zcq6.mp e)
    have l2:=(zcq6.mp etk)
    exact hik ((List.getElem_inj FL.nd).mp (l1.2.trans l2.2.symm))
   rw[zo7 np (c8 _ _ npk (c46 _ _ np (FL.row i p e).2))]
   refine congrArg some (congrArg HO.lst (zv9 fun d _=>?_))
   exact (if_neg (show ¬ (i=k/\d=c) from fun z=>hik z.1)).symm
 have BT:BdG fs.length (othH sd n m+1) (fun i d=>if i=k/\d=c then tabR sd ((zc6 sd fs xss).drop k) c+(if sd then -1 else 1) else tabR sd ((zc6 sd fs xss).drop i) d):=fun i d hi hd=>by
  have a1:=tb i d hi (by walk_at "om")
  have a2:=tb k c hk (by walk_at "om")
  show -(10 ^ 61)<=(if i=k/\d=c then tabR sd ((zc6 sd fs xss).drop k) c+(if sd then -1 else 1) else tabR sd ((zc6 sd fs xss).drop i) d)/\(if i=k/\d=c then tabR sd ((zc6 sd fs xss).drop k) c+(if sd then -1 else 1) else tabR sd ((zc6 sd fs xss).drop i) d)<=10 ^ 61
  by_cases z:i=k/\d=c
  ·rw[if_pos z]
   cases sd
   ·rw[if_neg zcr2];exact⟨by walk_at "om",by walk_at "om"⟩
   ·rw[if_pos rfl];exact⟨by walk_at "om",by walk_at "om"⟩
  ·rw[if_neg z];exact⟨by walk_at "om",by walk_at "om"⟩
 refine zc7 (fun r9 H9 f9 s9 h9=>?_)
 walk_at "wh"
 exact q r9 t0 r_a r_d tg q0 rs_a rs_d tqs _ _ _ H9 (y08.same s9) ((L8.same s9).up (by walk_at "om")) (zo7 (L8.ne f9) h9) ((G3.same k38).same (Same.rm s9)) ((Ga3.same k38).same (Same.rm s9)) BD_a ((G_d.same k38).same (Same.rm s9)) BD_d (GT.same (Same.rm s9)) BT
theorem zag7 {α:Type}(c:Int):∀ xs:List α,(xs.map fun _=>c).sum=(xs.length:Int)*c
 | []=>by simp
 | x :: xs=>by
  rw[zcs8,zcu6,zag7 c xs,zct0]
  push_cast
  rw[Int.add_mul,Int.one_mul,Int.add_comm]
theorem zbd5 {ms:List (List Int×Int)}{h:Int}{f:Nat}(O:OkS ms h f) (hl:ms.length<=5) (hw:∀ x∈ms,x.2<=10 ^ 20):1<=zq9 ms/\zq9 ms<=5*10 ^ 20:=by
 have ne:=O.ne
 have h1:=zag5 (f:=fun _:List Int×Int=>(1:Int)) (g:=fun x=>x.2) (xs:=ms) fun x hx=>(O.all x hx).2.2.2
 have h2:=zag5 (f:=fun x:List Int×Int=>x.2) (g:=fun _=>(10:Int) ^ 20) (xs:=ms) hw
 rw[zag7] at h1 h2
 unfold zq9
 exact⟨by walk_at "om",by walk_at "om"⟩
theorem zaq3 {ms:List (List Int×Int)}{h:Int}{f i:Nat}{xs:List (Int×Int×Int)}(O:OkS ms h f) (hi:i<f) (R:zz0 ms i xs):(xs.map fun z=>z.2.2).sum=zq9 ms:=by
 have e1:(xs.map fun z=>z.2.2)=(xs.map keyT).map fun k=>atG (flw ms i) k*(fun _=>(1:Int)) k:=by
  rw[zct5]
  exact zcs6 fun z hz=>by
   show z.2.2=atG (flw ms i) (keyT z)*1
   rw[← (zt6 O hi R hz).2.2.1,Int.mul_one]
 rw[e1,zan9 R.1.1 (fun _=>(1:Int)) fun z hz=>(R.2.1 _).mpr ((zo6 _).2 _ |>.mpr (zcs5.mpr ⟨z,hz,rfl⟩))]
 unfold flw zq9
 rw[zct5]
 exact congrArg List.sum (zcs6 fun x _=>Int.mul_one _)
theorem zbv9 {ms:List (List Int×Int)}{h:Nat}{f i:Nat}{xs:List (Int×Int×Int)}(O:OkS ms h f) (hl:ms.length<=5) (hw:∀ x∈ms,x.2<=10 ^ 20) (hi:i<f) (R:zz0 ms i xs) (hx:xs.length<=ms.length):zu0 h xs:=by
 refine⟨by walk_at "om",fun z hz=>?_⟩
 obtain⟨x,hx,e1,e2⟩:=zap5 R hz
 obtain⟨nn,xl,xs',_⟩:=O.all x hx
 obtain⟨a,b,c,d⟩:=zt6 O hi R hz
 have m1:=(zj4 nn).1 (x.1.getD i 0) (by
  rw[zcq7,zcq4 (by walk_at "om")]
  exact zcw5 _)
 have m2:z.2.2<=zq9 ms:=by
  rw[← zaq3 O hi R]
  exact (zj4 (ns:=xs.map fun z=>z.2.2) (fun y hy=>by
   obtain⟨z',hz',rfl⟩:=zcs5.mp hy
   have:=(zt6 O hi R hz').2.2.2
   omega)).1 _ (zcs5.mpr ⟨z,hz,rfl⟩)
 have:=zbd5 O hl hw
 exact⟨⟨a,by walk_at "om"⟩,by walk_at "om",by walk_at "om"⟩
theorem zbz3 {ms:List (List Int×Int)}{h:Nat}{f:Nat}{xss:List (List (Int×Int×Int))}(O:OkS ms h f) (hl:ms.length<=5) (hw:∀ x∈ms,x.2<=10 ^ 20) (S:zau5 ms f xss):∀ xs∈xss,zu0 h xs/\xs.length<64:=fun xs hx=>by
 obtain⟨i,ei⟩:=zcv6 hx
 have:=(zcq6.mp ei).1
 have sl:=S.1
 obtain⟨R,l⟩:=S.2 i xs ei
 exact⟨zbv9 O hl hw (by walk_at "om") R l,by walk_at "om"⟩
theorem due_bd {ms:List (List Int×Int)}{n m:Nat}{f i c:Nat}{sd:Bool}{fd:Fd}{xs:List (Int×Int×Int)}(O:OkS ms (ownH sd n m:Nat) f) (hl:ms.length<=5) (hw:∀ x∈ms,x.2<=10 ^ 20) (ok:fd.Ok) (bd:fd.Bd n m) (hi:i<f) (R:zz0 ms i xs) (hc:c<=othH sd n m):-(10 ^ 50)<=dueS sd fd xs c/\dueS sd fd xs c<=10 ^ 50:=by
 rw[zbz9 O hi R]
 have each:∀ x∈ms,-(2*10 ^ 48)<=x.2*wonS sd fd (x.1.getD i 0).toNat c/\x.2*wonS sd fd (x.1.getD i 0).toNat c<=2*10 ^ 48:=fun x hx=>by
  obtain⟨nn,xl,xs',x1⟩:=O.all x hx
  have x2:=hw x hx
  have m1:=(zj4 nn).1 (x.1.getD i 0) (by
   rw[zcq7,zcq4 (by walk_at "om")]
   exact zcw5 _)
  have wb:-(2*10 ^ 28)<=wonS sd fd (x.1.getD i 0).toNat c/\wonS sd fd (x.1.getD i 0).toNat c<=2*10 ^ 28:=by
   cases sd
   ·have xs':x.1.sum=(n:Int):=xs'
    have hc:c<=m:=hc
    exact Fd.won_bd ok bd (by walk_at "om") hc
   ·have xs':x.1.sum=(m:Int):=xs'
    have hc:c<=n:=hc
    exact Fd.won_bd ok bd hc (by walk_at "om")
  generalize wonS sd fd (x.1.getD i 0).toNat c=y at wb ⊢
  have p1:=Int.mul_le_mul_of_nonneg_left wb.2 (show 0<=x.2 by walk_at "om")
  have p2:=Int.mul_le_mul_of_nonneg_left wb.1 (show 0<=x.2 by walk_at "om")
  generalize x.2*y=z at p1 p2 ⊢
  exact⟨by walk_at "om",by walk_at "om"⟩
 have h1:=zag5 (f:=fun _:List Int×Int=>-(2*(10:Int) ^ 48)) (xs:=ms) fun x hx=>(each x hx).1
 have h2:=zag5 (g:=fun _:List Int×Int=>2*(10:Int) ^ 48) (xs:=ms) fun x hx=>(each x hx).2
 rw[zag7] at h1 h2
 exact⟨by walk_at "om",by walk_at "om"⟩
theorem zcb6 {sd:Bool}{C:Nat}{B:Int}(hB:0<=B):∀ {ds:List (Nat->Int)},(∀ d∈ds,∀ c,c<=C->-B<=d c/\d c<=B)->∀ r,r<=C->-((ds.length:Int)*B)<=tabR sd ds r/\tabR sd ds r<=(ds.length:Int)*B
 | [],_,r,_=>by
  show -(((0:Nat):Int)*B)<=0/\0<=((0:Nat):Int)*B
  simp
 | [d],h,r,hr=>by
  have:=h d (.head _) r hr
  show -(((1:Nat):Int)*B)<=d r/\d r<=((1:Nat):Int)*B
  simpa using this
 | d :: e :: ds,h,r,hr=>by
  have ih:=zcb6 (sd:=sd) hB (ds:=e :: ds) (fun x hx=>h x (.tail _ hx))
  obtain⟨s,hs,es⟩:=zcs5.mp (zz5 sd (xs:=(List.range (r+1)).map fun s=>d s+tabR sd (e :: ds) (r - s)) (by simp))
  have hs:=zcu9.mp hs
  show -(((d :: e :: ds).length:Int)*B)<=optL sd ((List.range (r+1)).map fun s=>d s+tabR sd (e :: ds) (r - s))/\optL sd ((List.range (r+1)).map fun s=>d s+tabR sd (e :: ds) (r - s))<=((d :: e :: ds).length:Int)*B
  rw[← es]
  have a1:=h d (.head _) s (by walk_at "om")
  have a2:=ih (r - s) (by walk_at "om")
  have e3:((d :: e :: ds).length:Int)*B=((e :: ds).length:Int)*B+B:=by
   rw[zct0]
   push_cast
   rw[Int.add_mul,Int.one_mul]
  rw[e3]
  exact⟨by walk_at "om",by walk_at "om"⟩
theorem lg_pos {t b:Int}(hb:0<b):0<lg t b:=by
 have:=zbs6 (t:=t) (b:=b) (by walk_at "om")
 unfold lg;rw[if_neg (by walk_at "om")];exact this
theorem zbp6 (t b:Int):lowT t b*b=t*lowB t b:=by
 have e1:=zbe4 t b
 have e2:=zbe0 t b
 have e3:lowT t b*(lg t b*lowB t b)=(lg t b*lowT t b)*lowB t b:=by
  rw[← Int.mul_assoc,Int.mul_comm (lowT t b)]
 rw[← e1,← e2] at e3
 exact e3
theorem zca5 {t b u c:Int}(hb:0<b) (hc:0<c):(lowT u c*b<=t*lowB u c↔u*b<=t*c)/\(t*lowB u c<=lowT u c*b↔t*c<=u*b):=by
 have g:=lg_pos (t:=u) hc
 have e1:lg u c*(lowT u c*b)=u*b:=by rw[← Int.mul_assoc,← zbe4]
 have e2:lg u c*(t*lowB u c)=t*c:=by rw[Int.mul_left_comm,← zbe0]
 rw[← e1,← e2]
 exact⟨(Int.mul_le_mul_left g).symm,(Int.mul_le_mul_left g).symm⟩
def spLaw (K:zcq5):Sp:=fun vs H Q _=>∃ (a:Addr) (ns:List Int),vs=[.ref a]/\SqL K H a (ns.map V.int)/\ns.length<=63/\∀ H',Q (.bl true) H'
theorem zar6 {ns:List Int}(h:ns.length<=63):[V.int 0].length+(cutV (ns.map V.int) none (some 30)).length<=sizeLine:=by
 rw[zag2 (by decide),zcw0,zcq3,sizeLine_eq,zcw7];omega
theorem zav1 {ns:List Int}{i:Nat}{x:V}(h:([V.int 0]++cutV (ns.map V.int) none (some 30))[i]?=some x):∃ z,x=.int z:=by
 rw[zag2 (by decide)] at h
 rcases zcu8.mp (zcr0 h) with h|h
 ·exact⟨0,by simpa using h⟩
 ·obtain⟨z,_,rfl⟩:=zcs5.mp (List.mem_of_mem_take h)
  exact⟨z,rfl⟩
def off3 (a b c:Addr) (H:Hp):Hp:=rm a (rm b (rm c H))
theorem zbi9 {a b c x:Addr}{H:Hp}{o:HO}(n1:x≠a) (n2:x≠b) (n3:x≠c) (h:H x=some o):off3 a b c H x=some o:=zo7 n1 (zo7 n2 (zo7 n3 h))
theorem zao5 {a b c x:Addr}{H:Hp}{o:HO}(h:off3 a b c H x=some o):x≠a/\x≠b/\x≠c/\H x=some o:=⟨(zh4 h).1,(zh4 (zh4 h).2).1,(zh4 (zh4 (zh4 h).2).2).1,(zh4 (zh4 (zh4 h).2).2).2⟩
theorem zat7 (a b c:Addr) (H:Hp):Same (off3 a b c H) H:=fun x o h=>(zao5 h).2.2.2
theorem zbr5 {a b c:Addr}{H H':Hp}(k:∀ x o,x≠a->x≠b->x≠c->H x=some o->H' x=some o):Same (off3 a b c H) (off3 a b c H'):=fun x o h=>by
 obtain⟨n1,n2,n3,e⟩:=zao5 h
 exact zbi9 n1 n2 n3 (k x o n1 n2 n3 e)
theorem zca3 {a b c:Addr}{H H':Hp}(s:Chg a H H'):Same (off3 a b c H) (off3 a b c H'):=zbr5 fun x o n _ _ e=>s x o n e
theorem off3_b {a b c:Addr}{H H':Hp}(s:Chg b H H'):Same (off3 a b c H) (off3 a b c H'):=zbr5 fun x o _ n _ e=>s x o n e
structure Sde where
 p:Addr
 w:Addr
 xss:List (List (Int×Int×Int))
 ms:List (List Int×Int)
def topS (sd:Bool) (n m:Nat) (fs:List Fd) (xss:List (List (Int×Int×Int))):Int:=tabR sd (zc6 sd fs xss) (othH sd n m)
def Sde.t (e:Sde) (sd:Bool) (n m:Nat) (fs:List Fd):Int:=lowT (topS sd n m fs e.xss) (zq9 e.ms)
def Sde.b (e:Sde) (sd:Bool) (n m:Nat) (fs:List Fd):Int:=lowB (topS sd n m fs e.xss) (zq9 e.ms)
structure SdAt (R:Hp) (n m:Nat) (fs:List Fd) (sd:Bool) (e:Sde):Prop where
 pap:∃ st tb rs qs,PapS R e.p st tb rs e.xss qs fs.length (othH sd n m+1) (fun k=>tabR sd ((zc6 sd fs e.xss).drop k))
 wor:R e.w=some (.tup [.int (e.t sd n m fs),.int (e.b sd n m fs)])
 oks:OkS e.ms (ownH sd n m:Nat) fs.length
 stm:zau5 e.ms fs.length e.xss
 len:e.ms.length<=5
 wts:∀ x∈e.ms,x.2<=10 ^ 20
theorem SdAt.same {R R':Hp}{n m:Nat}{fs:List Fd}{sd:Bool}{e:Sde}(S:SdAt R n m fs sd e) (s:Same R R'):SdAt R' n m fs sd e:=by
 obtain⟨st,tb,rs,qs,P⟩:=S.pap
 exact⟨⟨st,tb,rs,qs,P.same s⟩,s _ _ S.wor,S.oks,S.stm,S.len,S.wts⟩
theorem zbk9 {sd:Bool}{fs:List Fd}{xss:List (List (Int×Int×Int))}{k c:Nat}(hk:k<fs.length):∀ x∈bndS (fun k=>dueS sd (fs.getD k (.more 0 0)) (xss.getD k [])) (fun k=>tabR sd ((zc6 sd fs xss).drop k)) fs.length k c,zo3 sd (tabR sd ((zc6 sd fs xss).drop k) c) x=true:=fun x hx=>by
 rw[zbe8 hk (fun _ _=>rfl)] at hx
 rw[zv5,(zap9 sd (zao8 (sd:=sd) (xss:=xss) hk) c).1]
 exact zy5 sd x hx
theorem zbt9 (sd:Bool) (t b:Int):zo3 sd (lowT t b*b) (t*lowB t b)=true:=by
 rw[zv5,zbp6]
 unfold leS
 split<;>exact Int.le_refl _
theorem zby5 {x:Int}(h:-(10 ^ 60)<=x/\x<=10 ^ 60):-(10 ^ 200)<x/\x<10 ^ 200:=by
 have p:(10:Int) ^ 60<10 ^ 200:=by decide
 generalize (10:Int) ^ 200=N at p ⊢
 exact⟨by walk_at "om",by walk_at "om"⟩
theorem zau7 {x:Int}(h:1<=x/\x<=5*10 ^ 20):-(10 ^ 200)<x/\x<10 ^ 200:=by
 have p:5*(10:Int) ^ 20<10 ^ 200:=by decide
 generalize (10:Int) ^ 200=N at p ⊢
 exact⟨by walk_at "om",by walk_at "om"⟩
theorem zch1 {ms:List (List Int×Int)}{n m:Nat}{sd:Bool}{fs:List Fd}{xss:List (List (Int×Int×Int))}(O:OkS ms (ownH sd n m:Nat) fs.length) (hl:ms.length<=5) (hw:∀ x∈ms,x.2<=10 ^ 20) (S:zau5 ms fs.length xss) (ok:∀ f∈fs,f.Ok) (bd:∀ f∈fs,f.Bd n m) (h5:fs.length<=5):∀ k c,k<fs.length->c<=othH sd n m->-(10 ^ 60)<=tabR sd ((zc6 sd fs xss).drop k) c/\tabR sd ((zc6 sd fs xss).drop k) c<=10 ^ 60:=fun k c hk hc=>by
 have t:=zcb6 (sd:=sd) (C:=othH sd n m) (B:=10 ^ 50) (by decide) (ds:=(zc6 sd fs xss).drop k) (fun d hd c hc=>by
  have hd:=List.mem_of_mem_drop hd
  unfold zc6 at hd
  obtain⟨k,hk,rfl⟩:=zcs5.mp hd
  have hk:=zcu9.mp hk
  have g1:fs.getD k (.more 0 0)∈fs:=by rw[zcq7,zcq4 hk];exact zcw5 _
  have g2:xss[k]?=some (xss.getD k []):=by rw[zcq7,zcq4 (by rw[S.1];exact hk)];rfl
  exact due_bd O hl hw (ok _ g1) (bd _ g1) hk (S.2 k _ g2).1 hc) c hc
 have l:((zc6 sd fs xss).drop k).length<=5:=by rw[zcw1,zac5];omega
 exact⟨by walk_at "om",by walk_at "om"⟩
theorem zbo2 {t b:Int}(ht:-(10 ^ 70)<=t/\t<=10 ^ 70) (hb:1<=b/\b<=5*10 ^ 20):(-(10 ^ 200)<lowT t b/\lowT t b<10 ^ 200)/\(-(10 ^ 200)<lowB t b/\lowB t b<10 ^ 200):=by
 have h1:=zcg9 t b
 have h2:=zce2 t b
 have p:(10:Int) ^ 70<10 ^ 200:=by decide
 have p2:5*(10:Int) ^ 20<10 ^ 200:=by decide
 generalize (10:Int) ^ 200=N at p p2 ⊢
 exact⟨⟨by walk_at "om",by walk_at "om"⟩,by walk_at "om",by walk_at "om"⟩
theorem zch3 {x:Int}(h:-(10 ^ 61)<=x/\x<=10 ^ 61):-(10 ^ 200)<x/\x<10 ^ 200:=by
 have p:(10:Int) ^ 61<10 ^ 200:=by decide
 generalize (10:Int) ^ 200=N at p ⊢
 exact⟨by walk_at "om",by walk_at "om"⟩
theorem zbu0 {ms:List (List Int×Int)}{k:Nat}(hk:k=ms.length):((List.range k).map fun i=>V.int (ms.getD i ([],0)).2)=(ms.map fun x=>x.2).map V.int:=by
 subst hk
 apply zcw2
 intro i
 rw[zcq8,zcq8,zcq8]
 by_cases h:i<ms.length
 ·rw[zcv3 h,zcq4 h]
  simp[h]
 ·rw[zct2 (by simp;omega),zct2 (by walk_at "om")]
  rfl
theorem zcd6 {sd:Bool}{n m:Nat}{fs:List Fd}{xss:List (List (Int×Int×Int))}{T:Nat->Nat->Int}{best w more:Int}(h1:1<=fs.length) (ka:zr2 sd n m fs xss T) (eb:best=tabR sd (zc6 sd fs xss) (othH sd n m)) (hw:0<w) (ek:zo3 sd (lowT (best+more) w*w) (T 0 (othH sd n m)*lowB (best+more) w)=true):¬ ((if sd then more else 0 - more)<0):=by
 have top:=zby9 ka (fs.length - 1) 0 (by walk_at "om") (othH sd n m) (zcr9 _)
 rw[List.drop_zero,← eb] at top
 rw[zv5] at ek
 generalize T 0 (othH sd n m)=t at top ek
 unfold leS at top ek
 cases sd
 ·simp only[zcv8,if_false] at top ek ⊢
  have:=(zca5 (t:=t) (b:=w) (u:=best+more) (c:=w) hw hw).1.mp ek
  have:=Int.le_of_mul_le_mul_right this hw
  omega
 ·simp only[if_true] at top ek ⊢
  have:=(zca5 (t:=t) (b:=w) (u:=best+more) (c:=w) hw hw).2.mp ek
  have:=Int.le_of_mul_le_mul_right this hw
  omega
set_option maxHeartbeats 0 in
theorem ok_law {f:Addr}{fd:FuncData}(F:Fun K "law" "law" zao6 f fd) (N:Nm mg) (zcm2:Def P w K mg base CX0 5 "_law_battle" ["_law_left_here","_law_most","_law_fields"] zf9) (zcl8:Def P w K mg base CX0 9 "_law_brought" ["_law_battle_here","_law_side","_law_mix_here"] ze8) (zck1:Def P w K mg base CX0 2 "_law_draw" ["_law_left_here","_law_base"] zd1) (zcm9:Def P w K mg base CX0 1 "_law_flows" ["_law_mix_here"] zg7) (zco0:Def P w K mg base CX0 2 "_law_left" ["_law_script","_law_k"] zj1) (zcl2:Def P w K mg base CX0 1 "_law_lowest" ["_law_top","_law_bottom"] zf8) (zco1:Def P w K mg base CX0 3 "_law_plan" ["_law_left_here","_law_hosts","_law_many"] zi5) (zcm3:Def P w K mg base CX0 4 "_law_tables" ["_law_left_here","_law_battle_here","_law_side","_law_stream"] zf6) (zco9:Def P w K mg base CX0 9 "judged" ["battle","side","worth","paper"] zq8):FnOk P w K mg base CX0 12 f fd ["_law_script"] (spLaw K):=by
 refine F.ok zp1 (fun vs H Q E h=>by obtain⟨n,k,rfl,_⟩:=h;rfl) (fun cdv A outer s H vs Q E hr h=>?_)
 obtain⟨a,ns0,rfl,hS,hlen,k⟩:=h
 have hu:=hu40 hr
 refine⟨_,(za4 (zt9 PassesOwn.never rfl (ze3 (K:=K) rfl (zb5 oAdd (zk8 (za0 za2 za1)) (zr9 (slXK (K:=K) rfl) (pq 0) zu9 (zab9 za2)))) (za7 (i:=1) zp1.nd rfl (by first|exact Or.inl rfl|exact Or.inr rfl)) (za4 (psS (i:=2) zp1.nd (pD zco0 hr zb7 (za0 (zk8 (za0 (pq 1) za1)) (za0 za2 za1))))
   (za4 (psS (i:=3) zp1.nd (pD zcm2 hr zb7 (za0 (pq 2) (za0 za2 (za0 za2 za1)))))
   (za4 (psS (i:=4) zp1.nd (pD zck1 hr zb7 (za0 (pq 2) (za0 za2 za1))))
   (za4 (psS (i:=5) zp1.nd (zk8 za1))
   (za4 (zt9 PassesOwn.never rfl (zr5 N.range_ (za0 (zb5 oAdd za2 (pD zck1 hr zb7 (za0 (pq 2) (za0 za2 za1)))) za1)) (za7 (i:=6) zp1.nd rfl (by first|exact Or.inl rfl|exact Or.inr rfl)) (za4 (psS (i:=7) zp1.nd (pD zco1 hr zb7 (za0 (pq 2) (za0 (za8 (K:=K) rfl (pq 3) (pq 4)) (za0 (pB (zo8 (K:=K) rfl) N.len_ zg5 (za0 (za8 (K:=K) rfl (pq 3) za2) za1)) za1)))))
   (za6 (zs6 (zq6 (pq 5) (za0 (zp3 (za0 (pq 7) (za0 (zb5 oAdd za2 (pD zck1 hr zb7 (za0 (pq 2) (za0 (za8 (K:=K) rfl (zk8 (za0 za2 (za0 za2 (za0 (zb5 oPow za2 za2) za1)))) (pD zck1 hr zb7 (za0 (pq 2) (za0 za2 za1)))) za1)))) za1))) za1))))))
   (za4 (psS (i:=8) zp1.nd (pD zcm9 hr zb7 (za0 (pq 5) za1)))
   (za4 (psS (i:=9) zp1.nd (pB (zbb2 (K:=K) rfl rfl) N.sum_ zah4 (za0 (zf2 (N:=["_law_plan_here","_law_weight"]) (ks:=[none,none]) (ze3 (K:=K) rfl (pq 5)) (fun cl C s3 H3 fp=>(zk4 (K:=K) (n:=2) rfl rfl (zb4 (za7 (i:=0) nb_31 rfl (by first|exact Or.inl rfl|exact Or.inr rfl)) (zb4 (za7 (i:=1) nb_31 rfl (by first|exact Or.inl rfl|exact Or.inr rfl)) zk5)))) (fun cl C s3 H3 fp=>zc4) (fun cl C s3 H3 fp=>(pq 1)) (.skip (.skip .nil))) za1)))
   (za4 (psS (i:=10) zp1.nd (pD zcl8 hr zb7 (za0 (pq 3) (za0 (pq 4) (za0 (pq 5) za1)))))
   (za4 (psS (i:=11) zp1.nd (pD zcm3 hr zb7 (za0 (pq 2) (za0 (pq 3) (za0 (pq 4) (za0 (pq 8) za1))))))
   (za4 (psS (i:=12) zp1.nd (za8 (K:=K) rfl (zk8 (za0 zh6 (za0 zh6 za1))) (pq 4)))
   (za4 (psIf (ptC zcj7 (pD zco9 hr zb7 (za0 (pq 3) (za0 (pq 12) (za0 (pD zcl2 hr zb7 (za0 (pq 10) (za0 (pq 9) za1))) (za0 (zp3 (za0 (pq 8) (za0 (za8 (K:=K) rfl (pq 11) za2) za1))) za1))))) zy3) (za6 (zb0 zan1)) zc1)
   (za6 (zt9 PassesOwn.never rfl (ze3 (K:=K) rfl (pq 11)) (za7 (i:=13) zp1.nd rfl (by first|exact Or.inl rfl|exact Or.inr rfl)) (za6 (zt9 PassesOwn.never rfl (ze3 (K:=K) rfl (zk8 (za0 za2 (za0 za2 (za0 (zai3 uNeg za2) (za0 (zb5 oSub (za8 (K:=K) rfl (za8 (K:=K) rfl (pq 13) za2) (zai3 uNeg za2)) (pq 10)) (za0 (zb5 oSub (pD zck1 hr zb7 (za0 (pq 2) (za0 za2 za1))) za2) za1))))))) (za7 (i:=14) zp1.nd rfl (by first|exact Or.inl rfl|exact Or.inr rfl)) (za4 (psS (i:=15) zp1.nd (pD zcl2 hr zb7 (za0 (zb5 oAdd (pq 10) (pq 14)) (za0 (pq 9) za1))))
   (za6 (psIf (ptW (pwAnd (ptC oIsX (pD zco9 hr zb7 (za0 (pq 3) (za0 (pq 12) (za0 (pq 15) (za0 (zp3 (za0 (pq 8) (za0 (pq 13) za1))) za1))))) zy3) (zao1 (ptC (oLtX (by exact hu)) (za8 (K:=K) rfl (zk8 (za0 (zb5 oSub za2 (pq 14)) (za0 (pq 14) za1))) (pq 4)) za2)))) (za6 (zb0 zan1)) zc1)))))))))))))))))))
   (za6 (zb0 zan1))),?_⟩
 refine zc7 (fun p1 H1 hf1 hs1 ha1=>?_)
 refine zal1 (hs1.seq hS) (fun p2 H2 hf2 hs2 ha2=>?_)
 refine zbc9 (hs2 _ _ ha1) ha2 (zar6 hlen) (fun p3 H3 hf3 hs3 ha3=>?_)
 refine zb8 ha3 ?_
 refine zm8 (xs:=[V.int 0]++cutV (ns0.map V.int) none (some 30)) (fun i σ H4=>∃ x1 x2 x3 x4 x5 x6 x7 x8 x9 x10 x11 x12 x13 x14 x15:Option V,σ=[some (.ref a),x1,x2,x3,x4,x5,x6,x7,x8,x9,x10,x11,x12,x13,x14,x15]/\Same H3 H4) ?_ ?_ ?_ ?_
 ·exact⟨_,_,_,_,_,_,_,_,_,_,_,_,_,_,_,rfl,Same.refl _⟩
 ·rintro i σ H4 _ ⟨_,_,_,_,_,_,_,_,_,_,_,_,_,_,_,_,h⟩
  exact SqL.of (h _ _ ha3)
 ·rintro i x σ H4 hi ⟨x1,x2,x3,x4,x5,x6,x7,x8,x9,x10,x11,x12,x13,x14,x15,rfl,s4⟩
  obtain⟨z,rfl⟩:=zav1 hi
  refine zc7 (fun c5 H5 f5 s5 h5=>?_)
  refine zcf6 h5 (fun pl H6 f6 s6 L6=>?_)
  have fpl:H3 pl=none:=(s4.trans s5).free f6
  have s36:Same H3 H6:=(s4.trans s5).trans s6
  refine zam7 (t:=5) (by walk_at "om") L6 (by walk_at "om") (fun bt l ps n m fs H9 c9 L9 B9 O D=>?_)
  have s39:=s36.chg fpl c9
  have bl:=B9.len
  have o1:=O.1
  have o2:=O.2
  have oks:=B9.oks
  refine ze6 L9 (by walk_at "om") (by walk_at "om") (by walk_at "om") (fun dsd H10 ds0 ds1 c10 L10=>?_)
  obtain⟨sd,rfl⟩:∃ sd:Bool,dsd=sdI sd:=by
   rcases (show dsd=0∨dsd=1 by walk_at "om") with h|h
   ·exact⟨false,h⟩
   ·exact⟨true,h⟩
  obtain⟨ho,hw⟩:=zab5 O sd
  have s310:=s39.chg fpl c10
  have B10:=B9.same (Chg.rm c10)
  refine zc7 (fun mx H11 f11 s11 h11=>?_)
  have n1:mx≠pl:=L10.ne f11
  have fmx:H3 mx=none:=s310.free f11
  have B11:zh5 (off3 pl mx mx H11) bt l ps n m fs:=B10.same (fun x o e=>zbi9 (zh4 e).1 (za5 (zh4 e).2 f11) (za5 (zh4 e).2 f11) (s11 _ _ (zh4 e).2))
  refine ze6 (L10.same s11) (by walk_at "om") (by walk_at "om") (by walk_at "om") (fun dn H12 dn0 dn1 c12 L12=>?_)
  refine zh3 (by decide) (by decide) (by walk_at "om") (by walk_at "om") ?_
  obtain⟨nn,en⟩:∃ nn:Nat,(1+dn - 0).toNat=nn:=⟨_,rfl⟩
  rw[en]
  have hn1:1<=nn/\nn<=3:=by walk_at "om"
  refine zn7 (fun i σ I=>∃ (y7 y8 y9 y10 y11 y12 y13 y14 y15 y16:Option V) (ts:List (Addr×Addr)) (ms:List (List Int×Int)),σ=[some (.ref a),some (.int z),some (.ref pl),some (.ref bt),some (.int (sdI sd)),some (.ref mx),y7,y8,y9,y10,y11,y12,y13,y14,y15,y16]/\Same H3 I/\zc0 I pl (10100+20*i)/\zh5 (off3 pl mx mx I) bt l ps n m fs/\zr7 I mx ts ms/\Off pl ts/\Off mx ts/\ms.length=i/\∀ x∈ms,((∀ n∈x.1,0<=n)/\x.1.length=fs.length/\x.1.sum=(ownH sd n m:Nat)/\1<=x.2)/\x.2<=10 ^ 20) ?_ ?_ ?_
  ·refine⟨_,_,_,_,_,_,_,_,_,_,[],[],rfl,(s310.trans s11).chg fpl c12,L12.up (by walk_at "om"),B11.same (zca3 c12),⟨c12 _ _ n1 h11,rfl,fun i t x e=>by simp at e⟩,?_,?_,rfl,?_⟩
   ·intro t ht;cases ht
   ·intro t ht;cases ht
   ·intro x hx;cases hx
  ·rintro i σ I hi ⟨y7,y8,y9,y10,y11,y12,y13,y14,y15,y16,ts,ms,rfl,sI,LI,BI,M,O1,O2,ml,ok⟩
   have hi:i<8:=by walk_at "om"
   have off:=zat7 pl mx mx
   refine zb2 (v:=.int (ownH sd n m)) (off I _ _ BI.out) (by cases sd<;>rfl) ?_
   refine zb2 (v:=.ref l) (off I _ _ BI.out) rfl ?_
   refine zf3 (off I _ _ BI.lst) ?_
   rw[zcq3,bl]
   refine zcj9 LI (by walk_at "om") (by walk_at "om") (by walk_at "om") (by walk_at "om") (fun pa Ha ns fa ca La na ha k1 k2 k3=>?_)
   have Ma:=M.chg ca n1 O1
   have nal:pa≠mx:=Ne.symm (za5 M.out fa)
   refine zak5 Ma.out ?_
   walk_at "st"
   refine zc7 (fun p5 H5 f5 s5 h5=>?_)
   refine ze6 (La.same s5) (by walk_at "om") (by walk_at "om") (by walk_at "om") (fun d6 J6 d60 d61 c6 L6'=>?_)
   have h56:=c6 _ _ (La.ne f5) h5
   refine zac6 h56 (by walk_at "om") (by simp only[zct0,zcw3];omega) ?_
   intro v hv
   obtain⟨wm,rfl,wm0,wm1⟩:∃ m:Int,v=.int m/\1<=m/\m<=10 ^ 20:=by
    simp only[zcs2,zcu0,or_false] at hv
    rcases hv with rfl|rfl|rfl<;>exact⟨_,rfl,by walk_at "om",by walk_at "om"⟩
   clear hv h56 h5
   refine ze6 L6' (by walk_at "om") (by walk_at "om") (by walk_at "om") (fun d7 J7 d70 d71 c7 L7=>?_)
   have ca7:Chg pl Ha J7:=(s5.toChg.trans c6).trans c7
   have M7:=Ma.chg ca7 n1 O1
   have ha7:=ca7 _ _ na ha
   have wt:1<=1+d7/\1+d7<=10 ^ 20:=by walk_at "om"
   walk_at "wh"
   generalize 1+d7=wt_ at wt ⊢
   refine zd9 (fun pb Hb fb sb hb=>?_)
   have nbl:pb≠mx:=Ne.symm (za5 M7.out fb)
   have Mb:=M7.same sb
   refine zaj7 Mb.out (by rw[zcq3,sizeLine_eq,Mb.len];omega) (fun Hc cc hc=>?_)
   walk_at "wh"
   have Mc:=Mb.push cc O2 hc (x:=(ns,wt_)) (cc _ _ nbl hb) (cc _ _ nal (sb _ _ ha7))
   have cIb:Chg pl I Hb:=(ca.trans ca7).same sb
   exact⟨_,_,_,_,_,_,_,_,_,_,_,_,rfl,(sI.chg fpl cIb).chg fmx cc,((L7.same sb).chg cc (Ne.symm n1)).up (by push_cast;omega),BI.same ((zca3 cIb).trans (off3_b cc)),Mc,O1.push (L7.ne fb) na,O2.push nbl nal,by rw[zcr6,ml];rfl,zao2 ok ⟨⟨k3,k1,k2,wt.1⟩,wt.2⟩⟩
  ·rintro σ I ⟨y7,y8,y9,y10,y11,y12,y13,y14,y15,y16,ts,ms,rfl,sI,LI,BI,M,O1,O2,ml,ok⟩
   have off:=zat7 pl mx mx
   obtain⟨opl,epl⟩:=LI.some
   have OS:OkS ms (ownH sd n m:Nat) fs.length:=⟨by walk_at "om",by walk_at "om",fun x hx=>(ok x hx).1⟩
   have mw:∀ x∈ms,x.2<=10 ^ 20:=fun x hx=>(ok x hx).2
   have ml5:ms.length<=5:=by walk_at "om"
   have BI:=BI.same (fun x o e=>zo7 (zao5 e).1 (zao5 e).2.2.2:Same (off3 pl mx mx I) (rm pl I))
   refine zbv3 M (by walk_at "om") (by walk_at "om") (by walk_at "om") (fun x hx=>(ok x hx).1.2.1) (fun st rs xss J1 s1 S1 SI=>?_)
   have S1:StW (rm pl J1) st rs xss:=(S1.same (nw_rm epl)).toW
   have B1:=BI.same (Same.rm s1)
   have M1:=M.same s1
   have L1:=LI.same s1
   have tl:=M1.len
   have whb:=zbd5 OS ml5 mw
   have rowsOk:=zbz3 OS ml5 mw SI
   have xl:=SI.1
   have tbs:=zch1 OS ml5 mw SI oks D (by walk_at "om")
   have be:=zcg4 (sd:=sd) (r:=othH sd n m) OS SI
   refine zb8 M1.out ?_
   refine zm7 (n:=(ts.map fun t=>V.ref t.1).length) (Wk.list (SqL.of M1.out)) (by rw[zcq3,sizeLine_eq];omega) (fun j=>.int (ms.getD j ([],0)).2) (fun _=>true) (fun j σ=>∃ t u:Option V,σ=[t,u]) ⟨none,none,rfl⟩ ?_ ?_
   ·rintro j x σ J R' S' hj sJ hx ⟨_,_,rfl⟩ kk _
    obtain⟨t,y,rfl,et,ey,ht,hy⟩:=(M1.same sJ).elt hx
    rw[show ms.getD j ([],0)=y by rw[zcq7,ey];rfl] at kk
    refine zd4 ht ?_
    refine br_T ?_
    walk_at "wh"
    exact kk rfl _ _ (Same.refl _) ⟨_,_,rfl⟩
   intro acc J2 f2 s2 h2
   rw[ze0,zbu0 (by rw[zcq3,tl])] at h2
   refine zag4 h2 ?_
   rw[show (ms.map fun x=>x.2).sum=zq9 ms from rfl]
   have B2:=B1.same (Same.rm s2)
   refine zbf3 (B2.same (zk6 _ _)) O D (M1.same s2) OS ml5 mw (fun J3 s3=>?_)
   rw[← be]
   obtain⟨best,eb⟩:∃ best,tabR sd (zc6 sd fs xss) (othH sd n m)=best:=⟨_,rfl⟩
   have bb:-(10 ^ 60)<=best/\best<=10 ^ 60:=by rw[← eb];exact tbs 0 _ (by walk_at "om") (zcr9 _)
   rw[eb]
   have s23:=s2.trans s3
   refine zbs2 (L1.same s23) (by walk_at "om") (B1.same (Same.rm s23)) O D (S1.same (Same.rm s23)) xl (fun xs hx=>(rowsOk xs hx).1) tbs (fun r t0 t1 t2 t3 q0 q1 q2 q3 T1 T2 T3 J4 c4 L4 h4 G0 G1 D1 G2 D2 G3 D3=>?_)
   have k34:Same (rm pl J1) (rm pl J4):=(Same.rm s23).trans (Chg.rm c4)
   have B4:=B1.same k34
   have S4:=S1.same k34
   have s34:Same H3 J4:=((sI.trans s1).trans s23).chg fpl c4
   have sok:=stm_ok OS SI
   have ssm:sml (stmD xss)=true:=by
    rw[zbv8]
    exact (zce3 (by walk_at "om") (fun xs hx=>(rowsOk xs hx).2)).1
   have r0:((xss.getD 0 []).map fun z=>z.2.2).sum=zq9 ms:=by
    have g:xss[0]?=some (xss.getD 0 []):=by rw[zcq7,zcq4 (by walk_at "om")];rfl
    exact zaq3 OS (by walk_at "om") (SI.2 0 _ g).1
   have rm4:=zk6 pl J4
   refine zc7 (fun q5 J5 f5' s5' h5'=>?_)
   refine zb6 (v:=.str (wd sd)) h5' (by cases sd<;>rfl) ?_
   refine zat5 (by walk_at "om") (by walk_at "om") (fun w6 J6 f6' s6' h6'=>?_)
   have s46:=s5'.trans s6'
   refine zb6 (v:=.ref t0) (s46 _ _ (rm4 _ _ h4)) rfl ?_
   refine zd9 (fun p7 J7 f7' s7' h7'=>?_)
   have s47:=s46.trans s7'
   have lb:=zbo2 (t:=best) (b:=zq9 ms) ⟨by walk_at "om",by walk_at "om"⟩ whb
   have P7:PapS J7 p7 st t0 rs xss q0 fs.length (othH sd n m+1) (fun k=>tabR sd ((zc6 sd fs xss).drop k)):=⟨h7',(S4.same rm4).same s47,(G0.same rm4).same s47⟩
   refine zau0 ((B4.same rm4).same s47) O D P7 sok ssm xl (fun xs hx=>(rowsOk xs hx).1) (s7' _ _ h6') lb.1 lb.2 (zby5 (tbs 0 _ (by walk_at "om") (zcr9 _))) (by rw[r0];exact zau7 whb) (fun _ _ J8 s8=>?_) (fun no=>?_)
   ·have s48:=s47.trans s8
    refine zd8 (br_T ?_)
    refine zb8 (s48 _ _ (rm4 _ _ h4)) ?_
    have k48:Same (rm pl J4) (rm pl J8):=Same.rm s48
    refine zm8 (xs:=[V.ref t0,V.ref t1,V.ref t2,V.ref t3]) (fun j σ J=>∃ (y7 y8 y14 y15 y16:Option V),σ=[some (.ref a),some (.int z),some (.ref pl),some (.ref bt),some (.int (sdI sd)),some (.ref mx),y7,y8,some (.ref st),some (.int (zq9 ms)),some (.int best),some (.ref r),some (.str (wd sd)),y14,y15,y16]/\Same H3 J/\Same (rm pl J4) (rm pl J)/\zc0 J pl (20000+10*j)) ?_ ?_ ?_ ?_
    ·exact⟨_,_,_,_,_,rfl,s34.trans s48,k48,(L4.same s48).up (by push_cast;omega)⟩
    ·rintro j σ J _ ⟨_,_,_,_,_,_,_,kJ,_⟩
     exact SqL.of (zk6 pl J _ _ (kJ _ _ h4))
    ·rintro j v σ J hj ⟨y7,y8,y14,y15,y16,rfl,sJ,kJ,LJ⟩
     have hj4:j<4:=(zcq6.mp hj).1
     obtain⟨t,q,T,rfl,G,BD⟩:∃ t q T,v=.ref t/\zd3 (rm pl J4) t q fs.length (othH sd n m+1) T/\BdG fs.length (othH sd n m+1) T:=by
      have mv:=zcr0 hj
      simp only[zcs2,zcu0,or_false] at mv
      rcases mv with rfl|rfl|rfl|rfl
      ·exact⟨t0,q0,_,rfl,G0,fun k c hk hc=>by have:=tbs k c hk (by walk_at "om");exact⟨by walk_at "om",by walk_at "om"⟩⟩
      ·exact⟨t1,q1,T1,rfl,G1,D1⟩
      ·exact⟨t2,q2,T2,rfl,G2,D2⟩
      ·exact⟨t3,q3,T3,rfl,G3,D3⟩
     have GJ:=G.same kJ
     obtain⟨g0,eg0,hg0⟩:=(GJ.same (zk6 pl J)).some (i:=0) (by walk_at "om")
     have tb0:=BD 0 (othH sd n m) (by walk_at "om") (by walk_at "om")
     refine zb6 (v:=.ref g0) (zk6 pl J _ _ GJ.out) (zc5 (j:=0) (by rw[zcq8,eg0];rfl)) ?_
     refine zb6 (v:=.int (T 0 (othH sd n m))) hg0 (zax1 (n:=othH sd n m) (zd0 _ _) (zf1 (by walk_at "om"))) ?_
     refine ze6 LJ (by walk_at "om") (by walk_at "om") (by walk_at "om") (fun d9 J9 d90 d91 c9' L9'=>?_)
     refine zc7 (fun ml' K0 fK sK hK=>?_)
     have kK:Same (rm pl J4) (rm pl K0):=(kJ.trans (Chg.rm c9')).trans (Same.rm sK)
     have sK3:Same H3 K0:=(sJ.chg fpl c9').trans sK
     have LK:=L9'.same sK
     refine zb8 hK ?_
     refine zm8 (xs:=[V.int 0,.int 1,.int (-1),.int (T 0 (othH sd n m) - best),.int (d9 - 20)]) (fun i σ K1=>∃ (y15 y16:Option V),σ=[some (.ref a),some (.int z),some (.ref pl),some (.ref bt),some (.int (sdI sd)),some (.ref mx),y7,y8,some (.ref st),some (.int (zq9 ms)),some (.int best),some (.ref r),some (.str (wd sd)),some (.ref t),y15,y16]/\Same K0 K1) ?_ ?_ ?_ ?_
     ·exact⟨_,_,rfl,Same.refl _⟩
     ·rintro i σ K1 _ ⟨_,_,_,sK1⟩
      exact SqL.of (sK1 _ _ hK)
     ·rintro i v σ K1 hi' ⟨y15',y16',rfl,sK1⟩
      obtain⟨more,rfl,m1,m2⟩:∃ x:Int,v=.int x/\-(10 ^ 65)<=x/\x<=10 ^ 65:=by
       have mv:=zcr0 hi'
       simp only[zcs2,zcu0,or_false] at mv
       rcases mv with rfl|rfl|rfl|rfl|rfl<;>exact⟨_,rfl,by walk_at "om",by walk_at "om"⟩
      have kK1:=kK.trans (Same.rm sK1)
      have rmK:=zk6 pl K1
      have lb:=zbo2 (t:=best+more) (b:=zq9 ms) ⟨by walk_at "om",by walk_at "om"⟩ whb
      refine zat5 (by walk_at "om") (by walk_at "om") (fun w2 K2 fw sw hw2=>?_)
      refine zd9 (fun p9 K3 f9 s9 h9=>?_)
      have s13:=sw.trans s9
      have P9:PapS K3 p9 st t rs xss q fs.length (othH sd n m+1) T:=⟨h9,((S4.same kK1).same rmK).same s13,((G.same kK1).same rmK).same s13⟩
      refine zau0 (((B4.same kK1).same rmK).same s13) O D P9 sok ssm xl (fun xs hx=>(rowsOk xs hx).1) (s9 _ _ hw2) lb.1 lb.2 (zch3 tb0) (by rw[r0];exact zau7 whb) (fun ka ek K4 s4'=>?_) (fun _ rr K4 f4' s4'=>?_)
      ·rw[r0] at ek
       have nm:=zcd6 (by walk_at "om") ka eb.symm (by walk_at "om") ek
       walk_at "wh"
       first|refine br_T ?_|refine zt3 rfl ?_
       refine zc7 (fun p10 K5 f10 s10 h10=>?_)
       refine zb6 (v:=.int (if sd then more else 0 - more)) h10 (by cases sd<;>rfl) ?_
       refine zr8 nm ?_
       walk_at "wh"
       exact⟨_,_,rfl,((sK1.trans s13).trans s4').trans s10⟩
      ·walk_at "wh"
       first|refine br_F ?_|refine zr8 (fun z=>by cases z) ?_
       walk_at "wh"
       first|refine br_F ?_|skip
       walk_at "wh"
       exact⟨_,_,rfl,(sK1.trans s13).trans s4'⟩
     ·rintro σ K1 ⟨y15',y16',rfl,sK1⟩
      exact⟨_,_,_,_,_,rfl,sK3.trans sK1,kK.trans (Same.rm sK1),(LK.same sK1).up (by push_cast;omega)⟩
    ·rintro σ J ⟨y7,y8,y14,y15,y16,rfl,sJ,_,_⟩
     exact⟨_,_,_,_,_,_,_,_,_,_,_,_,_,_,_,rfl,sJ⟩
   ·exact absurd ⟨fun k c hk _=>zbk9 hk,by rw[r0,List.drop_zero,eb];exact zbt9 sd best (zq9 ms)⟩ no
 ·rintro σ H4 ⟨x1,x2,x3,x4,x5,x6,x7,x8,x9,x10,x11,x12,x13,x14,x15,rfl,s4⟩
  walk_at "wh"
  exact k _
end
theorem all_mk {l:PySem.W.OpenLaw}{w:World}{K:zcq5}{h:Heap}{mg:Str->Option Value}{fa:Addr}(X:K.In h) (G:h.Ns mainGlobals mg) (hfa:mg "law"=some (.ref fa))
  {zcm0:Tok}{zcl5:Tok}{f_0:Addr}{od_0 an_0:Option Addr}{sl_0:Array (Option Value)}{oc_0 kV_0 dc_0 pm_0 cd_0 ct_0:Value}{f_1:Addr}{od_1 an_1:Option Addr}{sl_1:Array (Option Value)}{oc_1 kV_1 dc_1 pm_1 cd_1 ct_1:Value}{f_2:Addr}{od_2 an_2:Option Addr}{sl_2:Array (Option Value)}{oc_2 kV_2 dc_2 pm_2 cd_2 ct_2:Value}{f_3:Addr}{od_3 an_3:Option Addr}{sl_3:Array (Option Value)}{oc_3 kV_3 dc_3 pm_3 cd_3 ct_3:Value}{f_4:Addr}{od_4 an_4:Option Addr}{sl_4:Array (Option Value)}{oc_4 kV_4 dc_4 pm_4 cd_4 ct_4:Value}{f_5:Addr}{od_5 an_5:Option Addr}{sl_5:Array (Option Value)}{oc_5 kV_5 dc_5 pm_5 cd_5 ct_5:Value}{f_6:Addr}{od_6 an_6:Option Addr}{sl_6:Array (Option Value)}{oc_6 kV_6 dc_6 pm_6 cd_6 ct_6:Value}{f_7:Addr}{od_7 an_7:Option Addr}{sl_7:Array (Option Value)}{oc_7 kV_7 dc_7 pm_7 cd_7 ct_7:Value}{f_8:Addr}{od_8 an_8:Option Addr}{sl_8:Array (Option Value)}{oc_8 kV_8 dc_8 pm_8 cd_8 ct_8:Value}{f_9:Addr}{od_9 an_9:Option Addr}{sl_9:Array (Option Value)}{oc_9 kV_9 dc_9 pm_9 cd_9 ct_9:Value}{f_10:Addr}{od_10 an_10:Option Addr}{sl_10:Array (Option Value)}{oc_10 kV_10 dc_10 pm_10 cd_10 ct_10:Value}{f_11:Addr}{od_11 an_11:Option Addr}{sl_11:Array (Option Value)}{oc_11 kV_11 dc_11 pm_11 cd_11 ct_11:Value}{f_12:Addr}{od_12 an_12:Option Addr}{sl_12:Array (Option Value)}{oc_12 kV_12 dc_12 pm_12 cd_12 ct_12:Value}{f_13:Addr}{od_13 an_13:Option Addr}{sl_13:Array (Option Value)}{oc_13 kV_13 dc_13 pm_13 cd_13 ct_13:Value}{f_14:Addr}{od_14 an_14:Option Addr}{sl_14:Array (Option Value)}{oc_14 kV_14 dc_14 pm_14 cd_14 ct_14:Value}{f_15:Addr}{od_15 an_15:Option Addr}{sl_15:Array (Option Value)}{oc_15 kV_15 dc_15 pm_15 cd_15 ct_15:Value}{f_16:Addr}{od_16 an_16:Option Addr}{sl_16:Array (Option Value)}{oc_16 kV_16 dc_16 pm_16 cd_16 ct_16:Value}{f_17:Addr}{od_17 an_17:Option Addr}{sl_17:Array (Option Value)}{oc_17 kV_17 dc_17 pm_17 cd_17 ct_17:Value}{f_18:Addr}{od_18 an_18:Option Addr}{sl_18:Array (Option Value)}{oc_18 kV_18 dc_18 pm_18 cd_18 ct_18:Value}{f_19:Addr}{od_19 an_19:Option Addr}{sl_19:Array (Option Value)}{oc_19 kV_19 dc_19 pm_19 cd_19 ct_19:Value}{f_20:Addr}{od_20 an_20:Option Addr}{sl_20:Array (Option Value)}{oc_20 kV_20 dc_20 pm_20 cd_20 ct_20:Value}{f_21:Addr}{od_21 an_21:Option Addr}{sl_21:Array (Option Value)}{oc_21 kV_21 dc_21 pm_21 cd_21 ct_21:Value}{f_22:Addr}{od_22 an_22:Option Addr}{sl_22:Array (Option Value)}{oc_22 kV_22 dc_22 pm_22 cd_22 ct_22:Value}{f_23:Addr}{od_23 an_23:Option Addr}{sl_23:Array (Option Value)}{oc_23 kV_23 dc_23 pm_23 cd_23 ct_23:Value}{f_24:Addr}{od_24 an_24:Option Addr}{sl_24:Array (Option Value)}{oc_24 kV_24 dc_24 pm_24 cd_24 ct_24:Value}{f_25:Addr}{od_25 an_25:Option Addr}{sl_25:Array (Option Value)}{oc_25 kV_25 dc_25 pm_25 cd_25 ct_25:Value}{f_26:Addr}{od_26 an_26:Option Addr}{sl_26:Array (Option Value)}{oc_26 kV_26 dc_26 pm_26 cd_26 ct_26:Value}{f_27:Addr}{od_27 an_27:Option Addr}{sl_27:Array (Option Value)}{oc_27 kV_27 dc_27 pm_27 cd_27 ct_27:Value}{f_28:Addr}{od_28 an_28:Option Addr}{sl_28:Array (Option Value)}{oc_28 kV_28 dc_28 pm_28 cd_28 ct_28:Value}{f_29:Addr}{od_29 an_29:Option Addr}{sl_29:Array (Option Value)}{oc_29 kV_29 dc_29 pm_29 cd_29 ct_29:Value}{f_30:Addr}{od_30 an_30:Option Addr}{sl_30:Array (Option Value)}{oc_30 kV_30 dc_30 pm_30 cd_30 ct_30:Value}{f_31:Addr}{od_31 an_31:Option Addr}{sl_31:Array (Option Value)}{oc_31 kV_31 dc_31 pm_31 cd_31 ct_31:Value}{f_32:Addr}{od_32 an_32:Option Addr}{sl_32:Array (Option Value)}{oc_32 kV_32 dc_32 pm_32 cd_32 ct_32:Value}{f_33:Addr}{od_33 an_33:Option Addr}{sl_33:Array (Option Value)}{oc_33 kV_33 dc_33 pm_33 cd_33 ct_33:Value}{f_34:Addr}{od_34 an_34:Option Addr}{sl_34:Array (Option Value)}{oc_34 kV_34 dc_34 pm_34 cd_34 ct_34:Value}{f_35:Addr}{od_35 an_35:Option Addr}{sl_35:Array (Option Value)}{oc_35 kV_35 dc_35 pm_35 cd_35 ct_35:Value}{f_36:Addr}{od_36 an_36:Option Addr}{sl_36:Array (Option Value)}{oc_36 kV_36 dc_36 pm_36 cd_36 ct_36:Value}{f_37:Addr}{od_37 an_37:Option Addr}{sl_37:Array (Option Value)}{oc_37 kV_37 dc_37 pm_37 cd_37 ct_37:Value}{f_38:Addr}{od_38 an_38:Option Addr}{sl_38:Array (Option Value)}{oc_38 kV_38 dc_38 pm_38 cd_38 ct_38:Value}{f_39:Addr}{od_39 an_39:Option Addr}{sl_39:Array (Option Value)}{oc_39 kV_39 dc_39 pm_39 cd_39 ct_39:Value}{f_40:Addr}{od_40 an_40:Option Addr}{sl_40:Array (Option Value)}{oc_40 kV_40 dc_40 pm_40 cd_40 ct_40:Value}{f_41:Addr}{od_41 an_41:Option Addr}{sl_41:Array (Option Value)}{oc_41 kV_41 dc_41 pm_41 cd_41 ct_41:Value}{f_42:Addr}{od_42 an_42:Option Addr}{sl_42:Array (Option Value)}{oc_42 kV_42 dc_42 pm_42 cd_42 ct_42:Value}{f_43:Addr}{od_43 an_43:Option Addr}{sl_43:Array (Option Value)}{oc_43 kV_43 dc_43 pm_43 cd_43 ct_43:Value}{f_44:Addr}{od_44 an_44:Option Addr}{sl_44:Array (Option Value)}{oc_44 kV_44 dc_44 pm_44 cd_44 ct_44:Value}{f_45:Addr}{od_45 an_45:Option Addr}{sl_45:Array (Option Value)}{oc_45 kV_45 dc_45 pm_45 cd_45 ct_45:Value}{f_46:Addr}{od_46 an_46:Option Addr}{sl_46:Array (Option Value)}{oc_46 kV_46 dc_46 pm_46 cd_46 ct_46:Value}{f_47:Addr}{od_47 an_47:Option Addr}{sl_47:Array (Option Value)}{oc_47 kV_47 dc_47 pm_47 cd_47 ct_47:Value}{f_48:Addr}{od_48 an_48:Option Addr}{sl_48:Array (Option Value)}{oc_48 kV_48 dc_48 pm_48 cd_48 ct_48:Value}{f_49:Addr}{od_49 an_49:Option Addr}{sl_49:Array (Option Value)}{oc_49 kV_49 dc_49 pm_49 cd_49 ct_49:Value}{f_50:Addr}{od_50 an_50:Option Addr}{sl_50:Array (Option Value)}{oc_50 kV_50 dc_50 pm_50 cd_50 ct_50:Value}{f_51:Addr}{od_51 an_51:Option Addr}{sl_51:Array (Option Value)}{oc_51 kV_51 dc_51 pm_51 cd_51 ct_51:Value}{zck3:Addr}{zcp4:ClassData}{zck0:Addr}{zcp8:ClassData}{zck8:Addr}{zcq1:ClassData}{zck2:Addr}{zcq2:ClassData}{nm_NoBattle qn_NoBattle:Str}{N_NoBattle:Addr}{bs_NoBattle:List Value}{sn_NoBattle:List Str}{sub_NoBattle:List Value}{ab_NoBattle:Bool}{col_NoBattle:Option Bool}{dd_NoBattle:Option Addr}{k0_NoBattle k1_NoBattle k2_NoBattle k3_NoBattle k5_NoBattle:Option Value}{zck6:Addr}{iod_NoBattle ian_NoBattle:Option Addr}{isl_NoBattle:Array (Option Value)}{ioc_NoBattle ikV_NoBattle idc_NoBattle ipm_NoBattle icd_NoBattle ict_NoBattle:Value}
  (e_MOST_HOSTS:zcr4 K mainGlobals "MOST_HOSTS"=some (some (.int 10 zcm0)))
  (e_MOST_FIELDS:zcr4 K mainGlobals "MOST_FIELDS"=some (some (.int 5 zcl5)))
  (a_0:zcr4 K mainGlobals "is_whole"=some (some (.ref f_0)))
  (l_0:K.lookup f_0=some ⟨oc_0,od_0,.func (zcs1 "is_whole" "is_whole" (zb1 zp8) (za9 zp8) (za3 zp8) .none kV_0 dc_0 pm_0 an_0 cd_0 ct_0),sl_0⟩)
  (c_0:zcr7 K cd_0 "is_whole"=true)
  (k_0:zcr5 K (.ref f_0)=true)
  (a_1:zcr4 K mainGlobals "is_from"=some (some (.ref f_1)))
  (l_1:K.lookup f_1=some ⟨oc_1,od_1,.func (zcs1 "is_from" "is_from" (zb1 zs7) (za9 zs7) (za3 zs7) .none kV_1 dc_1 pm_1 an_1 cd_1 ct_1),sl_1⟩)
  (c_1:zcr7 K cd_1 "is_from"=true)
  (k_1:zcr5 K (.ref f_1)=true)
  (a_2:zcr4 K mainGlobals "is_between"=some (some (.ref f_2)))
  (l_2:K.lookup f_2=some ⟨oc_2,od_2,.func (zcs1 "is_between" "is_between" (zb1 zl9) (za9 zl9) (za3 zl9) .none kV_2 dc_2 pm_2 an_2 cd_2 ct_2),sl_2⟩)
  (c_2:zcr7 K cd_2 "is_between"=true)
  (k_2:zcr5 K (.ref f_2)=true)
  (a_3:zcr4 K mainGlobals "sends_hosts"=some (some (.ref f_3)))
  (l_3:K.lookup f_3=some ⟨oc_3,od_3,.func (zcs1 "sends_hosts" "sends_hosts" (zb1 zk0) (za9 zk0) (za3 zk0) .none kV_3 dc_3 pm_3 an_3 cd_3 ct_3),sl_3⟩)
  (c_3:zcr7 K cd_3 "sends_hosts"=true)
  (k_3:zcr5 K (.ref f_3)=true)
  (a_4:zcr4 K mainGlobals "is_plan"=some (some (.ref f_4)))
  (l_4:K.lookup f_4=some ⟨oc_4,od_4,.func (zcs1 "is_plan" "is_plan" (zb1 zs9) (za9 zs9) (za3 zs9) .none kV_4 dc_4 pm_4 an_4 cd_4 ct_4),sl_4⟩)
  (c_4:zcr7 K cd_4 "is_plan"=true)
  (k_4:zcr5 K (.ref f_4)=true)
  (a_5:zcr4 K mainGlobals "are_hosts"=some (some (.ref f_5)))
  (l_5:K.lookup f_5=some ⟨oc_5,od_5,.func (zcs1 "are_hosts" "are_hosts" (zb1 zn8) (za9 zn8) (za3 zn8) .none kV_5 dc_5 pm_5 an_5 cd_5 ct_5),sl_5⟩)
  (c_5:zcr7 K cd_5 "are_hosts"=true)
  (k_5:zcr5 K (.ref f_5)=true)
  (a_6:zcr4 K mainGlobals "has_size"=some (some (.ref f_6)))
  (l_6:K.lookup f_6=some ⟨oc_6,od_6,.func (zcs1 "has_size" "has_size" (zb1 zq4) (za9 zq4) (za3 zq4) .none kV_6 dc_6 pm_6 an_6 cd_6 ct_6),sl_6⟩)
  (c_6:zcr7 K cd_6 "has_size"=true)
  (k_6:zcr5 K (.ref f_6)=true)
  (a_7:zcr4 K mainGlobals "is_table_row"=some (some (.ref f_7)))
  (l_7:K.lookup f_7=some ⟨oc_7,od_7,.func (zcs1 "is_table_row" "is_table_row" (zb1 zh9) (za9 zh9) (za3 zh9) .none kV_7 dc_7 pm_7 an_7 cd_7 ct_7),sl_7⟩)
  (c_7:zcr7 K cd_7 "is_table_row"=true)
  (k_7:zcr5 K (.ref f_7)=true)
  (a_8:zcr4 K mainGlobals "is_table"=some (some (.ref f_8)))
  (l_8:K.lookup f_8=some ⟨oc_8,od_8,.func (zcs1 "is_table" "is_table" (zb1 zq1) (za9 zq1) (za3 zq1) .none kV_8 dc_8 pm_8 an_8 cd_8 ct_8),sl_8⟩)
  (c_8:zcr7 K cd_8 "is_table"=true)
  (k_8:zcr5 K (.ref f_8)=true)
  (a_9:zcr4 K mainGlobals "is_field"=some (some (.ref f_9)))
  (l_9:K.lookup f_9=some ⟨oc_9,od_9,.func (zcs1 "is_field" "is_field" (zb1 zp9) (za9 zp9) (za3 zp9) .none kV_9 dc_9 pm_9 an_9 cd_9 ct_9),sl_9⟩)
  (c_9:zcr7 K cd_9 "is_field"=true)
  (k_9:zcr5 K (.ref f_9)=true)
  (a_10:zcr4 K mainGlobals "look_battle"=some (some (.ref f_10)))
  (l_10:K.lookup f_10=some ⟨oc_10,od_10,.func (zcs1 "look_battle" "look_battle" (zb1 zj9) (za9 zj9) (za3 zj9) .none kV_10 dc_10 pm_10 an_10 cd_10 ct_10),sl_10⟩)
  (c_10:zcr7 K cd_10 "look_battle"=true)
  (k_10:zcr5 K (.ref f_10)=true)
  (a_11:zcr4 K mainGlobals "look_plans"=some (some (.ref f_11)))
  (l_11:K.lookup f_11=some ⟨oc_11,od_11,.func (zcs1 "look_plans" "look_plans" (zb1 zm3) (za9 zm3) (za3 zm3) .none kV_11 dc_11 pm_11 an_11 cd_11 ct_11),sl_11⟩)
  (c_11:zcr7 K cd_11 "look_plans"=true)
  (k_11:zcr5 K (.ref f_11)=true)
  (a_12:zcr4 K mainGlobals "won"=some (some (.ref f_12)))
  (l_12:K.lookup f_12=some ⟨oc_12,od_12,.func (zcs1 "won" "won" (zb1 zbi0) (za9 zbi0) (za3 zbi0) .none kV_12 dc_12 pm_12 an_12 cd_12 ct_12),sl_12⟩)
  (c_12:zcr7 K cd_12 "won"=true)
  (k_12:zcr5 K (.ref f_12)=true)
  (a_13:zcr4 K mainGlobals "won_in_all"=some (some (.ref f_13)))
  (l_13:K.lookup f_13=some ⟨oc_13,od_13,.func (zcs1 "won_in_all" "won_in_all" (zb1 zl7) (za9 zl7) (za3 zl7) .none kV_13 dc_13 pm_13 an_13 cd_13 ct_13),sl_13⟩)
  (c_13:zcr7 K cd_13 "won_in_all"=true)
  (k_13:zcr5 K (.ref f_13)=true)
  (a_14:zcr4 K mainGlobals "gain"=some (some (.ref f_14)))
  (l_14:K.lookup f_14=some ⟨oc_14,od_14,.func (zcs1 "gain" "gain" (zb1 zak0) (za9 zak0) (za3 zak0) .none kV_14 dc_14 pm_14 an_14 cd_14 ct_14),sl_14⟩)
  (c_14:zcr7 K cd_14 "gain"=true)
  (k_14:zcr5 K (.ref f_14)=true)
  (a_15:zcr4 K mainGlobals "is_flow"=some (some (.ref f_15)))
  (l_15:K.lookup f_15=some ⟨oc_15,od_15,.func (zcs1 "is_flow" "is_flow" (zb1 zt2) (za9 zt2) (za3 zt2) .none kV_15 dc_15 pm_15 an_15 cd_15 ct_15),sl_15⟩)
  (c_15:zcr7 K cd_15 "is_flow"=true)
  (k_15:zcr5 K (.ref f_15)=true)
  (a_16:zcr4 K mainGlobals "is_row"=some (some (.ref f_16)))
  (l_16:K.lookup f_16=some ⟨oc_16,od_16,.func (zcs1 "is_row" "is_row" (zb1 zv7) (za9 zv7) (za3 zv7) .none kV_16 dc_16 pm_16 an_16 cd_16 ct_16),sl_16⟩)
  (c_16:zcr7 K cd_16 "is_row"=true)
  (k_16:zcr5 K (.ref f_16)=true)
  (a_17:zcr4 K mainGlobals "begins"=some (some (.ref f_17)))
  (l_17:K.lookup f_17=some ⟨oc_17,od_17,.func (zcs1 "begins" "begins" (zb1 zw1) (za9 zw1) (za3 zw1) .none kV_17 dc_17 pm_17 an_17 cd_17 ct_17),sl_17⟩)
  (c_17:zcr7 K cd_17 "begins"=true)
  (k_17:zcr5 K (.ref f_17)=true)
  (a_18:zcr4 K mainGlobals "summed"=some (some (.ref f_18)))
  (l_18:K.lookup f_18=some ⟨oc_18,od_18,.func (zcs1 "summed" "summed" (zb1 zw3) (za9 zw3) (za3 zw3) .none kV_18 dc_18 pm_18 an_18 cd_18 ct_18),sl_18⟩)
  (c_18:zcr7 K cd_18 "summed"=true)
  (k_18:zcr5 K (.ref f_18)=true)
  (a_19:zcr4 K mainGlobals "meets"=some (some (.ref f_19)))
  (l_19:K.lookup f_19=some ⟨oc_19,od_19,.func (zcs1 "meets" "meets" (zb1 zaa7) (za9 zaa7) (za3 zaa7) .none kV_19 dc_19 pm_19 an_19 cd_19 ct_19),sl_19⟩)
  (c_19:zcr7 K cd_19 "meets"=true)
  (k_19:zcr5 K (.ref f_19)=true)
  (a_20:zcr4 K mainGlobals "is_stream"=some (some (.ref f_20)))
  (l_20:K.lookup f_20=some ⟨oc_20,od_20,.func (zcs1 "is_stream" "is_stream" (zb1 zn1) (za9 zn1) (za3 zn1) .none kV_20 dc_20 pm_20 an_20 cd_20 ct_20),sl_20⟩)
  (c_20:zcr7 K cd_20 "is_stream"=true)
  (k_20:zcr5 K (.ref f_20)=true)
  (a_21:zcr4 K mainGlobals "whole_in"=some (some (.ref f_21)))
  (l_21:K.lookup f_21=some ⟨oc_21,od_21,.func (zcs1 "whole_in" "whole_in" (zb1 zq0) (za9 zq0) (za3 zq0) .none kV_21 dc_21 pm_21 an_21 cd_21 ct_21),sl_21⟩)
  (c_21:zcr7 K cd_21 "whole_in"=true)
  (k_21:zcr5 K (.ref f_21)=true)
  (a_22:zcr4 K mainGlobals "look_side"=some (some (.ref f_22)))
  (l_22:K.lookup f_22=some ⟨oc_22,od_22,.func (zcs1 "look_side" "look_side" (zb1 zn9) (za9 zn9) (za3 zn9) .none kV_22 dc_22 pm_22 an_22 cd_22 ct_22),sl_22⟩)
  (c_22:zcr7 K cd_22 "look_side"=true)
  (k_22:zcr5 K (.ref f_22)=true)
  (a_23:zcr4 K mainGlobals "own_hosts"=some (some (.ref f_23)))
  (l_23:K.lookup f_23=some ⟨oc_23,od_23,.func (zcs1 "own_hosts" "own_hosts" (zb1 zo1) (za9 zo1) (za3 zo1) .none kV_23 dc_23 pm_23 an_23 cd_23 ct_23),sl_23⟩)
  (c_23:zcr7 K cd_23 "own_hosts"=true)
  (k_23:zcr5 K (.ref f_23)=true)
  (a_24:zcr4 K mainGlobals "other_hosts"=some (some (.ref f_24)))
  (l_24:K.lookup f_24=some ⟨oc_24,od_24,.func (zcs1 "other_hosts" "other_hosts" (zb1 zj7) (za9 zj7) (za3 zj7) .none kV_24 dc_24 pm_24 an_24 cd_24 ct_24),sl_24⟩)
  (c_24:zcr7 K cd_24 "other_hosts"=true)
  (k_24:zcr5 K (.ref f_24)=true)
  (a_25:zcr4 K mainGlobals "due"=some (some (.ref f_25)))
  (l_25:K.lookup f_25=some ⟨oc_25,od_25,.func (zcs1 "due" "due" (zb1 zbh8) (za9 zbh8) (za3 zbh8) .none kV_25 dc_25 pm_25 an_25 cd_25 ct_25),sl_25⟩)
  (c_25:zcr7 K cd_25 "due"=true)
  (k_25:zcr5 K (.ref f_25)=true)
  (a_26:zcr4 K mainGlobals "row_dues"=some (some (.ref f_26)))
  (l_26:K.lookup f_26=some ⟨oc_26,od_26,.func (zcs1 "row_dues" "row_dues" (zb1 zq3) (za9 zq3) (za3 zq3) .none kV_26 dc_26 pm_26 an_26 cd_26 ct_26),sl_26⟩)
  (c_26:zcr7 K cd_26 "row_dues"=true)
  (k_26:zcr5 K (.ref f_26)=true)
  (a_27:zcr4 K mainGlobals "dues"=some (some (.ref f_27)))
  (l_27:K.lookup f_27=some ⟨oc_27,od_27,.func (zcs1 "dues" "dues" (zb1 zak7) (za9 zak7) (za3 zak7) .none kV_27 dc_27 pm_27 an_27 cd_27 ct_27),sl_27⟩)
  (c_27:zcr7 K cd_27 "dues"=true)
  (k_27:zcr5 K (.ref f_27)=true)
  (a_28:zcr4 K mainGlobals "bounds"=some (some (.ref f_28)))
  (l_28:K.lookup f_28=some ⟨oc_28,od_28,.func (zcs1 "bounds" "bounds" (zb1 zw2) (za9 zw2) (za3 zw2) .none kV_28 dc_28 pm_28 an_28 cd_28 ct_28),sl_28⟩)
  (c_28:zcr7 K cd_28 "bounds"=true)
  (k_28:zcr5 K (.ref f_28)=true)
  (a_29:zcr4 K mainGlobals "keeps"=some (some (.ref f_29)))
  (l_29:K.lookup f_29=some ⟨oc_29,od_29,.func (zcs1 "keeps" "keeps" (zb1 zaa9) (za9 zaa9) (za3 zaa9) .none kV_29 dc_29 pm_29 an_29 cd_29 ct_29),sl_29⟩)
  (c_29:zcr7 K cd_29 "keeps"=true)
  (k_29:zcr5 K (.ref f_29)=true)
  (a_30:zcr4 K mainGlobals "wrong_form"=some (some (.ref f_30)))
  (l_30:K.lookup f_30=some ⟨oc_30,od_30,.func (zcs1 "wrong_form" "wrong_form" (zb1 zl8) (za9 zl8) (za3 zl8) .none kV_30 dc_30 pm_30 an_30 cd_30 ct_30),sl_30⟩)
  (c_30:zcr7 K cd_30 "wrong_form"=true)
  (k_30:zcr5 K (.ref f_30)=true)
  (a_31:zcr4 K mainGlobals "wrong_number"=some (some (.ref f_31)))
  (l_31:K.lookup f_31=some ⟨oc_31,od_31,.func (zcs1 "wrong_number" "wrong_number" (zb1 zi0) (za9 zi0) (za3 zi0) .none kV_31 dc_31 pm_31 an_31 cd_31 ct_31),sl_31⟩)
  (c_31:zcr7 K cd_31 "wrong_number"=true)
  (k_31:zcr5 K (.ref f_31)=true)
  (a_32:zcr4 K mainGlobals "wrong_worth"=some (some (.ref f_32)))
  (l_32:K.lookup f_32=some ⟨oc_32,od_32,.func (zcs1 "wrong_worth" "wrong_worth" (zb1 zk1) (za9 zk1) (za3 zk1) .none kV_32 dc_32 pm_32 an_32 cd_32 ct_32),sl_32⟩)
  (c_32:zcr7 K cd_32 "wrong_worth"=true)
  (k_32:zcr5 K (.ref f_32)=true)
  (a_33:zcr4 K mainGlobals "judged"=some (some (.ref f_33)))
  (l_33:K.lookup f_33=some ⟨oc_33,od_33,.func (zcs1 "judged" "judged" (zb1 zw0) (za9 zw0) (za3 zw0) .none kV_33 dc_33 pm_33 an_33 cd_33 ct_33),sl_33⟩)
  (c_33:zcr7 K cd_33 "judged"=true)
  (k_33:zcr5 K (.ref f_33)=true)
  (a_34:zcr4 K mainGlobals "_law_mix"=some (some (.ref f_34)))
  (l_34:K.lookup f_34=some ⟨oc_34,od_34,.func (zcs1 "_law_mix" "_law_mix" (zb1 zq5) (za9 zq5) (za3 zq5) .none kV_34 dc_34 pm_34 an_34 cd_34 ct_34),sl_34⟩)
  (c_34:zcr7 K cd_34 "_law_mix"=true)
  (k_34:zcr5 K (.ref f_34)=true)
  (a_35:zcr4 K mainGlobals "_law_cell_at"=some (some (.ref f_35)))
  (l_35:K.lookup f_35=some ⟨oc_35,od_35,.func (zcs1 "_law_cell_at" "_law_cell_at" (zb1 zh7) (za9 zh7) (za3 zh7) .none kV_35 dc_35 pm_35 an_35 cd_35 ct_35),sl_35⟩)
  (c_35:zcr7 K cd_35 "_law_cell_at"=true)
  (k_35:zcr5 K (.ref f_35)=true)
  (a_36:zcr4 K mainGlobals "_law_left"=some (some (.ref f_36)))
  (l_36:K.lookup f_36=some ⟨oc_36,od_36,.func (zcs1 "_law_left" "_law_left" (zb1 zo0) (za9 zo0) (za3 zo0) .none kV_36 dc_36 pm_36 an_36 cd_36 ct_36),sl_36⟩)
  (c_36:zcr7 K cd_36 "_law_left"=true)
  (k_36:zcr5 K (.ref f_36)=true)
  (a_37:zcr4 K mainGlobals "_law_draw"=some (some (.ref f_37)))
  (l_37:K.lookup f_37=some ⟨oc_37,od_37,.func (zcs1 "_law_draw" "_law_draw" (zb1 zn4) (za9 zn4) (za3 zn4) .none kV_37 dc_37 pm_37 an_37 cd_37 ct_37),sl_37⟩)
  (c_37:zcr7 K cd_37 "_law_draw"=true)
  (k_37:zcr5 K (.ref f_37)=true)
  (a_38:zcr4 K mainGlobals "_law_some"=some (some (.ref f_38)))
  (l_38:K.lookup f_38=some ⟨oc_38,od_38,.func (zcs1 "_law_some" "_law_some" (zb1 zn6) (za9 zn6) (za3 zn6) .none kV_38 dc_38 pm_38 an_38 cd_38 ct_38),sl_38⟩)
  (c_38:zcr7 K cd_38 "_law_some"=true)
  (k_38:zcr5 K (.ref f_38)=true)
  (a_39:zcr4 K mainGlobals "_law_rule"=some (some (.ref f_39)))
  (l_39:K.lookup f_39=some ⟨oc_39,od_39,.func (zcs1 "_law_rule" "_law_rule" (zb1 zn5) (za9 zn5) (za3 zn5) .none kV_39 dc_39 pm_39 an_39 cd_39 ct_39),sl_39⟩)
  (c_39:zcr7 K cd_39 "_law_rule"=true)
  (k_39:zcr5 K (.ref f_39)=true)
  (a_40:zcr4 K mainGlobals "_law_battle"=some (some (.ref f_40)))
  (l_40:K.lookup f_40=some ⟨oc_40,od_40,.func (zcs1 "_law_battle" "_law_battle" (zb1 zj5) (za9 zj5) (za3 zj5) .none kV_40 dc_40 pm_40 an_40 cd_40 ct_40),sl_40⟩)
  (c_40:zcr7 K cd_40 "_law_battle"=true)
  (k_40:zcr5 K (.ref f_40)=true)
  (a_41:zcr4 K mainGlobals "_law_paid"=some (some (.ref f_41)))
  (l_41:K.lookup f_41=some ⟨oc_41,od_41,.func (zcs1 "_law_paid" "_law_paid" (zb1 zn3) (za9 zn3) (za3 zn3) .none kV_41 dc_41 pm_41 an_41 cd_41 ct_41),sl_41⟩)
  (c_41:zcr7 K cd_41 "_law_paid"=true)
  (k_41:zcr5 K (.ref f_41)=true)
  (a_42:zcr4 K mainGlobals "_law_plan"=some (some (.ref f_42)))
  (l_42:K.lookup f_42=some ⟨oc_42,od_42,.func (zcs1 "_law_plan" "_law_plan" (zb1 zn2) (za9 zn2) (za3 zn2) .none kV_42 dc_42 pm_42 an_42 cd_42 ct_42),sl_42⟩)
  (c_42:zcr7 K cd_42 "_law_plan"=true)
  (k_42:zcr5 K (.ref f_42)=true)
  (a_43:zcr4 K mainGlobals "_law_flows"=some (some (.ref f_43)))
  (l_43:K.lookup f_43=some ⟨oc_43,od_43,.func (zcs1 "_law_flows" "_law_flows" (zb1 zm0) (za9 zm0) (za3 zm0) .none kV_43 dc_43 pm_43 an_43 cd_43 ct_43),sl_43⟩)
  (c_43:zcr7 K cd_43 "_law_flows"=true)
  (k_43:zcr5 K (.ref f_43)=true)
  (a_44:zcr4 K mainGlobals "_law_lowest"=some (some (.ref f_44)))
  (l_44:K.lookup f_44=some ⟨oc_44,od_44,.func (zcs1 "_law_lowest" "_law_lowest" (zb1 zj8) (za9 zj8) (za3 zj8) .none kV_44 dc_44 pm_44 an_44 cd_44 ct_44),sl_44⟩)
  (c_44:zcr7 K cd_44 "_law_lowest"=true)
  (k_44:zcr5 K (.ref f_44)=true)
  (a_45:zcr4 K mainGlobals "_law_dues"=some (some (.ref f_45)))
  (l_45:K.lookup f_45=some ⟨oc_45,od_45,.func (zcs1 "_law_dues" "_law_dues" (zb1 zm9) (za9 zm9) (za3 zm9) .none kV_45 dc_45 pm_45 an_45 cd_45 ct_45),sl_45⟩)
  (c_45:zcr7 K cd_45 "_law_dues"=true)
  (k_45:zcr5 K (.ref f_45)=true)
  (a_46:zcr4 K mainGlobals "_law_comes"=some (some (.ref f_46)))
  (l_46:K.lookup f_46=some ⟨oc_46,od_46,.func (zcs1 "_law_comes" "_law_comes" (zb1 zm2) (za9 zm2) (za3 zm2) .none kV_46 dc_46 pm_46 an_46 cd_46 ct_46),sl_46⟩)
  (c_46:zcr7 K cd_46 "_law_comes"=true)
  (k_46:zcr5 K (.ref f_46)=true)
  (a_47:zcr4 K mainGlobals "_law_table"=some (some (.ref f_47)))
  (l_47:K.lookup f_47=some ⟨oc_47,od_47,.func (zcs1 "_law_table" "_law_table" (zb1 zm1) (za9 zm1) (za3 zm1) .none kV_47 dc_47 pm_47 an_47 cd_47 ct_47),sl_47⟩)
  (c_47:zcr7 K cd_47 "_law_table"=true)
  (k_47:zcr5 K (.ref f_47)=true)
  (a_48:zcr4 K mainGlobals "_law_all_plans"=some (some (.ref f_48)))
  (l_48:K.lookup f_48=some ⟨oc_48,od_48,.func (zcs1 "_law_all_plans" "_law_all_plans" (zb1 zf4) (za9 zf4) (za3 zf4) .none kV_48 dc_48 pm_48 an_48 cd_48 ct_48),sl_48⟩)
  (c_48:zcr7 K cd_48 "_law_all_plans"=true)
  (k_48:zcr5 K (.ref f_48)=true)
  (a_49:zcr4 K mainGlobals "_law_brought"=some (some (.ref f_49)))
  (l_49:K.lookup f_49=some ⟨oc_49,od_49,.func (zcs1 "_law_brought" "_law_brought" (zb1 zh8) (za9 zh8) (za3 zh8) .none kV_49 dc_49 pm_49 an_49 cd_49 ct_49),sl_49⟩)
  (c_49:zcr7 K cd_49 "_law_brought"=true)
  (k_49:zcr5 K (.ref f_49)=true)
  (a_50:zcr4 K mainGlobals "_law_tables"=some (some (.ref f_50)))
  (l_50:K.lookup f_50=some ⟨oc_50,od_50,.func (zcs1 "_law_tables" "_law_tables" (zb1 zk2) (za9 zk2) (za3 zk2) .none kV_50 dc_50 pm_50 an_50 cd_50 ct_50),sl_50⟩)
  (c_50:zcr7 K cd_50 "_law_tables"=true)
  (k_50:zcr5 K (.ref f_50)=true)
  (a_51:zcr4 K mainGlobals "law"=some (some (.ref f_51)))
  (l_51:K.lookup f_51=some ⟨oc_51,od_51,.func (zcs1 "law" "law" (zb1 zao6) (za9 zao6) (za3 zao6) .none kV_51 dc_51 pm_51 an_51 cd_51 ct_51),sl_51⟩)
  (c_51:zcr7 K cd_51 "law"=true)
  (k_51:zcr5 K (.ref f_51)=true)
  (z_all:zcr4 K mainGlobals "all"=some none)
  (z_bool:zcr4 K mainGlobals "bool"=some none)
  (z_enumerate:zcr4 K mainGlobals "enumerate"=some none)
  (z_int:zcr4 K mainGlobals "int"=some none)
  (z_isinstance:zcr4 K mainGlobals "isinstance"=some none)
  (z_len:zcr4 K mainGlobals "len"=some none)
  (z_list:zcr4 K mainGlobals "list"=some none)
  (z_max:zcr4 K mainGlobals "max"=some none)
  (z_min:zcr4 K mainGlobals "min"=some none)
  (z_range:zcr4 K mainGlobals "range"=some none)
  (z_reversed:zcr4 K mainGlobals "reversed"=some none)
  (z_sorted:zcr4 K mainGlobals "sorted"=some none)
  (z_sum:zcr4 K mainGlobals "sum"=some none)
  (z_tuple:zcr4 K mainGlobals "tuple"=some none)
  (z_zip:zcr4 K mainGlobals "zip"=some none)
  (e_HostError:zcr4 K mainGlobals "HostError"=some (some (.ref zck3)))
  (kk_HostError:zcy1 K zck3=some zcp4)
  (tt_HostError:zcx5 K (.ref zck3)=some (.type "type"))
  (nn_HostError:zcv0 K (.type "NoneType") (.ref zck3)=some false)
  (e_NoBattle:zcr4 K mainGlobals "NoBattle"=some (some (.ref zck0)))
  (kk_NoBattle:zcy1 K zck0=some zcp8)
  (tt_NoBattle:zcx5 K (.ref zck0)=some (.type "type"))
  (nn_NoBattle:zcv0 K (.type "NoneType") (.ref zck0)=some false)
  (e_NoPlan:zcr4 K mainGlobals "NoPlan"=some (some (.ref zck8)))
  (kk_NoPlan:zcy1 K zck8=some zcq1)
  (tt_NoPlan:zcx5 K (.ref zck8)=some (.type "type"))
  (nn_NoPlan:zcv0 K (.type "NoneType") (.ref zck8)=some false)
  (e_NoSide:zcr4 K mainGlobals "NoSide"=some (some (.ref zck2)))
  (kk_NoSide:zcy1 K zck2=some zcq2)
  (tt_NoSide:zcx5 K (.ref zck2)=some (.type "type"))
  (nn_NoSide:zcv0 K (.type "NoneType") (.ref zck2)=some false)
  (bb_HostError:zcv0 K (.ref zck3) (.type "BaseException")=some true)
  (x_HostError:PySem.W.excIn K zck3 bmV newV=true)
  (ob_NoBattle:K.lookup zck0=some (excClassObj nm_NoBattle qn_NoBattle zck0 N_NoBattle bs_NoBattle (.ref zck3 :: bmV) true sn_NoBattle sub_NoBattle ab_NoBattle col_NoBattle dd_NoBattle k0_NoBattle k1_NoBattle k2_NoBattle k3_NoBattle k5_NoBattle newV))
  (in_NoBattle:zcu5 K (.ref zck0) "__init__"=some (some (.ref zck6)))
  (ty_NoBattle:zcx5 K (.ref zck6)=some (.type "function"))
  (sa_NoBattle:zcu5 K (.ref zck0) "__setattr__"=some (some (.builtin "object.__setattr__")))
  (nf_NoBattle:zcu5 K (.ref zck0) "field"=some none)
  (hd_NoBattle:PySem.W.hasDictIn K zck0=true)
  (li_NoBattle:K.lookup zck6=some ⟨ioc_NoBattle,iod_NoBattle,.func (zcs1 "__init__" "NoBattle.__init__" (zb1 zm5) (za9 zm5) (za3 zm5) .none ikV_NoBattle idc_NoBattle ipm_NoBattle ian_NoBattle icd_NoBattle ict_NoBattle),isl_NoBattle⟩)
  (ci_NoBattle:zcr7 K icd_NoBattle "NoBattle.__init__"=true)
  (ki_NoBattle:zcr5 K (.ref zck6)=true)
  (f1_NoBattle:zcu5 K (.ref zck0) "__getattribute__"=some (some (.builtin "BaseException.__getattribute__")))
  (f2_NoBattle:zcu5 K (.ref zck0) "__getattr__"=some none)
  (f3_NoBattle:zcu5 K (.ref zck0) "__class__"=some (some (.builtin "object.__class__")))
  (f4_NoBattle:zcv0 K (.ref zck0) (.type "BaseException")=some true)
  (f5_NoBattle:PySem.W.mroIn K zck0 (.type "object")=some true)
  (f6_NoBattle:zcv0 K (.ref zck0) (.type "ValueError")=some true)
  (s_NoBattle_HostError:zcv0 K (.ref zck0) (.ref zck3)=some true)
  (s_NoBattle_NoBattle:zcv0 K (.ref zck0) (.ref zck0)=some true)
  (s_NoBattle_NoPlan:zcv0 K (.ref zck0) (.ref zck8)=some false)
  (s_NoBattle_NoSide:zcv0 K (.ref zck0) (.ref zck2)=some false)
  (x_NoSide:PySem.W.excIn K zck2 bmV newV=true)
  (f1_NoSide:zcu5 K (.ref zck2) "__getattribute__"=some (some (.builtin "BaseException.__getattribute__")))
  (f2_NoSide:zcu5 K (.ref zck2) "__getattr__"=some none)
  (f3_NoSide:zcu5 K (.ref zck2) "__class__"=some (some (.builtin "object.__class__")))
  (f4_NoSide:zcv0 K (.ref zck2) (.type "BaseException")=some true)
  (f5_NoSide:PySem.W.mroIn K zck2 (.type "object")=some true)
  (f6_NoSide:zcv0 K (.ref zck2) (.type "ValueError")=some true)
  (s_NoSide_HostError:zcv0 K (.ref zck2) (.ref zck3)=some true)
  (s_NoSide_NoBattle:zcv0 K (.ref zck2) (.ref zck0)=some false)
  (s_NoSide_NoPlan:zcv0 K (.ref zck2) (.ref zck8)=some false)
  (s_NoSide_NoSide:zcv0 K (.ref zck2) (.ref zck2)=some true) :
  ∃ fd:FuncData,(∀ (s:Shared) (v:Value),BindsTo s fd ⟨[v],[]⟩ [("_law_script",v)])/\∀ base:Heap,K.In base->base.Ns mainGlobals mg->FnOk l.prog w K mg base CX0 12 fa fd ["_law_script"] (spLaw K):=by
 have e:=hfa.symm.trans (zcr8 X G a_51)
 cases e
 have N:Nm mg:=⟨zcu3 X G z_all,zcu3 X G z_bool,zcu3 X G z_enumerate,zcu3 X G z_int,zcu3 X G z_isinstance,zcu3 X G z_len,zcu3 X G z_list,zcu3 X G z_max,zcu3 X G z_min,zcu3 X G z_range,zcu3 X G z_reversed,zcu3 X G z_sorted,zcu3 X G z_sum,zcu3 X G z_tuple,zcu3 X G z_zip⟩
 have zcp5:=zcr8 X G e_MOST_HOSTS
 have zcp3:=zcr8 X G e_MOST_FIELDS
 have F_0:=zb9 (st:=zp8) l_0 c_0 k_0
 have F_1:=zb9 (st:=zs7) l_1 c_1 k_1
 have F_2:=zb9 (st:=zl9) l_2 c_2 k_2
 have F_3:=zb9 (st:=zk0) l_3 c_3 k_3
 have F_4:=zb9 (st:=zs9) l_4 c_4 k_4
 have F_5:=zb9 (st:=zn8) l_5 c_5 k_5
 have F_6:=zb9 (st:=zq4) l_6 c_6 k_6
 have F_7:=zb9 (st:=zh9) l_7 c_7 k_7
 have F_8:=zb9 (st:=zq1) l_8 c_8 k_8
 have F_9:=zb9 (st:=zp9) l_9 c_9 k_9
 have F_10:=zb9 (st:=zj9) l_10 c_10 k_10
 have F_11:=zb9 (st:=zm3) l_11 c_11 k_11
 have F_12:=zb9 (st:=zbi0) l_12 c_12 k_12
 have F_13:=zb9 (st:=zl7) l_13 c_13 k_13
 have F_14:=zb9 (st:=zak0) l_14 c_14 k_14
 have F_15:=zb9 (st:=zt2) l_15 c_15 k_15
 have F_16:=zb9 (st:=zv7) l_16 c_16 k_16
 have F_17:=zb9 (st:=zw1) l_17 c_17 k_17
 have F_18:=zb9 (st:=zw3) l_18 c_18 k_18
 have F_19:=zb9 (st:=zaa7) l_19 c_19 k_19
 have F_20:=zb9 (st:=zn1) l_20 c_20 k_20
 have F_21:=zb9 (st:=zq0) l_21 c_21 k_21
 have F_22:=zb9 (st:=zn9) l_22 c_22 k_22
 have F_23:=zb9 (st:=zo1) l_23 c_23 k_23
 have F_24:=zb9 (st:=zj7) l_24 c_24 k_24
 have F_25:=zb9 (st:=zbh8) l_25 c_25 k_25
 have F_26:=zb9 (st:=zq3) l_26 c_26 k_26
 have F_27:=zb9 (st:=zak7) l_27 c_27 k_27
 have F_28:=zb9 (st:=zw2) l_28 c_28 k_28
 have F_29:=zb9 (st:=zaa9) l_29 c_29 k_29
 have F_30:=zb9 (st:=zl8) l_30 c_30 k_30
 have F_31:=zb9 (st:=zi0) l_31 c_31 k_31
 have F_32:=zb9 (st:=zk1) l_32 c_32 k_32
 have F_33:=zb9 (st:=zw0) l_33 c_33 k_33
 have F_34:=zb9 (st:=zq5) l_34 c_34 k_34
 have F_35:=zb9 (st:=zh7) l_35 c_35 k_35
 have F_36:=zb9 (st:=zo0) l_36 c_36 k_36
 have F_37:=zb9 (st:=zn4) l_37 c_37 k_37
 have F_38:=zb9 (st:=zn6) l_38 c_38 k_38
 have F_39:=zb9 (st:=zn5) l_39 c_39 k_39
 have F_40:=zb9 (st:=zj5) l_40 c_40 k_40
 have F_41:=zb9 (st:=zn3) l_41 c_41 k_41
 have F_42:=zb9 (st:=zn2) l_42 c_42 k_42
 have F_43:=zb9 (st:=zm0) l_43 c_43 k_43
 have F_44:=zb9 (st:=zj8) l_44 c_44 k_44
 have F_45:=zb9 (st:=zm9) l_45 c_45 k_45
 have F_46:=zb9 (st:=zm2) l_46 c_46 k_46
 have F_47:=zb9 (st:=zm1) l_47 c_47 k_47
 have F_48:=zb9 (st:=zf4) l_48 c_48 k_48
 have F_49:=zb9 (st:=zh8) l_49 c_49 k_49
 have F_50:=zb9 (st:=zk2) l_50 c_50 k_50
 have F_51:=zb9 (st:=zao6) l_51 c_51 k_51
 refine⟨zcs1 "law" "law" (zb1 zao6) (za9 zao6) (za3 zao6) .none kV_51 dc_51 pm_51 an_51 cd_51 ct_51,fun s v=>.of_eq rfl,fun base XB GB=>?_⟩
 have Z:Cz K mg base zck3 zck0 zck8 zck2 zck6:=⟨zcr8 X G e_HostError,zcr8 X G e_NoBattle,zcr8 X G e_NoPlan,zcr8 X G e_NoSide,⟨⟨_,_,_,_,_,_,_,_,_,_,_,_,_,_,ob_NoBattle⟩,fun h X=>zbj0 X x_HostError,in_NoBattle,ty_NoBattle,sa_NoBattle,nf_NoBattle⟩,⟨_,zb9 (st:=zm5) li_NoBattle ci_NoBattle ki_NoBattle,(zb9 (st:=zm5) li_NoBattle ci_NoBattle ki_NoBattle).binds fun _ _ _ _ _ _ us hl=>match us,hl with | [_,_],_=>rfl⟩,hd_NoBattle,⟨f1_NoBattle,f2_NoBattle,f3_NoBattle,f4_NoBattle,f5_NoBattle⟩,by rw[kk_NoBattle];rfl,zbq3 bb_HostError kk_HostError tt_HostError s_NoBattle_HostError,zw4 f6_NoBattle,zu5 kk_HostError tt_HostError s_NoBattle_HostError s_NoBattle_NoBattle,zu5 kk_NoBattle tt_NoBattle s_NoBattle_NoBattle s_NoBattle_NoBattle,zu5 kk_NoPlan tt_NoPlan s_NoBattle_NoPlan s_NoBattle_NoBattle,zu5 kk_NoSide tt_NoSide s_NoBattle_NoSide s_NoBattle_NoBattle,zbx1 XB GB e_NoSide x_NoSide,⟨f1_NoSide,f2_NoSide,f3_NoSide,f4_NoSide,f5_NoSide⟩,by rw[kk_NoSide];rfl,zbq3 bb_HostError kk_HostError tt_HostError s_NoSide_HostError,zw4 f6_NoSide,zu5 kk_HostError tt_HostError s_NoSide_HostError s_NoSide_NoSide,zu5 kk_NoBattle tt_NoBattle s_NoSide_NoBattle s_NoSide_NoSide,zu5 kk_NoPlan tt_NoPlan s_NoSide_NoPlan s_NoSide_NoSide,zu5 kk_NoSide tt_NoSide s_NoSide_NoSide s_NoSide_NoSide,zad0 kk_HostError tt_HostError nn_HostError,zad0 kk_NoBattle tt_NoBattle nn_NoBattle,zad0 kk_NoPlan tt_NoPlan nn_NoPlan,zad0 kk_NoSide tt_NoSide nn_NoSide⟩
 have zcl0:Def l.prog w K mg base CX0 1 "is_whole" ["thing"] zf7:=⟨⟨_,_,zaz4 (P:=l.prog) (w:=w) (base:=base) F_0 N ,zcr8 X G a_0,k_0,F_0.binds fun _ _ _ _ _ _ us hl=>match us,hl with | [_],_=>rfl⟩⟩
 have zck7:Def l.prog w K mg base CX0 2 "is_from" ["thing","least"] zg3:=⟨⟨_,_,zbh1 (P:=l.prog) (w:=w) (base:=base) F_1 N zcl0,zcr8 X G a_1,k_1,F_1.binds fun _ _ _ _ _ _ us hl=>match us,hl with | [_,_],_=>rfl⟩⟩
 have zck5:Def l.prog w K mg base CX0 3 "is_between" ["thing","least","most"] zd5:=⟨⟨_,_,zap6 (P:=l.prog) (w:=w) (base:=base) F_2 N zck7,zcr8 X G a_2,k_2,F_2.binds fun _ _ _ _ _ _ us hl=>match us,hl with | [_,_,_],_=>rfl⟩⟩
 have zcl9:Def l.prog w K mg base CX0 3 "sends_hosts" ["plan"] zg1:=⟨⟨_,_,zaj0 (P:=l.prog) (w:=w) (base:=base) F_3 N zck7,zcr8 X G a_3,k_3,F_3.binds fun _ _ _ _ _ _ us hl=>match us,hl with | [_],_=>rfl⟩⟩
 have zco2:Def l.prog w K mg base CX0 4 "is_plan" ["hosts","fields","plan"] zo2:=⟨⟨_,_,zbh6 (P:=l.prog) (w:=w) (base:=base) F_4 N zcl9,zcr8 X G a_4,k_4,F_4.binds fun _ _ _ _ _ _ us hl=>match us,hl with | [_,_,_],_=>rfl⟩⟩
 have zcn2:Def l.prog w K mg base CX0 4 "are_hosts" ["first","second"] zj2:=⟨⟨_,_,zaw1 (P:=l.prog) (w:=w) (base:=base) F_5 N zcp5 zck5,zcr8 X G a_5,k_5,F_5.binds fun _ _ _ _ _ _ us hl=>match us,hl with | [_,_],_=>rfl⟩⟩
 have zco3:Def l.prog w K mg base CX0 5 "has_size" ["battle"] zl4:=⟨⟨_,_,zay5 (P:=l.prog) (w:=w) (base:=base) F_6 N zcp3 zcn2,zcr8 X G a_6,k_6,F_6.binds fun _ _ _ _ _ _ us hl=>match us,hl with | [_],_=>rfl⟩⟩
 have zcl4:Def l.prog w K mg base CX0 2 "is_table_row" ["many_numbers","row"] ze9:=⟨⟨_,_,zaf9 (P:=l.prog) (w:=w) (base:=base) F_7 N zcl0,zcr8 X G a_7,k_7,F_7.binds fun _ _ _ _ _ _ us hl=>match us,hl with | [_,_],_=>rfl⟩⟩
 have zcl3:Def l.prog w K mg base CX0 3 "is_table" ["many_rows","many_numbers","rows"] zj3:=⟨⟨_,_,zba7 (P:=l.prog) (w:=w) (base:=base) F_8 N zcl4,zcr8 X G a_8,k_8,F_8.binds fun _ _ _ _ _ _ us hl=>match us,hl with | [_,_,_],_=>rfl⟩⟩
 have zco4:Def l.prog w K mg base CX0 4 "is_field" ["first","second","field"] zl3:=⟨⟨_,_,zaz9 (P:=l.prog) (w:=w) (base:=base) F_9 N zck5 zck7 zcl3 zcl0,zcr8 X G a_9,k_9,F_9.binds fun _ _ _ _ _ _ us hl=>match us,hl with | [_,_,_],_=>rfl⟩⟩
 have zcl1:Def l.prog w K mg base (CXR l.prog w) 6 "look_battle" ["battle"] (ze1 zck0):=⟨⟨_,_,zaj5 (P:=l.prog) (w:=w) (base:=base) F_10 N zco3 zco4 Z,zcr8 X G a_10,k_10,F_10.binds fun _ _ _ _ _ _ us hl=>match us,hl with | [_],_=>rfl⟩⟩
 have zcm6:Def l.prog w K mg base CX0 5 "look_plans" ["battle","one","other"] zg8:=⟨⟨_,_,zam1 (P:=l.prog) (w:=w) (base:=base) F_11 N zco2 Z,zcr8 X G a_11,k_11,F_11.binds fun _ _ _ _ _ _ us hl=>match us,hl with | [_,_,_],_=>rfl⟩⟩
 have zcp7:Def l.prog w K mg base CX0 1 "won" ["field","x","y"] zab3:=⟨⟨_,_,ok_won (P:=l.prog) (w:=w) (base:=base) F_12 N ,zcr8 X G a_12,k_12,F_12.binds fun _ _ _ _ _ _ us hl=>match us,hl with | [_,_,_],_=>rfl⟩⟩
 have zcm7:Def l.prog w K mg base CX0 2 "won_in_all" ["fields","one","other"] zh2:=⟨⟨_,_,zam8 (P:=l.prog) (w:=w) (base:=base) F_13 N zcp7,zcr8 X G a_13,k_13,F_13.binds fun _ _ _ _ _ _ us hl=>match us,hl with | [_,_,_],_=>rfl⟩⟩
 have zcq0:Def l.prog w K mg base CX0 7 "gain" ["battle","one","other"] zw9:=⟨⟨_,_,zch9 (P:=l.prog) (w:=w) (base:=base) F_14 N zcl1 zcm6 zcm7,zcr8 X G a_14,k_14,F_14.binds fun _ _ _ _ _ _ us hl=>match us,hl with | [_,_,_],_=>rfl⟩⟩
 have zcp0:Def l.prog w K mg base CX0 4 "is_flow" ["thing"] zn0:=⟨⟨_,_,zbf4 (P:=l.prog) (w:=w) (base:=base) F_15 N zck5 zck7,zcr8 X G a_15,k_15,F_15.binds fun _ _ _ _ _ _ us hl=>match us,hl with | [_],_=>rfl⟩⟩
 have zcn0:Def l.prog w K mg base CX0 5 "is_row" ["row"] zo9:=⟨⟨_,_,zbm6 (P:=l.prog) (w:=w) (base:=base) F_16 N zcp0,zcr8 X G a_16,k_16,F_16.binds fun _ _ _ _ _ _ us hl=>match us,hl with | [_],_=>rfl⟩⟩
 have zcp1:Def l.prog w K mg base CX0 6 "begins" ["stream"] zr4:=⟨⟨_,_,zbk7 (P:=l.prog) (w:=w) (base:=base) F_17 N zcn0,zcr8 X G a_17,k_17,F_17.binds fun _ _ _ _ _ _ us hl=>match us,hl with | [_],_=>rfl⟩⟩
 have zco8:Def l.prog w K mg base CX0 1 "summed" ["pairs"] zr3:=⟨⟨_,_,zbn5 (P:=l.prog) (w:=w) (base:=base) F_18 N ,zcr8 X G a_18,k_18,F_18.binds fun _ _ _ _ _ _ us hl=>match us,hl with | [_],_=>rfl⟩⟩
 have zcp6:Def l.prog w K mg base CX0 2 "meets" ["ahead","row"] zt4:=⟨⟨_,_,zby3 (P:=l.prog) (w:=w) (base:=base) F_19 N zco8,zcr8 X G a_19,k_19,F_19.binds fun _ _ _ _ _ _ us hl=>match us,hl with | [_,_],_=>rfl⟩⟩
 have zcn5:Def l.prog w K mg base CX0 7 "is_stream" ["hosts","fields","stream"] zi4:=⟨⟨_,_,zau9 (P:=l.prog) (w:=w) (base:=base) F_20 N zcp1 zcn0 zcp6,zcr8 X G a_20,k_20,F_20.binds fun _ _ _ _ _ _ us hl=>match us,hl with | [_,_,_],_=>rfl⟩⟩
 have zco7:Def l.prog w K mg base CX0 1 "whole_in" ["stream"] zl5:=⟨⟨_,_,zaz6 (P:=l.prog) (w:=w) (base:=base) F_21 N ,zcr8 X G a_21,k_21,F_21.binds fun _ _ _ _ _ _ us hl=>match us,hl with | [_],_=>rfl⟩⟩
 have zcn7:Def l.prog w K mg base (CXR l.prog w) 1 "look_side" ["side"] (zi3 zck2):=⟨⟨_,_,zas2 (P:=l.prog) (w:=w) (base:=base) F_22 N Z,zcr8 X G a_22,k_22,F_22.binds fun _ _ _ _ _ _ us hl=>match us,hl with | [_],_=>rfl⟩⟩
 have zcn6:Def l.prog w K mg base CX0 1 "own_hosts" ["battle","side"] zi8:=⟨⟨_,_,zar2 (P:=l.prog) (w:=w) (base:=base) F_23 N ,zcr8 X G a_23,k_23,F_23.binds fun _ _ _ _ _ _ us hl=>match us,hl with | [_,_],_=>rfl⟩⟩
 have zck4:Def l.prog w K mg base CX0 1 "other_hosts" ["battle","side"] zd6:=⟨⟨_,_,zah8 (P:=l.prog) (w:=w) (base:=base) F_24 N ,zcr8 X G a_24,k_24,F_24.binds fun _ _ _ _ _ _ us hl=>match us,hl with | [_,_],_=>rfl⟩⟩
 have D_due:Def l.prog w K mg base CX0 2 "due" ["field","side","row","count"] zah0:=⟨⟨_,_,ok_due (P:=l.prog) (w:=w) (base:=base) F_25 N zcp7,zcr8 X G a_25,k_25,F_25.binds fun _ _ _ _ _ _ us hl=>match us,hl with | [_,_,_,_],_=>rfl⟩⟩
 have zco5:Def l.prog w K mg base CX0 3 "row_dues" ["field","side","row","most"] zl2:=⟨⟨_,_,zaz2 (P:=l.prog) (w:=w) (base:=base) F_26 N D_due,zcr8 X G a_26,k_26,F_26.binds fun _ _ _ _ _ _ us hl=>match us,hl with | [_,_,_,_],_=>rfl⟩⟩
 have zcp9:Def l.prog w K mg base CX0 4 "dues" ["battle","side","stream"] zx3:=⟨⟨_,_,zch0 (P:=l.prog) (w:=w) (base:=base) F_27 N zck4 zco5,zcr8 X G a_27,k_27,F_27.binds fun _ _ _ _ _ _ us hl=>match us,hl with | [_,_,_],_=>rfl⟩⟩
 have zcp2:Def l.prog w K mg base CX0 1 "bounds" ["field_dues","behind","count"] zm6:=⟨⟨_,_,zbo6 (P:=l.prog) (w:=w) (base:=base) F_28 N ,zcr8 X G a_28,k_28,F_28.binds fun _ _ _ _ _ _ us hl=>match us,hl with | [_,_,_],_=>rfl⟩⟩
 have zco6:Def l.prog w K mg base CX0 1 "keeps" ["side","number","bound"] zs0:=⟨⟨_,_,zbw5 (P:=l.prog) (w:=w) (base:=base) F_29 N ,zcr8 X G a_29,k_29,F_29.binds fun _ _ _ _ _ _ us hl=>match us,hl with | [_,_,_],_=>rfl⟩⟩
 have zcm4:Def l.prog w K mg base CX0 8 "wrong_form" ["battle","side","paper"] zh1:=⟨⟨_,_,zap8 (P:=l.prog) (w:=w) (base:=base) F_30 N zcn5 zcl3 zck4 zcn6,zcr8 X G a_30,k_30,F_30.binds fun _ _ _ _ _ _ us hl=>match us,hl with | [_,_,_],_=>rfl⟩⟩
 have zcl7:Def l.prog w K mg base CX0 5 "wrong_number" ["battle","side","paper"] zf0:=⟨⟨_,_,zae6 (P:=l.prog) (w:=w) (base:=base) F_31 N zcp2 zcp9 zco6,zcr8 X G a_31,k_31,F_31.binds fun _ _ _ _ _ _ us hl=>match us,hl with | [_,_,_],_=>rfl⟩⟩
 have zcm1:Def l.prog w K mg base CX0 2 "wrong_worth" ["battle","side","worth","paper"] zg0:=⟨⟨_,_,zai0 (P:=l.prog) (w:=w) (base:=base) F_32 N zco6 zck4 zco7,zcr8 X G a_32,k_32,F_32.binds fun _ _ _ _ _ _ us hl=>match us,hl with | [_,_,_,_],_=>rfl⟩⟩
 have zco9:Def l.prog w K mg base CX0 9 "judged" ["battle","side","worth","paper"] zq8:=⟨⟨_,_,zbl5 (P:=l.prog) (w:=w) (base:=base) F_33 N zcl1 zcn7 zcm4 zcl7 zcm1,zcr8 X G a_33,k_33,F_33.binds fun _ _ _ _ _ _ us hl=>match us,hl with | [_,_,_,_],_=>rfl⟩⟩
 have zcn1:Def l.prog w K mg base CX0 1 "_law_mix" ["_law_number","_law_k"] zl6:=⟨⟨_,_,zbb1 (P:=l.prog) (w:=w) (base:=base) F_34 N ,zcr8 X G a_34,k_34,F_34.binds fun _ _ _ _ _ _ us hl=>match us,hl with | [_,_],_=>rfl⟩⟩
 have zcl6:Def l.prog w K mg base CX0 1 "_law_cell_at" ["_law_script","_law_k"] ze5:=⟨⟨_,_,zag9 (P:=l.prog) (w:=w) (base:=base) F_35 N ,zcr8 X G a_35,k_35,F_35.binds fun _ _ _ _ _ _ us hl=>match us,hl with | [_,_],_=>rfl⟩⟩
 have zco0:Def l.prog w K mg base CX0 2 "_law_left" ["_law_script","_law_k"] zj1:=⟨⟨_,_,zas0 (P:=l.prog) (w:=w) (base:=base) F_36 N zcl6,zcr8 X G a_36,k_36,F_36.binds fun _ _ _ _ _ _ us hl=>match us,hl with | [_,_],_=>rfl⟩⟩
 have zck1:Def l.prog w K mg base CX0 2 "_law_draw" ["_law_left_here","_law_base"] zd1:=⟨⟨_,_,zaw0 (P:=l.prog) (w:=w) (base:=base) F_37 N zcn1,zcr8 X G a_37,k_37,F_37.binds fun _ _ _ _ _ _ us hl=>match us,hl with | [_,_],_=>rfl⟩⟩
 have zcn3:Def l.prog w K mg base CX0 3 "_law_some" ["_law_left_here"] zi7:=⟨⟨_,_,zaq5 (P:=l.prog) (w:=w) (base:=base) F_38 N zck1,zcr8 X G a_38,k_38,F_38.binds fun _ _ _ _ _ _ us hl=>match us,hl with | [_],_=>rfl⟩⟩
 have zcn4:Def l.prog w K mg base CX0 4 "_law_rule" ["_law_left_here","_law_first","_law_second"] zj0:=⟨⟨_,_,zar3 (P:=l.prog) (w:=w) (base:=base) F_39 N zck1 zcn3,zcr8 X G a_39,k_39,F_39.binds fun _ _ _ _ _ _ us hl=>match us,hl with | [_,_,_],_=>rfl⟩⟩
 have zcm2:Def l.prog w K mg base CX0 5 "_law_battle" ["_law_left_here","_law_most","_law_fields"] zf9:=⟨⟨_,_,zai1 (P:=l.prog) (w:=w) (base:=base) F_40 N zck1 zcn4,zcr8 X G a_40,k_40,F_40.binds fun _ _ _ _ _ _ us hl=>match us,hl with | [_,_,_],_=>rfl⟩⟩
 have zcn8:Def l.prog w K mg base CX0 1 "_law_paid" ["_law_field","_law_x","_law_y"] zi9:=⟨⟨_,_,zaw9 (P:=l.prog) (w:=w) (base:=base) F_41 N ,zcr8 X G a_41,k_41,F_41.binds fun _ _ _ _ _ _ us hl=>match us,hl with | [_,_,_],_=>rfl⟩⟩
 have zco1:Def l.prog w K mg base CX0 3 "_law_plan" ["_law_left_here","_law_hosts","_law_many"] zi5:=⟨⟨_,_,zas8 (P:=l.prog) (w:=w) (base:=base) F_42 N zck1,zcr8 X G a_42,k_42,F_42.binds fun _ _ _ _ _ _ us hl=>match us,hl with | [_,_,_],_=>rfl⟩⟩
 have zcm9:Def l.prog w K mg base CX0 1 "_law_flows" ["_law_mix_here"] zg7:=⟨⟨_,_,zan5 (P:=l.prog) (w:=w) (base:=base) F_43 N ,zcr8 X G a_43,k_43,F_43.binds fun _ _ _ _ _ _ us hl=>match us,hl with | [_],_=>rfl⟩⟩
 have zcl2:Def l.prog w K mg base CX0 1 "_law_lowest" ["_law_top","_law_bottom"] zf8:=⟨⟨_,_,zai8 (P:=l.prog) (w:=w) (base:=base) F_44 N ,zcr8 X G a_44,k_44,F_44.binds fun _ _ _ _ _ _ us hl=>match us,hl with | [_,_],_=>rfl⟩⟩
 have zcn9:Def l.prog w K mg base CX0 2 "_law_dues" ["_law_battle_here","_law_side","_law_stream"] zi6:=⟨⟨_,_,zaw8 (P:=l.prog) (w:=w) (base:=base) F_45 N zcn8,zcr8 X G a_45,k_45,F_45.binds fun _ _ _ _ _ _ us hl=>match us,hl with | [_,_,_],_=>rfl⟩⟩
 have zcm5:Def l.prog w K mg base CX0 1 "_law_comes" ["_law_owed","_law_table_here","_law_k","_law_rest"] zg9:=⟨⟨_,_,zan0 (P:=l.prog) (w:=w) (base:=base) F_46 N ,zcr8 X G a_46,k_46,F_46.binds fun _ _ _ _ _ _ us hl=>match us,hl with | [_,_,_,_],_=>rfl⟩⟩
 have zcm8:Def l.prog w K mg base CX0 3 "_law_table" ["_law_battle_here","_law_side","_law_stream"] zg6:=⟨⟨_,_,zam5 (P:=l.prog) (w:=w) (base:=base) F_47 N zcm5 zcn9,zcr8 X G a_47,k_47,F_47.binds fun _ _ _ _ _ _ us hl=>match us,hl with | [_,_,_],_=>rfl⟩⟩
 have zck9:Def l.prog w K mg base CX0 8 "_law_all_plans" ["_law_hosts","_law_many"] ze4:=⟨⟨_,_,zaa2 (P:=l.prog) (w:=w) (base:=base) F_48 N  (zcr8 X G a_48) k_48 (F_48.binds fun _ _ _ _ _ _ us hl=>match us,hl with | [_,_],_=>rfl),zcr8 X G a_48,k_48,F_48.binds fun _ _ _ _ _ _ us hl=>match us,hl with | [_,_],_=>rfl⟩⟩
 have zcl8:Def l.prog w K mg base CX0 9 "_law_brought" ["_law_battle_here","_law_side","_law_mix_here"] ze8:=⟨⟨_,_,zag6 (P:=l.prog) (w:=w) (base:=base) F_49 N zck9 zcq0,zcr8 X G a_49,k_49,F_49.binds fun _ _ _ _ _ _ us hl=>match us,hl with | [_,_,_],_=>rfl⟩⟩
 have zcm3:Def l.prog w K mg base CX0 4 "_law_tables" ["_law_left_here","_law_battle_here","_law_side","_law_stream"] zf6:=⟨⟨_,_,zah6 (P:=l.prog) (w:=w) (base:=base) F_50 N zck1 zcm8,zcr8 X G a_50,k_50,F_50.binds fun _ _ _ _ _ _ us hl=>match us,hl with | [_,_,_,_],_=>rfl⟩⟩
 exact ok_law (P:=l.prog) (w:=w) (base:=base) F_51 N zcm2 zcl8 zck1 zcm9 zco0 zcl2 zco1 zcm3 zco9
theorem walk {l:PySem.W.OpenLaw}{q:Program}{loose:List Str}{XP:(Str->Option Value)->Heap->Prop}{YP:World->Heap->Prop}{d:DefRec}{K:Params->zcq5}(hn:l.most=some 63) (hdf:d.params.defaults=[])
  (hY:∀ (w:World) (h:Heap),YP w h->(K w.params).In h)
  (F:∀ (w:World) (mg:Str->Option Value) (fa:Addr) (h:Heap),(K w.params).In h->h.Ns mainGlobals mg->mg d.name=some (.ref fa) ->
   ∃ fd:FuncData,(∀ (s:Shared) (u:Value),BindsTo s fd ⟨[u],[]⟩ [("_law_script",u)])/\∀ base:Heap,(K w.params).In base->base.Ns mainGlobals mg->FnOk l.prog w (K w.params) mg base CX0 12 fa fd ["_law_script"] (spLaw (K w.params))) :
  PySem.W.WalkO q loose XP YP l.row.toRowW d [] (fun f vs=>PySem.call f vs):=
 L2.walk_of (n:=63) (k:=12) (x:="_law_script") (CX:=fun _=>CX0) (sp:=fun w=>spLaw (K w.params)) hn (by decide) hdf ⟨rfl,by decide,by decide,rfl⟩ hY F (fun _ _ a ns hl _ hS=>⟨a,ns,rfl,hS,hl,fun _=>rfl⟩) fun _ _ _ _ _ z=>z
end G
theorem PySem.W.Fast.tw6467599640071581784 : True := trivial
theorem PySem.W.Fast.tw6037968268613747065 : True := trivial
theorem PySem.W.Fast.tw10186125781473802695 : True := trivial
theorem PySem.W.Fast.tw15429559117004955088 : True := trivial
theorem PySem.W.Fast.tw14659692332407998198 : True := trivial
theorem PySem.W.Fast.tw9712128144635416928 : True := trivial
theorem PySem.W.Fast.tw3116003859458036234 : True := trivial
theorem PySem.W.Fast.tw134807895050437810 : True := trivial
theorem PySem.W.Fast.tw6134940298494158280 : True := trivial
theorem PySem.W.Fast.tw16376593954207497780 : True := trivial
theorem PySem.W.Fast.tw2496839059506670481 : True := trivial
theorem PySem.W.Fast.tw8710020276654384366 : True := trivial
theorem PySem.W.Fast.tw3939594547975302516 : True := trivial
theorem PySem.W.Fast.tw7621962820038697567 : True := trivial
theorem PySem.W.Fast.tw7642488075160339699 : True := trivial
theorem PySem.W.Fast.tw11529289322514149337 : True := trivial
theorem PySem.W.Fast.tw2356723229928777833 : True := trivial
theorem PySem.W.Fast.tw5598138859241312127 : True := trivial
theorem PySem.W.Fast.tw8065874195704733966 : True := trivial
theorem PySem.W.Fast.tw4954561781989918410 : True := trivial
theorem PySem.W.Fast.tw14349834048294827307 : True := trivial
theorem PySem.W.Fast.tw13699367273582221227 : True := trivial
theorem PySem.W.Fast.tw9064854065738195880 : True := trivial
theorem PySem.W.Fast.tw1887015944560244079 : True := trivial
open PySem PySem.W PyProof.Rows
set_option maxRecDepth 100000 in
set_option maxHeartbeats 0 in
theorem PySem.Challenge.cw_hostfields_k32_whole_no_plan_does_better_holds : PySem.Challenge.rw_hostfields_k32_whole_no_plan_does_better.Holds := by
 w_on;o_law;k_head;(case hw=>w_witness2)
 k_fill
 first|refine G.walk (l:=PySem.Challenge.rw_hostfields_k32_whole_no_plan_does_better) rfl rfl (fun w h Y=>PySem.W.kIn_of Y) ?F|refine G.walk (l:=PySem.Challenge.rw_hostfields_k32_whole_no_plan_does_better) rfl rfl (fun w h Y=>PySem.W.km_in_of Y) ?F
 case F=>
  intro w mg fa h KX GG hmg
  refine' G.all_mk KX GG hmg ?e_MOST_HOSTS ?e_MOST_FIELDS ?a_0 ?l_0 ?c_0 ?k_0 ?a_1 ?l_1 ?c_1 ?k_1 ?a_2 ?l_2 ?c_2 ?k_2 ?a_3 ?l_3 ?c_3 ?k_3 ?a_4 ?l_4 ?c_4 ?k_4 ?a_5 ?l_5 ?c_5 ?k_5 ?a_6 ?l_6 ?c_6 ?k_6 ?a_7 ?l_7 ?c_7 ?k_7 ?a_8 ?l_8 ?c_8 ?k_8 ?a_9 ?l_9 ?c_9 ?k_9 ?a_10 ?l_10 ?c_10 ?k_10 ?a_11 ?l_11 ?c_11 ?k_11 ?a_12 ?l_12 ?c_12 ?k_12 ?a_13 ?l_13 ?c_13 ?k_13 ?a_14 ?l_14 ?c_14 ?k_14 ?a_15 ?l_15 ?c_15 ?k_15 ?a_16 ?l_16 ?c_16 ?k_16 ?a_17 ?l_17 ?c_17 ?k_17 ?a_18 ?l_18 ?c_18 ?k_18 ?a_19 ?l_19 ?c_19 ?k_19 ?a_20 ?l_20 ?c_20 ?k_20 ?a_21 ?l_21 ?c_21 ?k_21 ?a_22 ?l_22 ?c_22 ?k_22 ?a_23 ?l_23 ?c_23 ?k_23 ?a_24 ?l_24 ?c_24 ?k_24 ?a_25 ?l_25 ?c_25 ?k_25 ?a_26 ?l_26 ?c_26 ?k_26 ?a_27 ?l_27 ?c_27 ?k_27 ?a_28 ?l_28 ?c_28 ?k_28 ?a_29 ?l_29 ?c_29 ?k_29 ?a_30 ?l_30 ?c_30 ?k_30 ?a_31 ?l_31 ?c_31 ?k_31 ?a_32 ?l_32 ?c_32 ?k_32 ?a_33 ?l_33 ?c_33 ?k_33 ?a_34 ?l_34 ?c_34 ?k_34 ?a_35 ?l_35 ?c_35 ?k_35 ?a_36 ?l_36 ?c_36 ?k_36 ?a_37 ?l_37 ?c_37 ?k_37 ?a_38 ?l_38 ?c_38 ?k_38 ?a_39 ?l_39 ?c_39 ?k_39 ?a_40 ?l_40 ?c_40 ?k_40 ?a_41 ?l_41 ?c_41 ?k_41 ?a_42 ?l_42 ?c_42 ?k_42 ?a_43 ?l_43 ?c_43 ?k_43 ?a_44 ?l_44 ?c_44 ?k_44 ?a_45 ?l_45 ?c_45 ?k_45 ?a_46 ?l_46 ?c_46 ?k_46 ?a_47 ?l_47 ?c_47 ?k_47 ?a_48 ?l_48 ?c_48 ?k_48 ?a_49 ?l_49 ?c_49 ?k_49 ?a_50 ?l_50 ?c_50 ?k_50 ?a_51 ?l_51 ?c_51 ?k_51 ?z_all ?z_bool ?z_enumerate ?z_int ?z_isinstance ?z_len ?z_list ?z_max ?z_min ?z_range ?z_reversed ?z_sorted ?z_sum ?z_tuple ?z_zip ?e_HostError ?kk_HostError ?tt_HostError ?nn_HostError ?e_NoBattle ?kk_NoBattle ?tt_NoBattle ?nn_NoBattle ?e_NoPlan ?kk_NoPlan ?tt_NoPlan ?nn_NoPlan ?e_NoSide ?kk_NoSide ?tt_NoSide ?nn_NoSide ?bb_HostError ?x_HostError ?ob_NoBattle ?in_NoBattle ?ty_NoBattle ?sa_NoBattle ?nf_NoBattle ?hd_NoBattle ?li_NoBattle ?ci_NoBattle ?ki_NoBattle ?f1_NoBattle ?f2_NoBattle ?f3_NoBattle ?f4_NoBattle ?f5_NoBattle ?f6_NoBattle ?s_NoBattle_HostError ?s_NoBattle_NoBattle ?s_NoBattle_NoPlan ?s_NoBattle_NoSide ?x_NoSide ?f1_NoSide ?f2_NoSide ?f3_NoSide ?f4_NoSide ?f5_NoSide ?f6_NoSide ?s_NoSide_HostError ?s_NoSide_NoBattle ?s_NoSide_NoPlan ?s_NoSide_NoSide
  (case e_MOST_HOSTS=>k_is)
  (case e_MOST_FIELDS=>k_is)
  (case a_0=>k_is)
  (case l_0=>k_is)
  (case c_0=>k_is)
  (case k_0=>k_is)
  (case a_1=>k_is)
  (case l_1=>k_is)
  (case c_1=>k_is)
  (case k_1=>k_is)
  (case a_2=>k_is)
  (case l_2=>k_is)
  (case c_2=>k_is)
  (case k_2=>k_is)
  (case a_3=>k_is)
  (case l_3=>k_is)
  (case c_3=>k_is)
  (case k_3=>k_is)
  (case a_4=>k_is)
  (case l_4=>k_is)
  (case c_4=>k_is)
  (case k_4=>k_is)
  (case a_5=>k_is)
  (case l_5=>k_is)
  (case c_5=>k_is)
  (case k_5=>k_is)
  (case a_6=>k_is)
  (case l_6=>k_is)
  (case c_6=>k_is)
  (case k_6=>k_is)
  (case a_7=>k_is)
  (case l_7=>k_is)
  (case c_7=>k_is)
  (case k_7=>k_is)
  (case a_8=>k_is)
  (case l_8=>k_is)
  (case c_8=>k_is)
  (case k_8=>k_is)
  (case a_9=>k_is)
  (case l_9=>k_is)
  (case c_9=>k_is)
  (case k_9=>k_is)
  (case a_10=>k_is)
  (case l_10=>k_is)
  (case c_10=>k_is)
  (case k_10=>k_is)
  (case a_11=>k_is)
  (case l_11=>k_is)
  (case c_11=>k_is)
  (case k_11=>k_is)
  (case a_12=>k_is)
  (case l_12=>k_is)
  (case c_12=>k_is)
  (case k_12=>k_is)
  (case a_13=>k_is)
  (case l_13=>k_is)
  (case c_13=>k_is)
  (case k_13=>k_is)
  (case a_14=>k_is)
  (case l_14=>k_is)
  (case c_14=>k_is)
  (case k_14=>k_is)
  (case a_15=>k_is)
  (case l_15=>k_is)
  (case c_15=>k_is)
  (case k_15=>k_is)
  (case a_16=>k_is)
  (case l_16=>k_is)
  (case c_16=>k_is)
  (case k_16=>k_is)
  (case a_17=>k_is)
  (case l_17=>k_is)
  (case c_17=>k_is)
  (case k_17=>k_is)
  (case a_18=>k_is)
  (case l_18=>k_is)
  (case c_18=>k_is)
  (case k_18=>k_is)
  (case a_19=>k_is)
  (case l_19=>k_is)
  (case c_19=>k_is)
  (case k_19=>k_is)
  (case a_20=>k_is)
  (case l_20=>k_is)
  (case c_20=>k_is)
  (case k_20=>k_is)
  (case a_21=>k_is)
  (case l_21=>k_is)
  (case c_21=>k_is)
  (case k_21=>k_is)
  (case a_22=>k_is)
  (case l_22=>k_is)
  (case c_22=>k_is)
  (case k_22=>k_is)
  (case a_23=>k_is)
  (case l_23=>k_is)
  (case c_23=>k_is)
  (case k_23=>k_is)
  (case a_24=>k_is)
  (case l_24=>k_is)
  (case c_24=>k_is)
  (case k_24=>k_is)
  (case a_25=>k_is)
  (case l_25=>k_is)
  (case c_25=>k_is)
  (case k_25=>k_is)
  (case a_26=>k_is)
  (case l_26=>k_is)
  (case c_26=>k_is)
  (case k_26=>k_is)
  (case a_27=>k_is)
  (case l_27=>k_is)
  (case c_27=>k_is)
  (case k_27=>k_is)
  (case a_28=>k_is)
  (case l_28=>k_is)
  (case c_28=>k_is)
  (case k_28=>k_is)
  (case a_29=>k_is)
  (case l_29=>k_is)
  (case c_29=>k_is)
  (case k_29=>k_is)
  (case a_30=>k_is)
  (case l_30=>k_is)
  (case c_30=>k_is)
  (case k_30=>k_is)
  (case a_31=>k_is)
  (case l_31=>k_is)
  (case c_31=>k_is)
  (case k_31=>k_is)
  (case a_32=>k_is)
  (case l_32=>k_is)
  (case c_32=>k_is)
  (case k_32=>k_is)
  (case a_33=>k_is)
  (case l_33=>k_is)
  (case c_33=>k_is)
  (case k_33=>k_is)
  (case a_34=>k_is)
  (case l_34=>k_is)
  (case c_34=>k_is)
  (case k_34=>k_is)
  (case a_35=>k_is)
  (case l_35=>k_is)
  (case c_35=>k_is)
  (case k_35=>k_is)
  (case a_36=>k_is)
  (case l_36=>k_is)
  (case c_36=>k_is)
  (case k_36=>k_is)
  (case a_37=>k_is)
  (case l_37=>k_is)
  (case c_37=>k_is)
  (case k_37=>k_is)
  (case a_38=>k_is)
  (case l_38=>k_is)
  (case c_38=>k_is)
  (case k_38=>k_is)
  (case a_39=>k_is)
  (case l_39=>k_is)
  (case c_39=>k_is)
  (case k_39=>k_is)
  (case a_40=>k_is)
  (case l_40=>k_is)
  (case c_40=>k_is)
  (case k_40=>k_is)
  (case a_41=>k_is)
  (case l_41=>k_is)
  (case c_41=>k_is)
  (case k_41=>k_is)
  (case a_42=>k_is)
  (case l_42=>k_is)
  (case c_42=>k_is)
  (case k_42=>k_is)
  (case a_43=>k_is)
  (case l_43=>k_is)
  (case c_43=>k_is)
  (case k_43=>k_is)
  (case a_44=>k_is)
  (case l_44=>k_is)
  (case c_44=>k_is)
  (case k_44=>k_is)
  (case a_45=>k_is)
  (case l_45=>k_is)
  (case c_45=>k_is)
  (case k_45=>k_is)
  (case a_46=>k_is)
  (case l_46=>k_is)
  (case c_46=>k_is)
  (case k_46=>k_is)
  (case a_47=>k_is)
  (case l_47=>k_is)
  (case c_47=>k_is)
  (case k_47=>k_is)
  (case a_48=>k_is)
  (case l_48=>k_is)
  (case c_48=>k_is)
  (case k_48=>k_is)
  (case a_49=>k_is)
  (case l_49=>k_is)
  (case c_49=>k_is)
  (case k_49=>k_is)
  (case a_50=>k_is)
  (case l_50=>k_is)
  (case c_50=>k_is)
  (case k_50=>k_is)
  (case a_51=>k_is)
  (case l_51=>k_is)
  (case c_51=>k_is)
  (case k_51=>k_is)
  (case z_all=>k_is)
  (case z_bool=>k_is)
  (case z_enumerate=>k_is)
  (case z_int=>k_is)
  (case z_isinstance=>k_is)
  (case z_len=>k_is)
  (case z_list=>k_is)
  (case z_max=>k_is)
  (case z_min=>k_is)
  (case z_range=>k_is)
  (case z_reversed=>k_is)
  (case z_sorted=>k_is)
  (case z_sum=>k_is)
  (case z_tuple=>k_is)
  (case z_zip=>k_is)
  (case e_HostError=>k_is)
  (case kk_HostError=>k_is)
  (case tt_HostError=>k_is)
  (case nn_HostError=>k_is)
  (case e_NoBattle=>k_is)
  (case kk_NoBattle=>k_is)
  (case tt_NoBattle=>k_is)
  (case nn_NoBattle=>k_is)
  (case e_NoPlan=>k_is)
  (case kk_NoPlan=>k_is)
  (case tt_NoPlan=>k_is)
  (case nn_NoPlan=>k_is)
  (case e_NoSide=>k_is)
  (case kk_NoSide=>k_is)
  (case tt_NoSide=>k_is)
  (case nn_NoSide=>k_is)
  (case bb_HostError=>k_is)
  (case x_HostError=>k_exc)
  (case ob_NoBattle=>k_is)
  (case in_NoBattle=>k_is)
  (case ty_NoBattle=>k_is)
  (case sa_NoBattle=>k_is)
  (case nf_NoBattle=>k_is)
  (case hd_NoBattle=>k_is)
  (case li_NoBattle=>k_is)
  (case ci_NoBattle=>k_is)
  (case ki_NoBattle=>k_is)
  (case f1_NoBattle=>k_is)
  (case f2_NoBattle=>k_is)
  (case f3_NoBattle=>k_is)
  (case f4_NoBattle=>k_is)
  (case f5_NoBattle=>k_is)
  (case f6_NoBattle=>k_is)
  (case s_NoBattle_HostError=>k_is)
  (case s_NoBattle_NoBattle=>k_is)
  (case s_NoBattle_NoPlan=>k_is)
  (case s_NoBattle_NoSide=>k_is)
  (case x_NoSide=>k_exc)
  (case f1_NoSide=>k_is)
  (case f2_NoSide=>k_is)
  (case f3_NoSide=>k_is)
  (case f4_NoSide=>k_is)
  (case f5_NoSide=>k_is)
  (case f6_NoSide=>k_is)
  (case s_NoSide_HostError=>k_is)
  (case s_NoSide_NoBattle=>k_is)
  (case s_NoSide_NoPlan=>k_is)
  (case s_NoSide_NoSide=>k_is)
