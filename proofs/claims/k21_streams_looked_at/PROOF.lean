import PyProof.Rows.All
import Wide.All
import OpenK.AllK
import Wide.FinOn
import Lean
import PyProof.EqAt
import PyProof.EqKinds
import PyProof.TupleCall
import PyProof.NeKinds
import PyProof.CompFree
import PyProof.EnumMake
import KE.KTryMore
import PyProof.ExcArgsOwn
import PyProof.ZipIter
import PyProof.ListRange
import KE.KIsAll
import PyProof.InstStoreFacts
import PyProof.ExcInit
import PyProof.ReprRoads
import PyProof.CallStr
import KE.KEqDict
import PyProof.EqLayable
import KE.KRevIter
import PyProof.CollectIter
import PyProof.Rows.SetFrom
import PyProof.TupleKey
import PyProof.SetScanFacts
import KE.KSortKey
import PyProof.StrLawsRepr
import PySem.Challenge.RW_hostfields_k21_streams_looked_at
open List renaming length_map->zbp5,getElem?_eq_getElem->zbp6,getElem?_eq_some_iff->zbp8,length_append->zbp9,mem_of_getElem?->zbq0,getElem?_map->zbq2,size_toArray->zbq3,getD_eq_getElem?_getD->zbq4,length_cons->zbq5,mem_cons->zbq8,all_eq_true->zbr0,length_nil->zbr1,mem_append->zbr2,mem_map->zbr5,length_singleton->zbs0,mem_range->zbs1,not_mem_nil->zbs5,lookup_cons->zbs7,getElem?_of_mem->zbs8,mem_append_right->zbs9,length_take->zbt0,map_map->zbt1,map_append->zbt3,map_cons->zbt4,getElem?_append_right->zbt5,mem_cons_of_mem->zbt8,getElem?_append_left->zbt9,map_congr_left->zbu0,length_drop->zbu1,pairwise_iff_getElem->zbu3,mem_singleton->zbu5,filterMap_cons_some->zbu6,getElem?_eq_none->zbu7,length_reverse->zbu8,nodup_cons->zbu9,mem_cons_self->zbv0,ext_getElem->zbv2,filterMap_cons_none->zbv3,length_range->zbv4,find?_cons->zbv5,take_of_length_le->zbv6,filter_cons->zbv7,mem_of_mem_take->zbw0,mem_of_mem_drop->zbw1,filterMap_cons->zbw2,replicate_succ->zbw3,drop_of_length_le->zbw5,toArray->zbw7,all_map->zbw9,take_length->zbx0
open PySem.W renaming Frag->zbp7,nsIn->zbr7,keepIn->zbr9,codeIn->zbs2,fnOf->zbs6,mg_of->zbt2,mg_none_of->zbt6,kia_one->zbv1,kitOne->zbv9
open PySem.Heap renaming get?_push_of_some->zbq1,lt_size->zbr4,get?_push_size->zbr8
open Bool renaming false_ne_true->zbq6,and_eq_true->zbr3,true_and->zbu2,eq_iff_iff->zbu4,false_eq_true->zbv8
open Option renaming map_eq_some_iff->zbq7
open Nat renaming le_refl->zbq9,lt_of_lt_of_le->zbr6,ne_of_lt->zbs3,zero_le->zbs4,le_trans->zbt7,lt_irrefl->zbw4,le_add_right->zbw6,le_succ->zbw8
set_option Elab.async false
set_option linter.all false
set_option maxRecDepth 100000
namespace L2
open PySem PySem.Spec PyProof.Rows
abbrev Key:=Sum Int Str
def zap8:Key->Value->Bool
 | .inl k,v=>Value.isInt k v
 | .inr x,v=>Value.isStrOf x v
def keyH (w:World):Key->Int
 | .inl k=>hashInt k
 | .inr x=>hashStr w x
theorem zf3:∀ {k:Key}{v:Value},zap8 k v=true->(∃ i t,k=Sum.inl i/\v=Value.int i t)∨(∃ x t,k=Sum.inr x/\v=Value.str x t)
 | .inl i,v,h=>by
  obtain⟨t,e⟩:=Value.isInt_shape (k:=i) (v:=v) h
  exact .inl ⟨i,t,rfl,e⟩
 | .inr x,v,h=>by
  obtain⟨t,e⟩:=Value.isStrOf_shape (x:=x) (v:=v) h
  exact .inr ⟨x,t,rfl,e⟩
theorem zau4 (i:Int) (t:Tok):zap8 (.inl i) (.int i t)=true:=by simp[zap8,Value.isInt]
theorem zbb0 (x:Str) (t:Tok):zap8 (.inr x) (.str x t)=true:=by simp[zap8,Value.isStrOf]
theorem key_ll (a b:Int):decide ((Sum.inl a:Key)=Sum.inl b)=(a==b):=by
 by_cases e:a=b
 ·subst e;simp
 ·have h:¬ (Sum.inl a:Key)=Sum.inl b:=fun q=>e (Sum.inl.inj q)
  rw[decide_eq_false h]
  exact (beq_eq_false_iff_ne.mpr e).symm
theorem key_rr (a b:Str):decide ((Sum.inr a:Key)=Sum.inr b)=decide (a=b):=by
 by_cases e:a=b
 ·subst e;simp
 ·have h:¬ (Sum.inr a:Key)=Sum.inr b:=fun q=>e (Sum.inr.inj q)
  rw[decide_eq_false h,decide_eq_false e]
theorem key_lr (a:Int) (b:Str):decide ((Sum.inl a:Key)=Sum.inr b)=false:=decide_eq_false (fun q=>nomatch q)
theorem key_rl (a:Str) (b:Int):decide ((Sum.inr a:Key)=Sum.inl b)=false:=decide_eq_false (fun q=>nomatch q)
def zg2 (prog:Program) (w:World):PySem.KeyKind prog w Key where
 is:=zap8
 hash:=keyH w
 inj:=fun v a b ha hb=>by
  rcases zf3 ha with ⟨i,t,rfl,rfl⟩|⟨x,t,rfl,rfl⟩
  ·rcases zf3 hb with ⟨j,u,rfl,e⟩|⟨y,u,rfl,e⟩
   ·injection e with e1 _;rw[e1]
   ·exact nomatch e
  ·rcases zf3 hb with ⟨j,u,rfl,e⟩|⟨y,u,rfl,e⟩
   ·exact nomatch e
   ·injection e with e1 _;rw[e1]
 byValue:=fun k v h=>by
  rcases zf3 h with ⟨i,t,rfl,rfl⟩|⟨x,t,rfl,rfl⟩<;>rfl
 pyHash:=fun hv h=>by
  rcases zf3 hv with ⟨i,t,rfl,rfl⟩|⟨x,t,rfl,rfl⟩
  ·exact wpAny_pyHash_int h
  ·exact wpAny_pyHash_str h
 eqBool:=fun hu hv h=>by
  rcases zf3 hu with ⟨i,t,rfl,rfl⟩|⟨x,t,rfl,rfl⟩
  ·rcases zf3 hv with ⟨j,u,rfl,rfl⟩|⟨y,u,rfl,rfl⟩
   ·rw[key_ll] at h;exact wpAny_eqBool_int h
   ·rw[key_lr] at h;exact SeqAt.EqAt.int_str i t y u _ _ _ _ h
  ·rcases zf3 hv with ⟨j,u,rfl,rfl⟩|⟨y,u,rfl,rfl⟩
   ·rw[key_rl] at h;exact SeqAt.EqAt.str_int x t j u _ _ _ _ h
   ·rw[key_rr] at h;exact wpAny_eqBool_str h
 «strs»:=fun k x t v h=>by
  rcases zf3 h with ⟨i,u,rfl,e⟩|⟨y,u,rfl,e⟩
  ·exact nomatch e
  ·injection e with e1 _
   subst e1
   cases v<;>rfl
theorem zak0 (prog:Program) (w:World) (i:Int) (t:Tok):(zg2 prog w).is (.inl i) (.int i t)=true:=zau4 i t
theorem zak2 (prog:Program) (w:World) (x:Str) (t:Tok):(zg2 prog w).is (.inr x) (.str x t)=true:=zbb0 x t
end L2
namespace L2
open PySem PySem.Spec PyProof.Rows
inductive V where
 | non | bl (b:Bool) | int (i:Int) | str (x:Str) | byt (b:Array UInt8) | flt (b:UInt64) | ref (a:Addr) | ty (n:String)
 deriving DecidableEq
def RelV:V->Value->Prop
 | .non,u=>u=Value.none
 | .bl b,u=>u=Value.bool b
 | .int i,u=>∃ t,u=Value.int i t
 | .str x,u=>∃ t,u=Value.str x t
 | .byt b,u=>∃ t,u=Value.bytes b t
 | .flt b,u=>∃ t,u=Value.float b t
 | .ref a,u=>u=Value.ref a
 | .ty n,u=>u=Value.type n
abbrev Vals:List V->List Value->Prop:=Paired RelV
theorem Vals.length {xs:List V}{us:List Value}(r:Vals xs us):xs.length=us.length:=Paired.length r
theorem Vals.get:∀ {xs:List V}{us:List Value}{i:Nat}{x:V},Vals xs us->xs[i]?=some x->∃ u,us[i]?=some u/\RelV x u
 | _,_,_,_,.nil,e=>by simp at e
 | _,_,0,_,.cons r _,e=>by simp at e;subst e;exact⟨_,rfl,r⟩
 | _,_,i+1,x,.cons _ t,e=>by
  obtain⟨u,h1,h2⟩:=Vals.get (i:=i) (x:=x) t (by simpa using e)
  exact⟨u,by simpa using h1,h2⟩
theorem Vals.set {x:V}{u:Value}(r:RelV x u):∀ {xs:List V}{us:List Value}(i:Nat),Vals xs us->Vals (xs.set i x) (us.set i u)
 | _,_,_,.nil=>.nil
 | _,_,0,.cons _ t=>.cons r t
 | _,_,i+1,.cons q t=>.cons q (Vals.set r i t)
theorem Vals.append:∀ {xs ys:List V}{us ws:List Value},Vals xs us->Vals ys ws->Vals (xs++ys) (us++ws)
 | _,_,_,_,.nil,s=>s
 | _,_,_,_,.cons r t,s=>.cons r (Vals.append t s)
theorem Vals.take:∀ {xs:List V}{us:List Value}(n:Nat),Vals xs us->Vals (xs.take n) (us.take n)
 | _,_,0,_=>.nil
 | _,_,_+1,.nil=>.nil
 | _,_,n+1,.cons r t=>.cons r (Vals.take n t)
theorem Vals.drop:∀ {xs:List V}{us:List Value}(n:Nat),Vals xs us->Vals (xs.drop n) (us.drop n)
 | _,_,0,r=>r
 | _,_,_+1,.nil=>.nil
 | _,_,n+1,.cons _ t=>Vals.drop n t
def RelO:Option V->Option Value->Prop
 | some v,some u=>RelV v u
 | none,none=>True
 | _,_=>False
def KV {κ:Type}:List (κ×V)->List (κ×Value)->Prop:=Paired fun (p:κ×V) (q:κ×Value)=>p.1=q.1/\RelV p.2 q.2
def kV:Key->V
 | .inl i=>.int i
 | .inr x=>.str x
inductive HO where
 | lst (xs:List V)
 | tup (xs:List V)
 | dK (kvs:List (Key×V)) | dT (kvs:List (List Key×V))
 | set (S:Int->Bool) (n:Nat)
 | ins (C dx:Addr) (fs:List (Str×V))
 | own (x:Addr)
 | xd (fs:List (Str×V))
 | met (f x:Addr)
 | rng (lo hi:Int)
 | frz (o:Obj) (u:HO)
 | tbl (ps:Array Value)
 | ext (φ:Heap->Prop)
abbrev Hp:=Addr->Option HO
def upd (H:Hp) (a:Addr) (o:HO):Hp:=fun b=>if b=a then some o else H b
theorem zb7 {H:Hp}{a:Addr}{o:HO}:upd H a o a=some o:=by unfold upd;rw[if_pos rfl]
theorem ze8 {H:Hp}{a b:Addr}{o:HO}(h:b≠a):upd H a o b=H b:=by unfold upd;rw[if_neg h]
theorem ne_of {H:Hp}{a b:Addr}{o u:HO}(h:H a=some o) (h':H b=some u) (d:o≠u):a≠b:=by
 intro e;subst e;rw[h] at h';exact d (Option.some.inj h')
theorem za5 {H:Hp}{a b:Addr}{o:HO}(h:H a=some o) (h':H b=none):a≠b:=by
 intro e;subst e;rw[h] at h';cases h'
section
variable (P:Program) (w:World)
def zg6 (H:Hp) (h:Heap) (a:Addr):HO->Prop
 | .lst xs=>xs.length<=sizeLine/\∃ (its:List Value) (n:Nat),Vals xs its/\h.get? a=some { cls:=.type "list",data:=.seq its.toArray n }
 | .tup xs=>xs.length<=sizeLine/\∃ its:List Value,Vals xs its/\IsTup h a its.toArray
 | .dK kvs=>kvs.length<=sizeLine/\(a==sysModules)=false/\∃ vs,KV kvs vs/\h.DictOf (zg2 P w) a vs
 | .dT kvs=>kvs.length<=sizeLine/\(a==sysModules)=false/\∃ xs:List (List Key×Addr×Value),
   Paired (fun (p:List Key×V) (q:List Key×Addr×Value)=>p.1=q.1/\H q.2.1=some (.tup (p.1.map kV))/\RelV p.2 q.2.2) kvs xs /\
   ∃ o es ep,h.get? a=some o/\o.ExactDict/\o.data=.dict es ep/\es.toList=xs.map (entryOfKey (tupleKind (zg2 P w)))/\(xs.map (·.1)).Nodup
 | .set S n=>h.SetOf (intKind P w) a S n
 | .ins C dx fs=>H dx=some (.own a)/\fs.length<=1000/\dx≠a/\h.get? a=some (PySem.W.instObj C dx) /\
   ∃ mA,h.Ns1 dx mA/\(∀ f,RelO (fs.lookup f) (mA f))/\PySem.Within mA (fs.map (·.1))
 | .own _=>∃ o,h.get? a=some o
 | .xd fs=>∃ mA,h.Ns1 a mA/\∀ f,RelO (fs.lookup f) (mA f)
 | .rng lo hi=>∃ t u v,h.get? a=some { cls:=.type "range",data:=.fields #[.int lo t,.int hi u,.int 1 v] }
 | .frz o u=>h.get? a=some o/\zg6 H h a u
 | .tbl ps=>h.get? a=some { cls:=.none,data:=.fields ps }
 | .met f x=>h.get? a=some (PySem.W.methodObj (.ref f) (.ref x))
 | .ext φ=>φ h/\(∃ o,h.get? a=some o)/\∀ h1 h2:Heap,φ h1->(∀ o,h1.get? a=some o->h2.get? a=some o)->φ h2
def HOk (H:Hp) (h:Heap):Prop:=∀ a o,H a=some o->zg6 P w H h a o
end
section
variable {P:Program}{w:World}{H H':Hp}{h h':Heap}{a:Addr}{o:HO}
theorem zg6.lt (x:zg6 P w H h a o):a<h.objs.size:=by
 cases o with
 | lst xs=>obtain⟨_,_,_,_,e⟩:=x;exact zbr4 e
 | tup xs=>obtain⟨_,_,_,p⟩:=x;exact p.lt
 | dK kvs=>obtain⟨_,_,_,_,o,_,_,e,_⟩:=x;exact zbr4 e
 | dT kvs=>obtain⟨_,_,_,_,o,_,_,e,_⟩:=x;exact zbr4 e
 | set S n=>obtain⟨o,_,_,_,e,_⟩:=x;exact zbr4 e
 | ins C dx fs=>obtain⟨_,_,_,e,_⟩:=x;exact zbr4 e
 | own y=>obtain⟨_,e⟩:=x;exact zbr4 e
 | xd fs=>obtain⟨_,⟨_,_,_,e,_⟩,_⟩:=x;exact zbr4 e
 | rng lo hi=>obtain⟨_,_,_,e⟩:=x;exact zbr4 e
 | frz ob u=>obtain⟨e,_⟩:=x;exact zbr4 e
 | tbl ps=>exact zbr4 (show h.get? a=some _ from x)
 | met f y=>exact zbr4 (show h.get? a=some _ from x)
 | ext φ=>obtain⟨_,⟨_,e⟩,_⟩:=x;exact zbr4 e
theorem Paired.mapP {α β:Type}{F G:α->β->Prop}:∀ {l₁:List α}{l₂:List β},Paired F l₁ l₂->(∀ a b,F a b->G a b)->Paired G l₁ l₂
 | _,_,.nil,_=>.nil
 | _,_,.cons r t,f=>.cons (f _ _ r) (Paired.mapP t f)
theorem zg6.stay (x:zg6 P w H h a o) (k:∀ b u,(b=a∨H b=some (.own a))->h.get? b=some u->h'.get? b=some u)
  (ho:∀ b,H b=some (.own a)->H' b=some (.own a)) (ht:∀ b xs,H b=some (.tup xs)->H' b=some (.tup xs)):zg6 P w H' h' a o:=by
 induction o with
 | lst xs=>obtain⟨z,its,n,r,e⟩:=x;exact⟨z,its,n,r,k _ _ (.inl rfl) e⟩
 | tup xs=>obtain⟨z,its,r,ob,e,c⟩:=x;exact⟨z,its,r,ob,k _ _ (.inl rfl) e,c⟩
 | dK kvs=>obtain⟨z,y,vs,r,ob,es,ep,e,c⟩:=x;exact⟨z,y,vs,r,ob,es,ep,k _ _ (.inl rfl) e,c⟩
 | dT kvs=>
  obtain⟨z,y,xs,r,ob,es,ep,e,c⟩:=x
  exact⟨z,y,xs,Paired.mapP r fun p q z=>⟨z.1,ht _ _ z.2.1,z.2.2⟩,ob,es,ep,k _ _ (.inl rfl) e,c⟩
 | set S n=>obtain⟨ob,es,ep,t,e,c⟩:=x;exact⟨ob,es,ep,t,k _ _ (.inl rfl) e,c⟩
 | ins C dx fs=>
  obtain⟨d,z,ne,e,mA,⟨od,es,ep,e2,c⟩,r⟩:=x
  exact⟨ho _ d,z,ne,k _ _ (.inl rfl) e,mA,⟨od,es,ep,k _ _ (.inr d) e2,c⟩,r⟩
 | own y=>obtain⟨ob,e⟩:=x;exact⟨ob,k _ _ (.inl rfl) e⟩
 | xd fs=>obtain⟨mA,⟨od,es,ep,e,c⟩,r⟩:=x;exact⟨mA,⟨od,es,ep,k _ _ (.inl rfl) e,c⟩,r⟩
 | rng lo hi=>obtain⟨t,u,v,e⟩:=x;exact⟨t,u,v,k _ _ (.inl rfl) e⟩
 | frz ob u ih=>obtain⟨e,q⟩:=x;exact⟨k _ _ (.inl rfl) e,ih q⟩
 | tbl ps=>
  have e:h.get? a=some { cls:=.none,data:=.fields ps }:=x
  show h'.get? a=some { cls:=.none,data:=.fields ps }
  exact k a _ (.inl rfl) e
 | met f y=>
  have e:h.get? a=some (PySem.W.methodObj (.ref f) (.ref y)):=x
  show h'.get? a=some (PySem.W.methodObj (.ref f) (.ref y))
  exact k a _ (.inl rfl) e
 | ext φ=>obtain⟨p,⟨o,e⟩,st⟩:=x;exact⟨st _ _ p fun o q=>k _ _ (.inl rfl) q,⟨o,k _ _ (.inl rfl) e⟩,st⟩
theorem HOk.lt (x:HOk P w H h) (e:H a=some o):a<h.objs.size:=(x a o e).lt
theorem HOk.fresh (x:HOk P w H h) (e:h.objs.size<=a):H a=none:=by
 cases q:H a with
 | none=>rfl
 | some u=>exact absurd (zbr6 (x.lt q) e) (zbw4 _)
theorem HOk.kept (x:HOk P w H h) (k:∀ b u,h.get? b=some u->h'.get? b=some u):HOk P w H h':=fun a o e=>
 (x a o e).stay (fun b u _ q=>k b u q) (fun _ q=>q) fun _ _ q=>q
theorem HOk.laid (x:HOk P w H h) (k:∀ b u,h.get? b=some u->h'.get? b=some u) (hp:h.objs.size<=a) (new:zg6 P w (upd H a o) h' a o):HOk P w (upd H a o) h':=fun b u e=>by
 have hn:=x.fresh hp
 by_cases hb:b=a
 ·subst hb;rw[zb7] at e;cases e;exact new
 ·rw[ze8 hb] at e
  exact (x b u e).stay (fun c v _ q=>k c v q) (fun c q=>by rw[ze8 (za5 q hn)];exact q) fun c xs q=>by rw[ze8 (za5 q hn)];exact q
end
def Rd (H:Hp) (a:Addr) (u:HO):Prop:=H a=some u∨∃ o,H a=some (.frz o u)
theorem Rd.of {H:Hp}{a:Addr}{u:HO}(h:H a=some u):Rd H a u:=.inl h
theorem Rd.ok {P:Program}{w:World}{H:Hp}{h:Heap}{a:Addr}{u:HO}(r:Rd H a u) (x:HOk P w H h):zg6 P w H h a u:=by
 rcases r with r|⟨o,r⟩
 ·exact x a u r
 ·obtain⟨_,q⟩:=x a _ r
  exact q
def Mut:Option HO->Prop
 | some (.lst _)=>True
 | some (.dK _)=>True
 | some (.dT _)=>True
 | some (.set _ _)=>True
 | some (.ins _ _ _)=>True
 | some (.ext _)=>True
 | _=>False
section
variable {P:Program}{w:World}{H:Hp}{h h':Heap}{x e:Addr}{o':HO}
theorem HOk.write (ok:HOk P w H h) (mu:Mut (H x)) (he:e=x∨H e=some (.own x)) (k:∀ b u,b≠e->h.get? b=some u->h'.get? b=some u) (heo:∃ u,h'.get? e=some u)
  (new:zg6 P w (upd H x o') h' x o'):HOk P w (upd H x o') h':=fun b u q=>by
 have nown:∀ c y,H c=some (.own y)->c≠x:=fun c y r z=>by subst z;rw[r] at mu;exact mu
 have ntup:∀ c xs,H c=some (.tup xs)->c≠x:=fun c xs r z=>by subst z;rw[r] at mu;exact mu
 by_cases hb:b=x
 ·subst hb;rw[zb7] at q;cases q;exact new
 ·rw[ze8 hb] at q
  by_cases hbe:b=e
  ·have q':H b=some (.own x):=by
    rcases he with z|z
    ·exact absurd (hbe.trans z) hb
    ·rw[hbe];exact z
   rw[q] at q';cases q'
   obtain⟨v,hv⟩:=heo
   exact⟨v,by rw[hbe];exact hv⟩
  ·refine (ok b u q).stay (fun c v hc r=>k c v ?_ r) (fun c r=>by rw[ze8 (nown c b r)];exact r) fun c xs r=>by rw[ze8 (ntup c xs r)];exact r
   rcases hc with rfl|hc
   ·exact hbe
   ·rintro rfl
    rcases he with z|z
    ·exact nown c b hc z
    ·rw[hc] at z;cases z;exact hb rfl
end
structure Un (fs ex:List Addr) (H H':Hp) (h h':Heap):Prop where
 keep:∀ b o,h.get? b=some o->H b=none->b ∉ fs->b ∉ ex->h'.get? b=some o
 slot:∀ b o,h.get? b=some o->H b=none->b∈fs->b ∉ ex->∃ sl,h'.get? b=some { o with slots:=sl }
 free:∀ b o,h.get? b=some o->H b=none->b ∉ ex->H' b=none
 there:∀ b o,h.get? b=some o->b ∉ ex->∃ o',h'.get? b=some o'
 tups:∀ b xs,H b=some (.tup xs)->H' b=some (.tup xs)
 frzs:∀ b o u,H b=some (.frz o u)->H' b=some (.frz o u)
 tbls:∀ b ps,H b=some (.tbl ps)->∃ more,H' b=some (.tbl (ps++more))
section
variable {fs fs' ex ex':List Addr}{H H1 H2:Hp}{h h1 h2 h':Heap}{a x e:Addr}{o:HO}
theorem Un.any (u:Un fs ex H H1 h h1) {b:Addr}{ob:Obj}(q:h.get? b=some ob) (n:H b=none) (hx:b ∉ ex):∃ sl,h1.get? b=some { ob with slots:=sl }:=by
 by_cases hb:b∈fs
 ·exact u.slot b ob q n hb hx
 ·exact⟨ob.slots,u.keep b ob q n hb hx⟩
theorem Un.trans (a:Un fs ex H H1 h h1) (b:Un fs ex H1 H2 h1 h2):Un fs ex H H2 h h2 where
 keep:=fun c ob q n hc hx=>b.keep c ob (a.keep c ob q n hc hx) (a.free c ob q n hx) hc hx
 slot:=fun c ob q n hc hx=>by
  obtain⟨sl,e1⟩:=a.slot c ob q n hc hx
  obtain⟨sl',e2⟩:=b.slot c _ e1 (a.free c ob q n hx) hc hx
  exact⟨sl',e2⟩
 free:=fun c ob q n hx=>by
  obtain⟨o',e1⟩:=a.there c ob q hx
  exact b.free c o' e1 (a.free c ob q n hx) hx
 there:=fun c ob q hx=>by
  obtain⟨o',e1⟩:=a.there c ob q hx
  exact b.there c o' e1 hx
 tups:=fun c xs q=>b.tups c xs (a.tups c xs q)
 frzs:=fun c ob xs q=>b.frzs c ob xs (a.frzs c ob xs q)
 tbls:=fun c ps q=>by
  obtain⟨m1,e1⟩:=a.tbls c ps q
  obtain⟨m2,e2⟩:=b.tbls c _ e1
  exact⟨m1++m2,by rw[e2,Array.append_assoc]⟩
theorem Un.kept (k:∀ b u,h.get? b=some u->h'.get? b=some u):Un fs ex H H h h':=
 ⟨fun b ob q _ _ _=>k b ob q,fun b ob q _ _ _=>⟨ob.slots,k b ob q⟩,fun _ _ _ n _=>n,fun b ob q _=>⟨ob,k b ob q⟩,fun _ _ q=>q,fun _ _ _ q=>q,fun _ ps q=>⟨#[],by rw[q];simp⟩⟩
theorem Un.refl:Un fs ex H H h h:=Un.kept fun _ _ q=>q
theorem Un.laid (k:∀ b u,h.get? b=some u->h'.get? b=some u) (hp:h.objs.size<=a) (hn:H a=none):Un fs ex H (upd H a o) h h' where
 keep:=fun b u q _ _ _=>k b u q
 slot:=fun b u q _ _ _=>⟨u.slots,k b u q⟩
 free:=fun b u q n _=>by rw[ze8 (zbs3 (zbr6 (zbr4 q) hp))];exact n
 there:=fun b u q _=>⟨u,k b u q⟩
 tups:=fun b xs q=>by rw[ze8 (za5 q hn)];exact q
 frzs:=fun b u xs q=>by rw[ze8 (za5 q hn)];exact q
 tbls:=fun b ps q=>⟨#[],by rw[ze8 (za5 q hn),q];simp⟩
theorem Un.write (mu:Mut (H x)) (he:e=x∨H e=some (.own x)) (k:∀ b u,b≠e->h.get? b=some u->h'.get? b=some u) (heo:∃ u,h'.get? e=some u):Un fs ex H (upd H x o) h h':=by
 have hx:∀ b,H b=none->b≠x:=fun b n z=>by subst z;rw[n] at mu;exact mu
 have hb:∀ b,H b=none->b≠e:=fun b n z=>by
  subst z
  rcases he with r|r
  ·exact hx b n r
  ·rw[n] at r;cases r
 have hm:∀ b u,H b=some u->¬ Mut (some u)->b≠x:=fun b u q nm z=>by subst z;rw[q] at mu;exact nm mu
 refine⟨fun b u q n _ _=>k b u (hb b n) q,fun b u q n _ _=>⟨u.slots,k b u (hb b n) q⟩,fun b u q n _=>by rw[ze8 (hx b n)];exact n,fun b u q _=>?_,
  fun b xs q=>by rw[ze8 (hm b _ q fun z=>z)];exact q,fun b u xs q=>by rw[ze8 (hm b _ q fun z=>z)];exact q,fun b ps q=>⟨#[],by rw[ze8 (hm b _ q fun z=>z),q];simp⟩⟩
 by_cases hbe:b=e
 ·subst hbe;exact heo
 ·exact⟨u,k b u hbe q⟩
end
def trk (h:Heap) (H:Hp):List Addr:=(List.range h.objs.size).filter fun a=>(H a).isSome
def hidT (h:Heap) (H:Hp):Heap:=PySem.W.hideAll h (trk h H)
theorem zay4 (h:Heap) (H:Hp):(hidT h H).objs.size=h.objs.size:=PySem.W.hideAll_size _ _
theorem zbe4 {h:Heap}{H:Hp}{b:Addr}{o:Obj}(e:h.get? b=some o) (n:H b=none):(hidT h H).get? b=some o:=
 PySem.W.hideAll_get _ e fun hm=>by
  have q:(H b).isSome=true:=(List.mem_filter.mp hm).2
  rw[n] at q;simp at q
theorem zbj4 {h:Heap}{H:Hp}{b:Addr}{o:Obj}(e:(hidT h H).get? b=some o):h.get? b=some o/\H b=none:=by
 have e':h.get? b=some o:=PySem.W.of_hideAll (trk h H) e
 refine⟨e',?_⟩
 cases q:H b with
 | none=>rfl
 | some x=>
  have hm:b∈trk h H:=List.mem_filter.mpr ⟨zbs1.mpr (zbr4 e'),by simp[q]⟩
  have z:(hidT h H).get? b=none:=PySem.W.hideAll_none (trk h H) hm
  rw[z] at e;cases e
def zbl4 (g h:Heap) (L:Addr):List (Addr×Obj):=(List.range h.objs.size).filterMap fun a=>if a=L∨(g.get? a).isSome=true then none else (h.get? a).map fun o=>(a,o)
def rest (g h:Heap) (L d:Addr):List (Addr×Obj):=(zbl4 g h L).filter fun p=>decide (p.1≠d)
end L2
namespace L2
open PySem PySem.Spec PyProof.Rows
structure Mod (K:zbp7) (mg:Str->Option Value) (base:Heap):Prop where
 kin:K.In base
 glob:base.Ns mainGlobals mg
 blt:∃ mb,base.Ns builtinsNs mb/\∀ x:Str,x≠"__name__"->mb x=bootBuiltins x
 nolimit:base.NoLimit
structure Cx where
 prog:Program
 w:World
 K:zbp7
 mg:Str->Option Value
 base:Heap
 A:Around
 N:List Str
 s₀:Shared
 H₀:Hp
 env:Env
 outer:List Env
 stack:List Env
 ex:List Addr
 fn:Str->Bool
 calm:Bool
 pn:List (Addr×Obj)
 xe:Value->Shared->Prop
def frs (l:List Env):List Addr:=l.filterMap (·.frame)
abbrev Cx.fs (X:Cx):List Addr:=frs X.outer
def Vis (sc:Scope) (x:Str):Prop:=sc.names.lookup x=some .local∨sc.names.lookup x=some .cell∨sc.names.lookup x=some .free
def Loc (sc:Scope) (x:Str):Prop:=sc.names.lookup x=some .local∨sc.names.lookup x=some .cell
def Look (env:Env) (h:Heap) (m:Str->Option Value) (x:Str) (u:Value):Prop:=
 (env.kindOf x=some .local/\m x=some u)∨((env.kindOf x=some .cell∨env.kindOf x=some .free)/\∃ c,env.cells.lookup x=some c/\h.IsCell c (some u))
structure Cx.Ok (X:Cx):Prop where
 mod:Mod X.K X.mg X.base
 kind:X.env.scope.kind=.function
 glob:X.env.globals=mainGlobals
 blt:X.env.builtins=builtinsNs
 above:X.s₀.heap.objs.size<=X.env.locals
 inj:∀ x y c,X.env.cells.lookup x=some c->X.env.cells.lookup y=some c->x=y
 has:∀ x,(X.env.kindOf x=some .cell∨X.env.kindOf x=some .free)->∃ c,X.env.cells.lookup x=some c
 cab:∀ x c,X.fn x=true->X.env.cells.lookup x=some c->X.s₀.heap.objs.size<=c
 hd:X.calm=true->X.A.handled=none
 frames:X.A.frames=some X.stack
 stk:X.stack=X.outer∨(X.stack=X.env :: X.outer/\X.env.frame=some X.env.locals)
 exf:∀ b∈X.ex,b≠X.env.locals/\∀ x c,X.env.cells.lookup x=some c->c≠b
 bs:∀ b o,X.base.get? b=some o->X.s₀.heap.get? b=some o/\X.H₀ b=none
 bsz:X.base.objs.size<=X.s₀.heap.objs.size
 noex:∀ b o,X.base.get? b=some o->b ∉ X.ex
 exfs:∀ b∈X.ex,b ∉ X.fs
 funs:X.s₀.heap.FunFrames X.base X.outer
 frf:∀ b∈X.fs,X.H₀ b=none
structure Inv (X:Cx) (pins:List (Addr×Obj)) (σ:List (Option V)) (H:Hp) (s:Shared):Prop where
 ok:X.Ok
 os:s.os=X.s₀.os
 bare:AllBare s.gens
 base:Un X.fs X.ex X.H₀ H X.s₀.heap s.heap
 loc:∃ m,s.heap.Ns X.env.locals m/\∀ (i:Nat) (x:Str) (v:V),X.N[i]?=some x->σ[i]?=some (some v)->Vis X.env.scope x->∃ u,RelV v u/\Look X.env s.heap m x u
 cell:∀ x c,X.env.cells.lookup x=some c->∃ v,s.heap.IsCell c v
 free:H X.env.locals=none
 freeC:∀ x c,X.env.cells.lookup x=some c->H c=none
 pin:∀ p∈X.pn++pins,s.heap.get? p.1=some p.2/\H p.1=none/\p.1≠X.env.locals/\p.1 ∉ X.fs/\∀ v,p.2.data≠.cell v
 hok:HOk X.prog X.w H s.heap
 len:σ.length=X.N.length
section
variable {X:Cx}{pins:List (Addr×Obj)}{σ:List (Option V)}{H H':Hp}{s:Shared}{h':Heap}
theorem Cx.Ok.nofr (ok:X.Ok) {b:Addr}{o:Obj}(e:X.base.get? b=some o):b ∉ X.fs:=fun hb=>by
 have:=(ok.funs.mem hb).1
 rw[e] at this;cases this
theorem Inv.bs (I:Inv X pins σ H s):∀ b o,X.base.get? b=some o->s.heap.get? b=some o/\H b=none:=fun b o e=>
 ⟨I.base.keep b o (I.ok.bs b o e).1 (I.ok.bs b o e).2 (I.ok.nofr e) (I.ok.noex b o e),I.base.free b o (I.ok.bs b o e).1 (I.ok.bs b o e).2 (I.ok.noex b o e)⟩
theorem Inv.bk (I:Inv X pins σ H s):∀ b o,X.base.get? b=some o->s.heap.get? b=some o:=fun b o e=>(I.bs b o e).1
theorem Inv.mod (I:Inv X pins σ H s):Mod X.K X.mg X.base:=I.ok.mod
theorem Inv.kIn (I:Inv X pins σ H s):X.K.In s.heap:=I.ok.mod.kin.keeps I.bk
theorem Inv.lt (I:Inv X pins σ H s):X.env.locals<s.heap.objs.size:=let ⟨_,hn,_⟩:=I.loc;hn.lt
theorem Inv.sz (I:Inv X pins σ H s):X.s₀.heap.objs.size<=s.heap.objs.size:=zbt7 I.ok.above (Nat.le_of_lt I.lt)
theorem Inv.nofs (I:Inv X pins σ H s) {a:Addr}(h:s.heap.objs.size<=a):a ∉ X.fs:=fun hb=>by
 obtain⟨_,o,ho,_⟩:=I.ok.funs.mem hb
 exact absurd (zbr6 (zbr4 ho) (zbt7 I.sz h)) (zbw4 _)
theorem Inv.cne (I:Inv X pins σ H s):∀ x c,X.env.cells.lookup x=some c->c≠X.env.locals:=fun x c e z=>by
 obtain⟨v,o,ho,hd⟩:=I.cell x c e
 obtain⟨m,⟨o',es,ep,ho',hd',_⟩,_⟩:=I.loc
 rw[z,ho'] at ho;cases ho;rw[hd'] at hd;cases hd
theorem Inv.funs (I:Inv X pins σ H s):s.heap.FunFrames X.base X.outer:=by
 have all:∀ (l:List Env),(∀ b∈frs l,b∈X.fs)->X.s₀.heap.FunFrames X.base l->s.heap.FunFrames X.base l:=by
  intro l
  induction l with
  | nil=>intro _ _;trivial
  | cons env r ih=>
   intro hs hl
   obtain⟨hk,⟨L,o,hf,hn,ho,hd⟩,hr⟩:=hl
   have hL:L∈X.fs:=hs L (by unfold frs;rw[zbw2,hf];exact zbv0)
   obtain⟨sl,e⟩:=I.base.slot L o ho (I.ok.frf L hL) hL fun z=>I.ok.exfs L z hL
   exact⟨hk,⟨L,_,hf,hn,e,hd⟩,ih (fun b hb=>hs b (by unfold frs;rw[zbw2,hf];exact zbt8 _ hb)) hr⟩
 exact all X.outer (fun _ hb=>hb) I.ok.funs
theorem Inv.stack (I:Inv X pins σ H s):s.heap.FunFrames X.base X.stack:=by
 rcases I.ok.stk with e|⟨e,hf⟩
 ·rw[e];exact I.funs
 ·rw[e]
  obtain⟨m,hn,_⟩:=I.loc
  refine .cons (by rw[I.ok.kind];decide) hf hn ?_ I.funs
  exact Heap.get?_none_of_le (zbt7 I.ok.bsz I.ok.above)
theorem Inv.stkSub (I:Inv X pins σ H s):∀ b∈frs X.stack,b∈X.env.locals :: X.fs:=fun b hb=>by
 rcases I.ok.stk with e|⟨e,hf⟩
 ·rw[e] at hb;exact zbt8 _ hb
 ·rw[e] at hb
  unfold frs at hb
  rw[zbw2,hf] at hb
  exact hb
theorem Inv.stkFree (I:Inv X pins σ H s):∀ b∈frs X.stack,H b=none:=fun b hb=>by
 rcases zbq8.mp (I.stkSub b hb) with e|hb
 ·rw[e];exact I.free
 ·obtain⟨_,o,ho,_⟩:=I.ok.funs.mem hb
  exact I.base.free b o ho (I.ok.frf b hb) fun z=>I.ok.exfs b z hb
theorem Inv.step {g':Array GenState}{t':Nat}{d':Drawn}{ch:List Addr}(I:Inv X pins σ H s)
  (hch:∀ b∈ch,(b∈X.ex∨X.s₀.heap.objs.size<=b)/\b≠X.env.locals/\(∀ x c,X.env.cells.lookup x=some c->c≠b)/\∀ p∈X.pn++pins,p.1≠b)
  (keep:∀ b o,b≠X.env.locals->b ∉ X.fs->b ∉ ch->s.heap.get? b=some o->H b=none->h'.get? b=some o)
  (slot:∀ b o,b≠X.env.locals->b∈X.fs->b ∉ ch->s.heap.get? b=some o->H b=none->∃ sl,h'.get? b=some { o with slots:=sl }) (free:∀ b o,b ∉ ch->s.heap.get? b=some o->H b=none->H' b=none)
  (there:∀ b o,b ∉ ch->s.heap.get? b=some o->∃ o',h'.get? b=some o')
  (tups:∀ b xs,H b=some (.tup xs)->H' b=some (.tup xs)) (frzs:∀ b o u,H b=some (.frz o u)->H' b=some (.frz o u)) (tbls:∀ b ps,H b=some (.tbl ps)->∃ more,H' b=some (.tbl (ps++more)))
  (ns:∀ m,s.heap.Ns X.env.locals m->h'.Ns X.env.locals m) (hok:HOk X.prog X.w H' h') (hg:AllBare g') :
  Inv X pins σ H' { s with heap:=h',gens:=g',drawn:=d',toks:=t' }:=by
 have neL:∀ b o,X.s₀.heap.get? b=some o->b≠X.env.locals:=fun b o e=>zbs3 (zbr6 (zbr4 e) I.ok.above)
 have neC:∀ b o,X.s₀.heap.get? b=some o->b ∉ X.ex->b ∉ ch:=fun b o e hx hb=>by
  rcases (hch b hb).1 with z|z
  ·exact hx z
  ·exact absurd (zbr6 (zbr4 e) z) (zbw4 _)
 have cellK:∀ x c,X.env.cells.lookup x=some c->∀ v,s.heap.IsCell c v->h'.IsCell c v:=fun x c e v ⟨o,ho,hd⟩=>by
  have nch:c ∉ ch:=fun z=>(hch c z).2.2.1 x c e rfl
  by_cases hc:c∈X.fs
  ·obtain⟨sl,q⟩:=slot c o (I.cne x c e) hc nch ho (I.freeC x c e)
   exact⟨_,q,hd⟩
  ·exact⟨o,keep c o (I.cne x c e) hc nch ho (I.freeC x c e),hd⟩
 refine⟨I.ok,I.os,hg,⟨fun b o e n hb hx=>?_,fun b o e n hb hx=>?_,fun b o e n hx=>?_,fun b o e hx=>?_,fun b xs e=>tups b xs (I.base.tups b xs e),fun b o xs e=>frzs b o xs (I.base.frzs b o xs e),fun b ps e=>?_⟩,?_,fun x c e=>?_,?_,fun x c e=>?_,fun p hp=>?_,hok,I.len⟩
 ·exact keep b o (neL b o e) hb (neC b o e hx) (I.base.keep b o e n hb hx) (I.base.free b o e n hx)
 ·obtain⟨sl,e1⟩:=I.base.slot b o e n hb hx
  obtain⟨sl',e2⟩:=slot b _ (neL b o e) hb (neC b o e hx) e1 (I.base.free b o e n hx)
  exact⟨sl',e2⟩
 ·obtain⟨o',e1⟩:=I.base.there b o e hx
  exact free b o' (neC b o e hx) e1 (I.base.free b o e n hx)
 ·obtain⟨o',e1⟩:=I.base.there b o e hx
  exact there b o' (neC b o e hx) e1
 ·obtain⟨m1,e1⟩:=I.base.tbls b ps e
  obtain⟨m2,e2⟩:=tbls b _ e1
  exact⟨m1++m2,by rw[e2,Array.append_assoc]⟩
 ·obtain⟨m,hn,hl⟩:=I.loc
  refine⟨m,ns m hn,fun i x v e1 e2 e3=>?_⟩
  obtain⟨u,r,l⟩:=hl i x v e1 e2 e3
  refine⟨u,r,?_⟩
  rcases l with l|⟨k,c,e,z⟩
  ·exact .inl l
  ·exact .inr ⟨k,c,e,cellK x c e _ z⟩
 ·obtain⟨v,z⟩:=I.cell x c e
  exact⟨v,cellK x c e v z⟩
 ·obtain⟨m,⟨o,_,_,ho,_⟩,_⟩:=I.loc
  exact free _ o (fun z=>(hch _ z).2.1 rfl) ho I.free
 ·obtain⟨v,o,ho,hd⟩:=I.cell x c e
  exact free c o (fun z=>(hch c z).2.2.1 x c e rfl) ho (I.freeC x c e)
 ·obtain⟨e,n,ne,nf,d⟩:=I.pin p hp
  have nch:p.1 ∉ ch:=fun z=>(hch p.1 z).2.2.2 p hp rfl
  exact⟨keep p.1 p.2 ne nf nch e n,free p.1 p.2 nch e n,ne,nf,d⟩
theorem Inv.un {t':Nat}(I:Inv X pins σ H s) (u:Un X.fs [] H H' s.heap h') (hok:HOk X.prog X.w H' h'):Inv X pins σ H' { s with heap:=h',toks:=t' }:=by
 obtain⟨m,⟨o,es,ep,ho,r⟩,_⟩:=id I.loc
 obtain⟨sl,hL⟩:=u.any ho I.free (by simp)
 exact I.step (g':=s.gens) (d':=s.drawn) (ch:=[]) (fun _ z=>nomatch z) (fun b o _ hb _ e n=>u.keep b o e n hb (by simp)) (fun b o _ hb _ e n=>u.slot b o e n hb (by simp)) (fun b o _ e n=>u.free b o e n (by simp)) (fun b o _ e=>u.there b o e (by simp)) u.tups u.frzs u.tbls (fun m' hm=>by
  obtain⟨o',es',ep',ho',r'⟩:=hm
  rw[ho] at ho';cases ho'
  exact⟨_,es',ep',hL,r'⟩) hok I.bare
theorem Inv.call {g':Array GenState}{t':Nat}{d':Drawn}{ch:List Addr}(I:Inv X pins σ H s) (u:Un (frs X.stack) ch H H' s.heap h') (hok:HOk X.prog X.w H' h') (hg:AllBare g')
  (hch:∀ b∈ch,(b∈X.ex∨X.s₀.heap.objs.size<=b)/\b≠X.env.locals/\(∀ x c,X.env.cells.lookup x=some c->c≠b)/\∀ p∈X.pn++pins,p.1≠b) :
  Inv X pins σ H' { s with heap:=h',gens:=g',drawn:=d',toks:=t' }:=by
 obtain⟨m,⟨o,es,ep,ho,r⟩,_⟩:=id I.loc
 obtain⟨sl,hL⟩:=u.any ho I.free fun z=>(hch _ z).2.1 rfl
 exact I.step (ch:=ch) hch (fun b o hL hb hc e n=>u.keep b o e n (fun z=>(zbq8.mp (I.stkSub b z)).elim hL hb) hc) (fun b o _ _ hc e n=>u.any e n hc) (fun b o hc e n=>u.free b o e n hc) (fun b o hc e=>u.there b o e hc) u.tups u.frzs u.tbls (fun m' hm=>by
  obtain⟨o',es',ep',ho',r'⟩:=hm
  rw[ho] at ho';cases ho'
  exact⟨_,es',ep',hL,r'⟩) hok hg
theorem Inv.turned {t':Nat}{it:Addr}(I:Inv X pins σ H s) (k:∀ b o,b≠it->s.heap.get? b=some o->h'.get? b=some o) (hn:H it=none) (hL:it≠X.env.locals)
  (h1:it∈X.ex∨X.s₀.heap.objs.size<=it) (h2:∀ x c,X.env.cells.lookup x=some c->c≠it) (h3:∀ p∈X.pn++pins,p.1≠it):Inv X pins σ H { s with heap:=h',toks:=t' }:=by
 have nit:∀ b u,H b=some u->b≠it:=fun b u e z=>by rw[z,hn] at e;cases e
 refine I.step (g':=s.gens) (d':=s.drawn) (ch:=[it]) (fun b hb=>?_) (fun b o _ _ hc e _=>k b o (fun z=>hc (by simp[z])) e) (fun b o _ _ hc e _=>⟨o.slots,k b o (fun z=>hc (by simp[z])) e⟩) (fun _ _ _ _ n=>n)
  (fun b o hc e=>⟨o,k b o (fun z=>hc (by simp[z])) e⟩) (fun _ _ e=>e) (fun _ _ _ e=>e) (fun b ps e=>⟨#[],by rw[e];simp⟩) (fun m hm=>?_) (fun b u e=>?_) I.bare
 ·have e:b=it:=by simpa using hb
  subst e
  exact⟨h1,hL,h2,h3⟩
 ·obtain⟨o,es,ep,ho,r⟩:=hm
  exact⟨o,es,ep,k _ o (Ne.symm hL) ho,r⟩
 ·refine (I.hok b u e).stay (fun c v hc q=>k c v ?_ q) (fun _ q=>q) fun _ _ q=>q
  rcases hc with z|z
  ·rw[z];exact nit b u e
  ·exact nit c _ z
theorem Inv.tok (I:Inv X pins σ H s) (t:Nat):Inv X pins σ H { s with toks:=t }:=I.un (h':=s.heap) (t':=t) Un.refl I.hok
theorem Inv.kept {t':Nat}(I:Inv X pins σ H s) (k:∀ b u,s.heap.get? b=some u->h'.get? b=some u):Inv X pins σ H { s with heap:=h',toks:=t' }:=I.un (Un.kept k) (I.hok.kept k)
theorem Inv.laid {a:Addr}{o:HO}{t':Nat}(I:Inv X pins σ H s) (k:∀ b u,s.heap.get? b=some u->h'.get? b=some u) (hp:s.heap.objs.size<=a) (new:zg6 X.prog X.w (upd H a o) h' a o) :
  Inv X pins σ (upd H a o) { s with heap:=h',toks:=t' }:=I.un (Un.laid k hp (I.hok.fresh hp)) (I.hok.laid k hp new)
theorem Inv.write {x e:Addr}{o:HO}{t':Nat}(I:Inv X pins σ H s) (mu:Mut (H x)) (he:e=x∨H e=some (.own x)) (k:∀ b u,b≠e->s.heap.get? b=some u->h'.get? b=some u) (heo:∃ u,h'.get? e=some u)
  (new:zg6 X.prog X.w (upd H x o) h' x o):Inv X pins σ (upd H x o) { s with heap:=h',toks:=t' }:=I.un (Un.write mu he k heo) (I.hok.write mu he k heo new)
theorem Inv.pins_of {pins':List (Addr×Obj)}(I:Inv X pins σ H s) (h:∀ p∈pins',s.heap.get? p.1=some p.2/\H p.1=none/\p.1≠X.env.locals/\p.1 ∉ X.fs/\∀ v,p.2.data≠.cell v):Inv X pins' σ H s:=
 ⟨I.ok,I.os,I.bare,I.base,I.loc,I.cell,I.free,I.freeC,fun p hp=>(zbr2.mp hp).elim (fun z=>I.pin p (List.mem_append_left _ z)) (h p),I.hok,I.len⟩
theorem zao5 {N:List Str}(hN:N.Nodup) {i j:Nat}{x:Str}(a:N[i]?=some x) (b:N[j]?=some x):i=j:=by
 obtain⟨h1,e1⟩:=zbp8.mp a
 obtain⟨h2,e2⟩:=zbp8.mp b
 exact (List.getElem_inj hN).mp (e1.trans e2.symm)
theorem zaf5 {M:Model}{A:Around}{E:Value->Shared->Prop}{i:Nat}{x:Str}{v:V}{u:Value}{Q:Unit->Shared->Prop}(I:Inv X pins σ H s) (hN:X.N.Nodup) (hi:X.N[i]?=some x) (hx:Loc X.env.scope x) (r:RelV v u)
  (h:∀ s',Inv X pins (σ.set i (some v)) H s'->(∃ a,Heap.SameBut a s.heap s'.heap/\(a=X.env.locals∨X.env.cells.lookup x=some a))->Q () s') (hf:X.fn x=true∨X.env.scope.names.lookup x=some .local:=by first|exact .inl rfl|exact .inr rfl|assumption):wpAny M A (storeName X.env x u) Q E s:=by
 obtain⟨m,hn,hl⟩:=id I.loc
 have hcls:(X.env.scope.kind==.class || (X.env.scope.kind==.module&&X.env.locals != X.env.globals))=false:=by rw[I.ok.kind];rfl
 have hiσ:i<σ.length:=by rw[I.len];exact (zbp8.mp hi).1
 have cne:=I.cne
 have tracked:∀ {a:Addr}{h':Heap},(∃ o,s.heap.get? a=some o/\H a=none)->Heap.SameBut a s.heap h'->HOk X.prog X.w H h':=fun {a h'} ha hs b ob e=>by
  obtain⟨_,_,hfree⟩:=ha
  refine (I.hok b ob e).stay (fun c w' hc q=>(hs.2 c ?_).trans q) (fun _ q=>q) fun _ _ q=>q
  rintro rfl
  rcases hc with rfl|hc
  ·rw[hfree] at e;cases e
  ·rw[hfree] at hc;cases hc
 rcases hx with hk|hk
 ·refine wpAny_storeName_local hk hn (fun h' hn' hs=>?_) hcls
  obtain⟨oL,_,_,hoL,_⟩:=id hn
  refine h _ ⟨I.ok,I.os,I.bare,⟨fun b o e n hb hx=>?_,fun b o e n hb hx=>?_,I.base.free,fun b o e hx=>?_,I.base.tups,I.base.frzs,I.base.tbls⟩,⟨_,hn',fun j y v' e1 e2 e3=>?_⟩,fun y c e=>?_,I.free,I.freeC,fun p hp=>?_,tracked ⟨oL,hoL,I.free⟩ hs,by simpa using I.len⟩ ⟨_,hs,.inl rfl⟩
  ·exact (hs.2 b (zbs3 (zbr6 (zbr4 e) I.ok.above))).trans (I.base.keep b o e n hb hx)
  ·obtain⟨sl,e1⟩:=I.base.slot b o e n hb hx
   exact⟨sl,(hs.2 b (zbs3 (zbr6 (zbr4 e) I.ok.above))).trans e1⟩
  ·obtain⟨o',e1⟩:=I.base.there b o e hx
   exact⟨o',(hs.2 b (zbs3 (zbr6 (zbr4 e) I.ok.above))).trans e1⟩
  ·by_cases hj:j=i
   ·subst hj
    rw[hi] at e1;cases e1
    rw[List.getElem?_set_self hiσ] at e2
    cases e2
    exact⟨u,r,.inl ⟨hk,by simp⟩⟩
   ·rw[List.getElem?_set_ne (Ne.symm hj)] at e2
    obtain⟨u',r',q⟩:=hl j y v' e1 e2 e3
    refine⟨u',r',?_⟩
    rcases q with ⟨k,e⟩|⟨k,c,e,z⟩
    ·refine .inl ⟨k,?_⟩
     have:y≠x:=fun e=>hj (zao5 hN e1 (e▸hi))
     simp[this,e]
    ·exact .inr ⟨k,c,e,z.sameBut hs (cne y c e)⟩
  ·obtain⟨w',z⟩:=I.cell y c e
   exact⟨w',z.sameBut hs (cne y c e)⟩
  ·obtain⟨e,n,ne,nf,d⟩:=I.pin p hp
   exact⟨(hs.2 p.1 ne).trans e,n,ne,nf,d⟩
 ·have hfn:X.fn x=true:=by
   rcases hf with z|z
   ·exact z
   ·rw[z] at hk;cases hk
  obtain⟨c,hc⟩:=I.ok.has x (.inl hk)
  obtain⟨w',z⟩:=I.cell x c hc
  refine wpAny_storeName_cell I.ok.kind hk hc z (fun h' hc' hs=>?_)
  obtain⟨oc,hoc,hocd⟩:=id z
  refine h { s with heap:=h' } ⟨I.ok,I.os,I.bare,⟨fun b o e n hb hx=>?_,fun b o e n hb hx=>?_,I.base.free,fun b o e hx=>?_,I.base.tups,I.base.frzs,I.base.tbls⟩,⟨m,hn.sameBut hs (Ne.symm (cne x c hc)),fun j y v' e1 e2 e3=>?_⟩,fun y c' e=>?_,I.free,I.freeC,fun p hp=>?_,tracked ⟨oc,hoc,I.freeC x c hc⟩ hs,by simpa using I.len⟩ ⟨c,hs,.inr hc⟩
  ·exact (hs.2 b (zbs3 (zbr6 (zbr4 e) (I.ok.cab x c hfn hc)))).trans (I.base.keep b o e n hb hx)
  ·obtain⟨sl,e1⟩:=I.base.slot b o e n hb hx
   exact⟨sl,(hs.2 b (zbs3 (zbr6 (zbr4 e) (I.ok.cab x c hfn hc)))).trans e1⟩
  ·obtain⟨o',e1⟩:=I.base.there b o e hx
   exact⟨o',(hs.2 b (zbs3 (zbr6 (zbr4 e) (I.ok.cab x c hfn hc)))).trans e1⟩
  ·by_cases hj:j=i
   ·subst hj
    rw[hi] at e1;cases e1
    rw[List.getElem?_set_self hiσ] at e2
    cases e2
    exact⟨u,r,.inr ⟨.inl hk,c,hc,hc'⟩⟩
   ·rw[List.getElem?_set_ne (Ne.symm hj)] at e2
    obtain⟨u',r',q⟩:=hl j y v' e1 e2 e3
    refine⟨u',r',?_⟩
    rcases q with q|⟨k,c',e,z'⟩
    ·exact .inl q
    ·refine .inr ⟨k,c',e,z'.sameBut hs ?_⟩
     rintro rfl
     exact hj (zao5 hN e1 (I.ok.inj _ _ _ e hc▸hi))
  ·by_cases hcc:c'=c
   ·subst hcc;exact⟨_,hc'⟩
   ·obtain⟨w2,z2⟩:=I.cell y c' e
    exact⟨w2,z2.sameBut hs hcc⟩
  ·obtain⟨e,n,ne,nf,d⟩:=I.pin p hp
   refine⟨(hs.2 p.1 ?_).trans e,n,ne,nf,d⟩
   intro q
   rw[q,hoc] at e
   have q':oc=p.2:=Option.some.inj e
   exact d w' (by rw[← q'];exact hocd)
theorem zal3 {M:Model}{A:Around}{E:Value->Shared->Prop}{i:Nat}{x:Str}{v:V}{u:Value}{Q:Unit->Shared->Prop}(I:Inv X pins σ H s) (hN:X.N.Nodup) (hi:X.N[i]?=some x) (hx:Loc X.env.scope x) (r:RelV v u)
  (h:∀ s',Inv X pins (σ.set i (some v)) H s'->Q () s') (hf:X.fn x=true∨X.env.scope.names.lookup x=some .local:=by first|exact .inl rfl|exact .inr rfl|assumption):wpAny M A (storeName X.env x u) Q E s:=
 zaf5 I hN hi hx r (fun s' I' _=>h s' I') hf
end
abbrev XK:=Value->Option Addr->Hp->Prop
abbrev St:=List (Option V)
abbrev VK:=V->Hp->Prop
abbrev TE:=St->Hp->VK->Prop
abbrev TT:=St->Hp->(Bool->Hp->Prop)->Prop
abbrev TA:=St->Hp->(List V->Hp->Prop)->Prop
structure Ends where
 nx:St->Hp->Prop
 rt:VK
 bk:St->Hp->Prop:=fun _ _=>False
 ct:St->Hp->Prop:=fun _ _=>False
abbrev TS:=Ends->St->Hp->Prop
def EP (X:Cx) (pins:List (Addr×Obj)) (σ:St) (Q:VK) (u:Value) (s':Shared):Prop:=∃ v H',Inv X pins σ H' s'/\RelV v u/\Q v H'
def TP (X:Cx) (pins:List (Addr×Obj)) (σ:St) (Q:Bool->Hp->Prop) (b:Bool) (s':Shared):Prop:=∃ H',Inv X pins σ H' s'/\Q b H'
def AP (X:Cx) (pins:List (Addr×Obj)) (σ:St) (Q:List V->Hp->Prop) (us:List Value) (s':Shared):Prop:=∃ vs H',Inv X pins σ H' s'/\Vals vs us/\Q vs H'
def SP (X:Cx) (pins:List (Addr×Obj)) (D:Ends) (f:Flow) (s':Shared):Prop:=
 match f with
 | .next=>∃ σ' H',Inv X pins σ' H' s'/\D.nx σ' H'
 | .brk=>∃ σ' H',Inv X pins σ' H' s'/\D.bk σ' H'
 | .cont=>∃ σ' H',Inv X pins σ' H' s'/\D.ct σ' H'
 | .ret u=>∃ v σ' H',Inv X pins σ' H' s'/\RelV v u/\D.rt v H'
def PE (X:Cx) (e:Expr) (t:TE):Prop:=
 ∀ (pins:List (Addr×Obj)) (s:Shared) (σ:St) (H:Hp) (Q:VK),Inv X pins σ H s->t σ H Q->wpAny (model X.prog X.w) X.A (eval e X.env) (EP X pins σ Q) X.xe s
def PT (X:Cx) (e:Expr) (t:TT):Prop:=
 ∀ (pins:List (Addr×Obj)) (s:Shared) (σ:St) (H:Hp) (Q:Bool->Hp->Prop),Inv X pins σ H s->t σ H Q->wpAny (model X.prog X.w) X.A (isTrue e X.env (eval e X.env)) (TP X pins σ Q) X.xe s
def PW (X:Cx) (e:Expr) (t:TT):Prop:=
 ∀ (whole:Sem Value) (pins:List (Addr×Obj)) (s:Shared) (σ:St) (H:Hp) (Q:Bool->Hp->Prop),Inv X pins σ H s->t σ H Q->wpAny (model X.prog X.w) X.A (isTrue e X.env whole) (TP X pins σ Q) X.xe s
theorem PW.pt {X:Cx}{e:Expr}{t:TT}(h:PW X e t):PT X e t:=h _
def PA (X:Cx) (es:List Expr) (t:TA):Prop:=
 ∀ (pos:Pos) (pins:List (Addr×Obj)) (s:Shared) (σ:St) (H:Hp) (Q:List V->Hp->Prop),Inv X pins σ H s->t σ H Q->wpAny (model X.prog X.w) X.A (spliced (backTo pos (starEach es X.env))) (AP X pins σ Q) X.xe s
def PS (X:Cx) (st:Stmt) (t:TS):Prop:=
 ∀ (pins:List (Addr×Obj)) (s:Shared) (σ:St) (H:Hp) (D:Ends),Inv X pins σ H s->t D σ H->wpAny (model X.prog X.w) X.A (exec st X.env) (SP X pins D) X.xe s
def PSs (X:Cx) (st:List Stmt) (t:TS):Prop:=
 ∀ (pins:List (Addr×Obj)) (s:Shared) (σ:St) (H:Hp) (D:Ends),Inv X pins σ H s->t D σ H->wpAny (model X.prog X.w) X.A (execs st X.env) (SP X pins D) X.xe s
theorem thn {α:Type}{t:Sem α}{Q Q':α->Shared->Prop}{M:Model}{A:Around}{E:Value->Shared->Prop}{s:Shared}(h:wpAny M A t Q E s) (hQ:∀ a s,Q a s->Q' a s):wpAny M A t Q' E s:=wpAny_mono h hQ fun _ _ x=>x
end L2
namespace L2
open PySem PySem.Spec PyProof.Rows
section
variable {X:Cx}
theorem bin {a b:Expr}{ta tb:TE}(ha:PE X a ta) (hb:PE X b tb) {pins:List (Addr×Obj)}{s:Shared}{σ:St}{H:Hp}{R:V->V->Hp->Prop}(I:Inv X pins σ H s) (h:ta σ H fun x H1=>tb σ H1 fun y H2=>R x y H2)
  {α:Type}{Q:α->Shared->Prop}{f:Value->Value->Sem α}
  (hf:∀ v u s2 x y H2,Inv X pins σ H2 s2->RelV x v->RelV y u->R x y H2->wpAny (model X.prog X.w) X.A (f v u) Q X.xe s2) :
  wpAny (model X.prog X.w) X.A (eval a X.env) (fun v s₁=>wpAny (model X.prog X.w) X.A (eval b X.env) (fun u s₂=>wpAny (model X.prog X.w) X.A (f v u) Q X.xe s₂) X.xe s₁) X.xe s:=by
 refine thn (ha pins s σ H _ I h) fun v s1 ⟨x,H1,I1,r1,q1⟩=>?_
 refine thn (hb pins s1 σ H1 _ I1 q1) fun u s2 ⟨y,H2,I2,r2,q2⟩=>?_
 exact hf v u s2 x y H2 I2 r1 r2 q2
def tVar (i:Nat):TE:=fun σ H Q=>∃ v,σ[i]?=some (some v)/\Q v H
def tC (v:V):TE:=fun _ H Q=>Q v H
theorem pe_var {i:Nat}{x:Str}{pos:Pos}(hN:X.N[i]?=some x) (hv:Vis X.env.scope x) (hd:(x==("__debug__":Str))=false:=by decide) (hcd:(x==("__classdict__":Str))=false:=by decide):PE X (.Name x pos) (tVar i):=by
 intro pins s σ H Q I h
 obtain⟨v,e,h⟩:=h
 obtain⟨m,hn,hl⟩:=I.loc
 obtain⟨u,r,l⟩:=hl i x v hN e hv
 have fin:EP X pins σ Q u s:=⟨v,H,I,r,h⟩
 rcases l with ⟨hk,hm⟩|⟨hk,c,hc,hcell⟩
 ·exact wpAny_Name (wpAny_loadName_local I.ok.kind hk hn hm fin) hd
 ·rcases hk with hk|hk
  ·exact wpAny_Name (wpAny_loadName_cell I.ok.kind hk hc hcell fin) hd
  ·exact wpAny_Name (wpAny_loadName_free I.ok.kind hk hc hcell fin hcd) hd
theorem za2 {i j pos}:PE X (.Constant (.int i) j pos) (tC (.int i)):=fun _ _ _ H _ I h=>wpAny_Constant_int ⟨.int i,H,I.tok _,⟨_,rfl⟩,h⟩
theorem zt1 {b j pos}:PE X (.Constant (.bool b) j pos) (tC (.bl b)):=fun _ _ _ H _ I h=>Constant_bool ⟨.bl b,H,I,rfl,h⟩
theorem pe_non {j pos}:PE X (.Constant .none j pos) (tC .non):=fun _ _ _ H _ I h=>Constant_none ⟨.non,H,I,rfl,h⟩
theorem pe_str {x j pos}:PE X (.Constant (.str x) j pos) (tC (.str x)):=fun _ _ _ H _ I h=>Calls.Constant_str ⟨.str x,H,I.tok _,⟨_,rfl⟩,h⟩
def Gl (X:Cx) (x:Str):Prop:=X.env.kindOf x=some .globalImplicit
theorem zbk0 {E:Value->Shared->Prop}{pins:List (Addr×Obj)}{s:Shared}{σ:St}{H:Hp}{x:Str}{u:Value}{pos:Pos}{Q:Value->Shared->Prop}(I:Inv X pins σ H s) (hg:Gl X x) (hm:X.mg x=some u) (h:Q u s)
  (hd:(x==("__debug__":Str))=false:=by decide):wpAny (model X.prog X.w) X.A (eval (.Name x pos) X.env) Q E s:=
 Calls.Name_function_global I.ok.kind hg (Calls.loadGlobal_global (by rw[I.ok.glob];exact I.mod.glob.keeps I.bk) hm h) hd
theorem zx3 {E:Value->Shared->Prop}{pins:List (Addr×Obj)}{s:Shared}{σ:St}{H:Hp}{x:Str}{u:Value}{pos:Pos}{Q:Value->Shared->Prop}(I:Inv X pins σ H s) (hg:Gl X x) (hm:X.mg x=none) (hv:bootBuiltins x=some u) (h:Q u s)
  (hn:x≠"__name__":=by decide) (hd:(x==("__debug__":Str))=false:=by decide):wpAny (model X.prog X.w) X.A (eval (.Name x pos) X.env) Q E s:=by
 obtain⟨mb,h1,h2⟩:=I.mod.blt
 exact Calls.Name_function_global I.ok.kind hg (Calls.loadGlobal_builtin (by rw[I.ok.glob];exact I.mod.glob.keeps I.bk) hm (by rw[I.ok.blt];exact h1.keeps I.bk) ((h2 x hn).trans hv) h) hd
theorem zbk8 {x:Str}{v:V}{u:Value}{pos:Pos}(hg:Gl X x) (hm:X.mg x=none) (hv:bootBuiltins x=some u) (r:RelV v u) (hn:x≠"__name__":=by decide) (hd:(x==("__debug__":Str))=false:=by decide):PE X (.Name x pos) (tC v):=
 fun _ _ _ H _ I h=>zx3 I hg hm hv ⟨v,H,I,r,h⟩ hn hd
variable {a b:Expr}{ta tb:TE}{pos:Pos}
variable {tA tB':TT}{rest:List Expr}
def tAnd (t u:TT):TT:=fun σ H Q=>t σ H fun c H1=>if c=true then u σ H1 Q else Q false H1
def tOr (t u:TT):TT:=fun σ H Q=>t σ H fun c H1=>if c=true then Q true H1 else u σ H1 Q
def tNot (t:TT):TT:=fun σ H Q=>t σ H fun c H1=>Q (!c) H1
theorem zad4 (ha:PT X a tA):PW X (.BoolOp .And [a] pos) tA:=by
 intro wh pins s σ H Q I h
 refine isTrue_and (thn (ha pins s σ H Q I h) fun c s1 e=>?_)
 cases c with
 | true=>exact isTrue_and_nil e
 | false=>exact e
theorem zs4 (ha:PT X a tA):PW X (.BoolOp .Or [a] pos) tA:=by
 intro wh pins s σ H Q I h
 refine isTrue_or (thn (ha pins s σ H Q I h) fun c s1 e=>?_)
 cases c with
 | false=>exact isTrue_or_nil e
 | true=>exact e
theorem pw_and (ha:PT X a tA) (hb:PW X (.BoolOp .And (b :: rest) pos) tB'):PW X (.BoolOp .And (a :: b :: rest) pos) (tAnd tA tB'):=by
 intro wh pins s σ H Q I h
 refine isTrue_and (thn (ha pins s σ H _ I h) fun c s1 ⟨H1,I1,q1⟩=>?_)
 cases c with
 | true=>exact hb wh pins s1 σ H1 Q I1 q1
 | false=>exact⟨H1,I1,q1⟩
theorem pw_or (ha:PT X a tA) (hb:PW X (.BoolOp .Or (b :: rest) pos) tB'):PW X (.BoolOp .Or (a :: b :: rest) pos) (tOr tA tB'):=by
 intro wh pins s σ H Q I h
 refine isTrue_or (thn (ha pins s σ H _ I h) fun c s1 ⟨H1,I1,q1⟩=>?_)
 cases c with
 | true=>exact⟨H1,I1,q1⟩
 | false=>exact hb wh pins s1 σ H1 Q I1 q1
theorem zm9 (ha:PT X a tA):PT X (.UnaryOp .Not a pos) (tNot tA):=by
 intro pins s σ H Q I h
 exact isTrue_not (ha pins s σ H (fun c H1=>Q (!c) H1) I h)
theorem zt8 {op} {t:TE}(h:PE X a t):PE X (.BoolOp op [a] pos) t:=fun pins s σ H Q I hw=>BoolOp_one (h pins s σ H Q I hw)
def tIf (t:TT) (ta tb:TE):TE:=fun σ H Q=>t σ H fun c H1=>if c=true then ta σ H1 Q else tb σ H1 Q
theorem zbd0 {c:Expr}(hc:PT X c tA) (ha:PE X a ta) (hb:PE X b tb):PE X (.IfExp c a b pos) (tIf tA ta tb):=by
 intro pins s σ H Q I h
 refine wpAny_IfExp (thn (hc pins s σ H _ I h) fun d s1 ⟨H1,I1,q1⟩=>?_)
 cases d with
 | true=>exact ha pins s1 σ H1 Q I1 q1
 | false=>exact hb pins s1 σ H1 Q I1 q1
end
end L2
namespace L2
open PySem PySem.Spec PyProof.Rows
def SqL (K:zbp7) (H:Hp) (a:Addr) (xs:List V):Prop:=
 Rd H a (.lst xs) ∨
  ∃ (o:Obj) (its:Array Value) (n:Nat),K.lookup a=some o/\o.cls=.type "list"/\o.dict=none/\o.data=.seq its n/\its.size<=sizeLine/\Vals xs its.toList
def SqT (K:zbp7) (H:Hp) (a:Addr) (xs:List V):Prop:=
 Rd H a (.tup xs) ∨
  ∃ (o:Obj) (its:Array Value) (n:Nat),K.lookup a=some o/\o.cls=.type "tuple"/\o.data=.seq its n/\its.size<=sizeLine/\Vals xs its.toList
def absV:Value->Option V
 | .none=>some .non
 | .bool b=>some (.bl b)
 | .int i _=>some (.int i)
 | .str x _=>some (.str x)
 | .bytes b _=>some (.byt b)
 | .float b _=>some (.flt b)
 | .ref a=>some (.ref a)
 | .type n=>some (.ty n)
 | _=>none
theorem RelV.abs {x:V}{u:Value}(r:RelV x u):absV u=some x:=by
 cases x with
 | non=>cases r;rfl
 | bl _=>cases r;rfl
 | int _=>obtain⟨t,rfl⟩:=r;rfl
 | str _=>obtain⟨t,rfl⟩:=r;rfl
 | byt _=>obtain⟨t,rfl⟩:=r;rfl
 | flt _=>obtain⟨t,rfl⟩:=r;rfl
 | ref _=>cases r;rfl
 | ty _=>cases r;rfl
theorem RelV.inj {x y:V}{u:Value}(r:RelV x u) (q:RelV y u):x=y:=Option.some.inj (r.abs.symm.trans q.abs)
theorem Vals.inj:∀ {xs ys:List V}{us:List Value},Vals xs us->Vals ys us->xs=ys
 | _,_,_,.nil,.nil=>rfl
 | _,_,_,.cons r t,.cons r' t'=>by rw[r.inj r',Vals.inj t t']
section
variable {X:Cx}{pins:List (Addr×Obj)}{σ:St}{H:Hp}{s:Shared}{a:Addr}{xs ys:List V}
theorem SqL.of {K:zbp7}(h:H a=some (.lst xs)):SqL K H a xs:=.inl (.inl h)
theorem SqT.of {K:zbp7}(h:H a=some (.tup xs)):SqT K H a xs:=.inl (.inl h)
theorem Inv.list (I:Inv X pins σ H s) (h:SqL X.K H a xs):∃ its:List Value,Vals xs its/\PlainL s.heap a its.toArray/\xs.length<=sizeLine:=by
 rcases h with h|⟨o,its,n,hk,hc,hd,hs,hz,r⟩
 ·obtain⟨z,its,n,r,e⟩:=h.ok I.hok
  exact⟨its,r,⟨_,n,e,rfl,rfl,rfl⟩,z⟩
 ·refine⟨its.toList,r,⟨o,n,I.kIn a o hk,hc,hd,by simpa using hs⟩,?_⟩
  have e:=r.length
  simp only[Array.length_toList] at e
  omega
theorem Inv.tuple (I:Inv X pins σ H s) (h:SqT X.K H a xs):∃ its:List Value,Vals xs its/\IsTup s.heap a its.toArray/\xs.length<=sizeLine:=by
 rcases h with h|⟨o,its,n,hk,hc,hs,hz,r⟩
 ·obtain⟨z,its,r,p⟩:=h.ok I.hok
  exact⟨its,r,p,z⟩
 ·refine⟨its.toList,r,⟨o,I.kIn a o hk,hc,n,by simpa using hs⟩,?_⟩
  have e:=r.length
  simp only[Array.length_toList] at e
  omega
theorem Inv.list_inj (I:Inv X pins σ H s) (h:SqL X.K H a xs) (h':SqL X.K H a ys):xs=ys:=by
 obtain⟨its,r,⟨o,n,e,_,_,d⟩,_⟩:=I.list h
 obtain⟨its',r',⟨o',n',e',_,_,d'⟩,_⟩:=I.list h'
 rw[e] at e';cases e'
 rw[d] at d'
 injection d' with d1 _
 have:its=its':=by simpa using congrArg Array.toList d1
 subst this
 exact r.inj r'
theorem Inv.tuple_inj (I:Inv X pins σ H s) (h:SqT X.K H a xs) (h':SqT X.K H a ys):xs=ys:=by
 obtain⟨its,r,⟨o,e,_,n,d⟩,_⟩:=I.tuple h
 obtain⟨its',r',⟨o',e',_,n',d'⟩,_⟩:=I.tuple h'
 rw[e] at e';cases e'
 rw[d] at d'
 injection d' with d1 _
 have:its=its':=by simpa using congrArg Array.toList d1
 subst this
 exact r.inj r'
end
abbrev Cx.wish (X:Cx) (E:Value->Shared->Prop):Cx:={ X with xe:=E }
abbrev Cx.nox (X:Cx):Cx:=X.wish fun _ _=>False
theorem Cx.Ok.wish {X:Cx}(ok:X.Ok) (E:Value->Shared->Prop):(X.wish E).Ok:=
 ⟨ok.mod,ok.kind,ok.glob,ok.blt,ok.above,ok.inj,ok.has,ok.cab,ok.hd,ok.frames,ok.stk,ok.exf,ok.bs,ok.bsz,ok.noex,ok.exfs,ok.funs,ok.frf⟩
theorem Cx.Ok.unwish {X:Cx}{E:Value->Shared->Prop}(ok:(X.wish E).Ok):X.Ok:=
 ⟨ok.mod,ok.kind,ok.glob,ok.blt,ok.above,ok.inj,ok.has,ok.cab,ok.hd,ok.frames,ok.stk,ok.exf,ok.bs,ok.bsz,ok.noex,ok.exfs,ok.funs,ok.frf⟩
section
variable {X:Cx}{pins:List (Addr×Obj)}{σ:St}{H:Hp}{s:Shared}{E:Value->Shared->Prop}
theorem Inv.wish (I:Inv X pins σ H s) (E:Value->Shared->Prop):Inv (X.wish E) pins σ H s:=⟨I.ok.wish E,I.os,I.bare,I.base,I.loc,I.cell,I.free,I.freeC,I.pin,I.hok,I.len⟩
theorem Inv.unwish (I:Inv (X.wish E) pins σ H s):Inv X pins σ H s:=⟨I.ok.unwish,I.os,I.bare,I.base,I.loc,I.cell,I.free,I.freeC,I.pin,I.hok,I.len⟩
theorem SP.unwish {D:Ends}{f:Flow}{s':Shared}(h:SP (X.wish E) pins D f s'):SP X pins D f s':=by
 cases f with
 | next=>obtain⟨σ',H',I,q⟩:=h;exact⟨σ',H',I.unwish,q⟩
 | brk=>obtain⟨σ',H',I,q⟩:=h;exact⟨σ',H',I.unwish,q⟩
 | cont=>obtain⟨σ',H',I,q⟩:=h;exact⟨σ',H',I.unwish,q⟩
 | ret u=>obtain⟨v,σ',H',I,r,q⟩:=h;exact⟨v,σ',H',I.unwish,r,q⟩
theorem PSs.nox {st:List Stmt}{t:TS}(h:PSs X.nox st t):PSs X st t:=fun pins s σ H D I hw=>
 wpAny_mono (h pins s σ H D (I.wish _) hw) (fun _ _ q=>q.unwish) fun _ _ z=>False.elim z
end
section
variable {X:Cx}{st:Stmt}{rest:List Stmt}{t u:TS}{e:Expr}{te:TE}{pos:Pos}
def tNext:TS:=fun D σ H=>D.nx σ H
def tSeq (t u:TS):TS:=fun D σ H=>t { D with nx:=u D } σ H
theorem zf1:PSs X [] tNext:=fun _ _ σ H _ I h=>wpAny_execs_nil ⟨σ,H,I,h⟩
theorem za4 (h1:PS X st t) (h2:PSs X rest u):PSs X (st :: rest) (tSeq t u):=by
 intro pins s σ H D I h
 refine wpAny_execs_cons (thn (h1 pins s σ H { D with nx:=u D } I h) fun f s1 q=>?_)
 cases f with
 | next=>
  obtain⟨σ',H',I',q⟩:=q
  exact h2 pins s1 σ' H' D I' q
 | ret v=>exact q
 | brk=>exact q
 | cont=>exact q
theorem za8 (h1:PS X st t):PSs X [st] t:=by
 intro pins s σ H D I h
 refine wpAny_execs_cons (thn (h1 pins s σ H D I h) fun f s1 q=>?_)
 cases f with
 | next=>exact wpAny_execs_nil q
 | ret v=>exact q
 | brk=>exact q
 | cont=>exact q
theorem Inv.quiet {pins:List (Addr×Obj)}{σ:St}{H:Hp}{s:Shared}(I:Inv X pins σ H s):interactive X.env=false:=by simp[interactive,I.ok.kind]
def tDrop (te:TE):TS:=fun D σ H=>te σ H fun _ H1=>D.nx σ H1
theorem zab7 (he:PE X e te) (hs:swapsWith e none pos.line X.env=pure false:=by rfl):PS X (.Expr e pos) (tDrop te):=by
 intro pins s σ H D I h
 exact wpAny_Expr_any (thn (he pins s σ H _ I h) fun v s1 ⟨x,H1,I1,r1,q1⟩=>⟨σ,H1,I1,q1⟩) I.quiet hs
def tRet (te:TE):TS:=fun D σ H=>te σ H D.rt
theorem zc2 (he:PE X e te):PS X (.Return (some e) pos) (tRet te):=by
 intro pins s σ H D I h
 exact wpAny_Return_some (thn (he pins s σ H _ I h) fun v s1 ⟨x,H1,I1,r1,q1⟩=>⟨x,σ,H1,I1,r1,q1⟩)
def tIfS (c:TT) (t u:TS):TS:=fun D σ H=>c σ H fun b H1=>if b=true then t D σ H1 else u D σ H1
theorem ps_if {c:Expr}{a b:List Stmt}{tc:TT}(hc:PT X c tc) (ha:PSs X a t) (hb:PSs X b u):PS X (.If c a b pos) (tIfS tc t u):=by
 intro pins s σ H D I h
 refine wpAny_If (thn (hc pins s σ H _ I h) fun d s1 ⟨H1,I1,q1⟩=>?_)
 cases d with
 | true=>exact ha pins s1 σ H1 D I1 q1
 | false=>exact hb pins s1 σ H1 D I1 q1
end
abbrev TG:=V->St->Hp->(St->Hp->Prop)->Prop
abbrev TGs:=List V->St->Hp->(St->Hp->Prop)->Prop
def PG (X:Cx) (target:Expr) (t:TG):Prop:=
 ∀ (pins:List (Addr×Obj)) (s:Shared) (σ:St) (H:Hp) (v:V) (u:Value) (Q:St->Hp->Prop),Inv X pins σ H s->RelV v u->t v σ H Q ->
  wpAny (model X.prog X.w) X.A (assign target X.env u) (fun _ s'=>∃ σ' H',Inv X pins σ' H' s'/\Q σ' H') X.xe s
def PGs (X:Cx) (ts:List Expr) (t:TGs):Prop:=
 ∀ (pins:List (Addr×Obj)) (s:Shared) (σ:St) (H:Hp) (vs:List V) (us:List Value) (Q:St->Hp->Prop),Inv X pins σ H s->Vals vs us->t vs σ H Q ->
  wpAny (model X.prog X.w) X.A (assignInOrder ((assignEach ts X.env).map (·.2)) us) (fun _ s'=>∃ σ' H',Inv X pins σ' H' s'/\Q σ' H') X.xe s
abbrev TSet:=V->V->V->Hp->(Hp->Prop)->Prop
def PSet (X:Cx) (t:TSet):Prop:=
 ∀ (pins:List (Addr×Obj)) (s:Shared) (σ:St) (H:Hp) (o i v:V) (ov iv u:Value) (Q:Hp->Prop),Inv X pins σ H s->RelV o ov->RelV i iv->RelV v u->t o i v H Q ->
  wpAny (model X.prog X.w) X.A (setItem ov iv u) (fun _ s'=>∃ H',Inv X pins σ H' s'/\Q H') X.xe s
section
variable {X:Cx}{pos:Pos}
def zaw7 (i:Nat):TG:=fun v σ H Q=>Q (σ.set i (some v)) H
theorem za9 {i:Nat}{x:Str}(hN:X.N.Nodup) (hi:X.N[i]?=some x) (hx:Loc X.env.scope x) (hf:X.fn x=true∨X.env.scope.names.lookup x=some .local:=by first|exact .inl rfl|exact .inr rfl|assumption):PG X (.Name x pos) (zaw7 i):=by
 intro pins s σ H v u Q I r h
 exact wpAny_assign_Name (zal3 I hN hi hx r (fun s' I'=>⟨_,H,I',h⟩) hf)
def gNil:TGs:=fun vs σ H Q=>vs=[]/\Q σ H
def gCons (t:TG) (u:TGs):TGs:=fun vs σ H Q=>∃ v r,vs=v :: r/\t v σ H fun σ' H'=>u r σ' H' Q
theorem zbi3:PGs X [] gNil:=by
 intro pins s σ H vs us Q I r h
 obtain⟨e,h⟩:=h
 subst e
 cases r
 exact assignInOrder_nil ⟨σ,H,I,h⟩
theorem zbb3 {e:Expr}{es:List Expr}{t:TG}{u:TGs}(h1:PG X e t) (h2:PGs X es u)
  (hs:(assignEach (e :: es) X.env).map (·.2)=assign e X.env :: (assignEach es X.env).map (·.2):=by rfl):PGs X (e :: es) (gCons t u):=by
 intro pins s σ H vs us Q I r h
 obtain⟨v,vr,e1,h⟩:=h
 subst e1
 cases r with
 | cons r rr=>
  rw[hs]
  refine assignInOrder_cons (thn (h1 pins s σ H _ _ _ I r h) fun _ s1 ⟨σ1,H1,I1,q1⟩=>?_)
  exact h2 pins s1 σ1 H1 _ _ Q I1 rr q1
def gTup (K:zbp7) (n:Nat) (t:TGs):TG:=fun v σ H Q=>∃ a xs,v=.ref a/\SqT K H a xs/\xs.length=n/\t xs σ H Q
theorem pg_tup {es:List Expr}{k:Nat}{t:TGs}{n:Nat}(hc:X.calm=true) (h:PGs X es t)
  (hn:(assignEach es X.env).length=n:=by rfl) (hst:(assignEach es X.env).findIdx? (·.1)=none:=by rfl):PG X (.Tuple es k pos) (gTup X.K n t):=by
 intro pins s σ H v u Q I r hw
 obtain⟨a,xs,e1,hq,hl,hw⟩:=hw
 subst e1
 cases r
 obtain⟨its,rv,ht,hz⟩:=I.tuple hq
 refine assign_Tuple_tuple (I.ok.hd hc) ht (by simp[hn,← hl,rv.length]) hst fun h' hx=>?_
 have I1:Inv X pins σ H { s with heap:=h' }:=I.kept (t':=s.toks) fun b o e=>hx b o (zbs3 (zbr4 e)) e
 exact h pins _ σ H xs _ Q I1 (by simpa using rv) hw
def gSub (to ti:TE) (t:TSet):TG:=fun v σ H Q=>to σ H fun o H1=>ti σ H1 fun i H2=>t o i v H2 fun H3=>Q σ H3
theorem zaf6 {o i:Expr}{to ti:TE}{t:TSet}(ho:PE X o to) (hi:PE X i ti) (hs:PSet X t)
  (ha:∀ v,assign (.Subscript o i pos) X.env v=(do
   let ov ← holding [v] (eval o X.env)
   let iv ← holding [v,ov] (eval i X.env)
   standAt pos
   holding [v,ov,iv] (setItem ov iv v)
   release [v,ov,iv] []):=by intro _;rfl):PG X (.Subscript o i pos) (gSub to ti t):=by
 intro pins s σ H v u Q I r h
 rw[ha]
 refine wpAny_bind (wpAny_holding (thn (ho pins s σ H _ I h) fun ov s1 ⟨x,H1,I1,r1,q1⟩=>?_))
 refine wpAny_bind (wpAny_holding (thn (hi pins s1 σ H1 _ I1 q1) fun iv s2 ⟨y,H2,I2,r2,q2⟩=>?_))
 refine wpAny_bind (wpAny_standAt (wpAny_bind (wpAny_holding (thn (hs pins s2 σ H2 x y v ov iv u _ I2 r1 r2 r q2) fun _ s3 ⟨H3,I3,q3⟩=>?_))))
 exact wpAny_release ⟨σ,H3,I3,q3⟩
def tAsg (te:TE) (g:TG):TS:=fun D σ H=>te σ H fun x H1=>g x σ H1 D.nx
theorem zad8 {tg e:Expr}{te:TE}{g:TG}(he:PE X e te) (hg:PG X tg g) (hs:swapsWithSole [tg] e pos.line X.env=pure false:=by rfl) (hw:swappedStores [tg] e X.env=pure none:=by rfl)
  (h1:(assignEach [tg] X.env).map (·.2)=[assign tg X.env]:=by rfl):PS X (.Assign [tg] e pos) (tAsg te g):=by
 intro pins s σ H D I h
 refine wpAny_Assign_stores (thn (he pins s σ H _ I h) fun v s1 ⟨x,H1,I1,r1,q1⟩=>?_) hs hw
 rw[h1]
 exact thn (hg pins s1 σ H1 x v _ I1 r1 q1) fun _ s2 q=>q
theorem zbf8 {i:Nat}{x:Str}{e:Expr}{te:TE}{pos':Pos}(hN:X.N.Nodup) (hi:X.N[i]?=some x) (hx:Loc X.env.scope x) (he:PE X e te) (hs:swapsWith e (some (.Name x pos')) pos.line X.env=pure false:=by rfl) (hf:X.fn x=true∨X.env.scope.names.lookup x=some .local:=by first|exact .inl rfl|exact .inr rfl|assumption) :
  PS X (.Assign [.Name x pos'] e pos) (tAsg te (zaw7 i)):=by
 intro pins s σ H D I h
 refine wpAny_Assign_Name (thn (he pins s σ H _ I h) fun v s1 ⟨y,H1,I1,r1,q1⟩=>?_) hs
 exact zal3 I1 hN hi hx r1 (fun s2 I2=>⟨_,H1,I2,q1⟩) hf
end
section
variable {X:Cx}{pos:Pos}
end
structure It where
 go:Nat->Hp->Prop
 yld:Nat->Hp->V->Hp->Prop
 stop:Nat->Hp->Prop
def FpOk (X:Cx) (pins:List (Addr×Obj)) (H:Hp) (b:Addr):Prop:=
 H b=none/\b≠X.env.locals/\b ∉ X.fs/\(b∈X.ex∨X.s₀.heap.objs.size<=b)/\(∀ x c,X.env.cells.lookup x=some c->c≠b)/\∀ p∈X.pn++pins,p.1≠b
theorem Inv.fpOk {X:Cx}{pins:List (Addr×Obj)}{σ:St}{H H':Hp}{s:Shared}{b:Addr}(I:Inv X pins σ H s) (hb:s.heap.objs.size<=b) (hn:H' b=none):FpOk X pins H' b:=by
 refine⟨hn,Nat.ne_of_gt (zbr6 I.lt hb),I.nofs hb,.inr (zbt7 I.sz hb),fun x c e z=>?_,fun p hp z=>?_⟩
 ·obtain⟨v,q⟩:=I.cell x c e
  exact absurd (zbr6 q.lt (by rw[z];exact hb)) (zbw4 _)
 ·exact absurd (zbr6 (zbr4 (I.pin p hp).1) (by rw[z];exact hb)) (zbw4 _)
structure Turn (P:Program) (w:World) (K:zbp7) (tg:Expr) (J:It) (fp:List Addr) (it:Addr) (tn:Nat->Heap->Prop):Prop where
 mem:it∈fp
 obj:∀ i h,tn i h->∀ b∈fp,∃ o,h.get? b=some o/\∀ v,o.data≠.cell v
 keep:∀ i h h',tn i h->(∀ b∈fp,∀ o,h.get? b=some o->h'.get? b=some o)->tn i h'
 item:∀ (X:Cx),X.prog=P->X.w=w->X.K=K->X.calm=true->∀ (i:Nat) (pins:List (Addr×Obj)) (s:Shared) (σ:St) (H:Hp) (E:Value->Shared->Prop),Inv X pins σ H s->(∀ b∈fp,FpOk X pins H b)->tn i s.heap->J.go i H ->
  wpAny (model P w) X.A (pyNext (.ref it)) (fun r s1=>∃ u,r=some u /\
   wpAny (model P w) X.A (letOwnedTupleGo tg (.ref it) u) (fun _ s2=>∃ x H',Inv X pins σ H' s2/\RelV x u/\J.yld i H x H'/\tn (i+1) s2.heap/\∀ b∈fp,H' b=none) E s1) E s
 done:∀ (X:Cx),X.prog=P->X.w=w->X.K=K->X.calm=true->∀ (i:Nat) (pins:List (Addr×Obj)) (s:Shared) (σ:St) (H:Hp) (E:Value->Shared->Prop),Inv X pins σ H s->(∀ b∈fp,FpOk X pins H b)->tn i s.heap->J.stop i H ->
  wpAny (model P w) X.A (pyNext (.ref it)) (fun r s1=>r=none/\Inv X pins σ H s1) E s
 self:∀ (A:Around) (i:Nat) (s:Shared) (Q:Value->Shared->Prop) (E:Value->Shared->Prop),tn i s.heap->Q (.ref it) s->wpAny (model P w) A (pyIter (.ref it)) Q E s
abbrev TI:=St->Hp->(It->Hp->Prop)->Prop
def PIE (X:Cx) (pins:List (Addr×Obj)) (σ:St) (tg:Expr) (R:It->Hp->Prop) (itv:Value) (s2:Shared):Prop:=
 ∃ (it:Addr) (fp:List Addr) (tn:Nat->Heap->Prop) (J:It) (H':Hp),itv=.ref it/\Inv X pins σ H' s2/\Turn X.prog X.w X.K tg J fp it tn/\tn 0 s2.heap/\(∀ b∈fp,FpOk X pins H' b)/\R J H'
def PI (X:Cx) (tg iter:Expr) (wi:TI):Prop:=
 ∀ (pins:List (Addr×Obj)) (s:Shared) (σ:St) (H:Hp) (R:It->Hp->Prop),Inv X pins σ H s->wi σ H R ->
  wpAny (model X.prog X.w) X.A (eval iter X.env) (fun v s1=>wpAny (model X.prog X.w) X.A (pyIter v) (PIE X pins σ tg R) X.xe s1) X.xe s
theorem go_of {M:Model}{A:Around}{E:Value->Shared->Prop}{s:Shared}{tg:Expr}{it:Addr}{u:Value}{o:Obj}{n:String}{vs:Array Value}{Q:Unit->Shared->Prop}(ho:s.heap.get? it=some o) (hc:o.cls=.type n) (hd:o.data=.fields vs)
  (hn:["enumerate","zip","dict_itemiterator","dict_reverseitemiterator","odict_iterator","itertools.zip_longest","itertools.pairwise"].contains n=false) (hQ:Q () s):wpAny M A (letOwnedTupleGo tg (.ref it) u) Q E s:=by
 unfold letOwnedTupleGo
 cases tg<;>first
  | exact wpAny_pure hQ
  | (cases u<;>first
    | exact wpAny_pure hQ
    | (refine wpAny_bind (wpAny_load ho ?_);rw[hc,hd];show wpAny M A (if (["enumerate","zip","dict_itemiterator","dict_reverseitemiterator","odict_iterator","itertools.zip_longest","itertools.pairwise"].contains n&&vs[0]?==some (rawInt _))=true then _ else _) Q E s;rw[if_neg (by intro h;rw[hn,Bool.false_and] at h;cases h)];exact wpAny_pure hQ))
def Itl (K:zbp7) (a:Addr):It:=
 ⟨fun i H=>∃ xs x,SqL K H a xs/\xs[i]?=some x,fun i H x H'=>H'=H/\∀ xs,SqL K H a xs->xs[i]?=some x,fun i H=>∃ xs,SqL K H a xs/\xs.length<=i⟩
def Itt (K:zbp7) (a:Addr):It:=
 ⟨fun i H=>∃ xs x,SqT K H a xs/\xs[i]?=some x,fun i H x H'=>H'=H/\∀ xs,SqT K H a xs->xs[i]?=some x,fun i H=>∃ xs,SqT K H a xs/\xs.length<=i⟩
def Itr (lo:Int) (n:Nat):It:=⟨fun i _=>i<n,fun i H x H'=>H'=H/\x=.int (lo+i),fun i _=>n<=i⟩
theorem zau8 {P:Program}{w:World}{K:zbp7}{tg:Expr}(a it:Addr):Turn P w K tg (Itl K a) [it] it (fun i h=>h.IsListIter it a i) where
 mem:=by simp
 obj:=fun i h st b hb=>by
  have e:b=it:=by simpa using hb
  subst e
  obtain⟨o,e,c,d⟩:=st
  exact⟨o,e,fun v z=>by rw[d] at z;cases z⟩
 keep:=fun i h h' st k=>st.at fun o e=>k it (by simp) o e
 item:=by
  intro X hP hw hK hc i pins s σ H E I hf st hg
  subst hP hw hK
  obtain⟨xs,x,hq,hx⟩:=hg
  obtain⟨its,rv,p,hz⟩:=I.list hq
  obtain⟨u,hu,ru⟩:=rv.get hx
  obtain⟨f0,f1,f2,f3,f4,f5⟩:=hf it (by simp)
  refine wpAny_pyNext_list_item st p.isList (x:=u) (by simpa using hu) fun h' st' sb=>?_
  have I1:Inv X pins σ H { s with heap:=h' }:=I.turned (t':=s.toks) (fun b o hb e=>(sb.2 b hb).trans e) f0 f1 f3 f4 f5
  obtain⟨o,e,c,d⟩:=id st'
  exact⟨u,rfl,go_of (s:={ s with heap:=h' }) e c d (by decide) ⟨x,H,I1,ru,⟨rfl,fun ys hy=>by rw[I.list_inj hy hq];exact hx⟩,st',fun b hb=>(hf b hb).1⟩⟩
 done:=by
  intro X hP hw hK hc i pins s σ H E I hf st hg
  subst hP hw hK
  obtain⟨xs,hq,hx⟩:=hg
  obtain⟨its,rv,p,hz⟩:=I.list hq
  obtain⟨f0,f1,f2,f3,f4,f5⟩:=hf it (by simp)
  have hl:=rv.length
  exact wpAny_pyNext_list_end (I.ok.hd hc) st p.isList (by simp;omega) fun h' eb=>⟨rfl,I.turned (t':=s.toks) (fun b o hb e=>eb b o hb e) f0 f1 f3 f4 f5⟩
 self:=fun _ _ _ _ _ st h=>wpAny_pyIter_listiter st h
theorem zas0 {P:Program}{w:World}{K:zbp7}{tg:Expr}(a it:Addr):Turn P w K tg (Itt K a) [it] it (fun i h=>h.IsTupleIter it a i) where
 mem:=by simp
 obj:=fun i h st b hb=>by
  have e:b=it:=by simpa using hb
  subst e
  obtain⟨o,e,c,d⟩:=st
  exact⟨o,e,fun v z=>by rw[d] at z;cases z⟩
 keep:=fun i h h' st k=>st.at fun o e=>k it (by simp) o e
 item:=by
  intro X hP hw hK hc i pins s σ H E I hf st hg
  subst hP hw hK
  obtain⟨xs,x,hq,hx⟩:=hg
  obtain⟨its,rv,p,hz⟩:=I.tuple hq
  obtain⟨u,hu,ru⟩:=rv.get hx
  obtain⟨f0,f1,f2,f3,f4,f5⟩:=hf it (by simp)
  refine wpAny_pyNext_tuple_item st (show s.heap.IsTuple a its.toArray from p) (x:=u) (by simpa using hu) fun h' st' sb=>?_
  have I1:Inv X pins σ H { s with heap:=h' }:=I.turned (t':=s.toks) (fun b o hb e=>(sb.2 b hb).trans e) f0 f1 f3 f4 f5
  obtain⟨o,e,c,d⟩:=id st'
  exact⟨u,rfl,go_of (s:={ s with heap:=h' }) e c d (by decide) ⟨x,H,I1,ru,⟨rfl,fun ys hy=>by rw[I.tuple_inj hy hq];exact hx⟩,st',fun b hb=>(hf b hb).1⟩⟩
 done:=by
  intro X hP hw hK hc i pins s σ H E I hf st hg
  subst hP hw hK
  obtain⟨xs,hq,hx⟩:=hg
  obtain⟨its,rv,p,hz⟩:=I.tuple hq
  obtain⟨f0,f1,f2,f3,f4,f5⟩:=hf it (by simp)
  have hl:=rv.length
  exact wpAny_pyNext_tuple_end (I.ok.hd hc) st (show s.heap.IsTuple a its.toArray from p) (by simp;omega) fun h' eb=>⟨rfl,I.turned (t':=s.toks) (fun b o hb e=>eb b o hb e) f0 f1 f3 f4 f5⟩
 self:=fun _ _ _ _ _ st h=>wpAny_pyIter_tupleiter st h
theorem zaq7 {P:Program}{w:World}{K:zbp7}{tg:Expr}(it:Addr) (lo:Int) (n:Nat):Turn P w K tg (Itr lo n) [it] it (fun i h=>IsRangeIter h it (lo+(i:Nat)*1) ((n:Int) - (i:Nat)) 1) where
 mem:=by simp
 obj:=fun i h st b hb=>by
  have e:b=it:=by simpa using hb
  subst e
  exact⟨_,st,fun v z=>by
   have z':Data.fields _=Data.cell v:=z
   cases z'⟩
 keep:=fun i h h' st k=>k it (by simp) _ st
 item:=by
  intro X hP hw hK hc i pins s σ H E I hf st hg
  subst hP hw hK
  obtain⟨f0,f1,f2,f3,f4,f5⟩:=hf it (by simp)
  have W:=Walks.range (prog:=X.prog) (w:=X.w) (I.ok.hd hc) it lo 1 n
  refine W.item i s _ _ hg st fun v h' tk hv st' kk=>?_
  obtain⟨t,rfl⟩:=hv
  have I1:Inv X pins σ H { s with heap:=h',toks:=tk }:=I.turned (fun b o hb e=>kk b o (by simpa using hb) e) f0 f1 f3 f4 f5
  refine⟨_,rfl,go_of (s:={ s with heap:=h',toks:=tk }) (n:="range_iterator") st' rfl rfl (by decide) ⟨.int (lo+i),H,I1,⟨t,?_⟩,⟨rfl,rfl⟩,st',fun b hb=>(hf b hb).1⟩⟩
  rw[Int.mul_one]
 done:=by
  intro X hP hw hK hc i pins s σ H E I hf st hg
  subst hP hw hK
  obtain⟨f0,f1,f2,f3,f4,f5⟩:=hf it (by simp)
  exact wpAny_pyNext_range_end (I.ok.hd hc) st (by have:n<=i:=hg;omega) fun h' eb=>⟨rfl,I.turned (t':=s.toks) (fun b o hb e=>eb b o hb e) f0 f1 f3 f4 f5⟩
 self:=fun _ _ _ _ _ st h=>wpAny_pyIter_rangeiter st h
end L2
namespace L2
open PySem PySem.Spec PyProof.Rows
section
variable {X:Cx}{tg:Expr}
theorem zal2 {pins:List (Addr×Obj)}{σ:St}{H:Hp}{s:Shared}{R:It->Hp->Prop}{E:Value->Shared->Prop}{lo hi:Int}{t u v:Tok}{tk:Nat}(I:Inv X pins σ H s) (h1:-(2 ^ 62)<=lo) (h2:lo<2 ^ 62) (h3:-(2 ^ 62)<=hi) (h4:hi<2 ^ 62)
  (q:R (Itr lo (hi - lo).toNat) H):wpAny (model X.prog X.w) X.A (pyIter (.ref s.heap.objs.size)) (PIE X pins σ tg R) E { s with heap:=s.heap.push { cls:=.type "range",data:=.fields #[.int lo t,.int hi u,.int 1 v] },toks:=tk }:=by
 refine wpAny_pyIter_range (IsRange.new ..) (small_one h1 h2 h3 h4) ?_
 have I1:Inv X pins σ H { s with heap:=s.heap.push { cls:=.type "range",data:=.fields #[.int lo t,.int hi u,.int 1 v] },toks:=tk }:=I.kept fun b o e=>zbq1 _ e
 refine⟨(s.heap.push { cls:=.type "range",data:=.fields #[.int lo t,.int hi u,.int 1 v] }).objs.size,[(s.heap.push { cls:=.type "range",data:=.fields #[.int lo t,.int hi u,.int 1 v] }).objs.size],_,_,H,rfl,
  I1.kept (t':=tk) fun b o e=>zbq1 _ e,zaq7 _ lo (hi - lo).toNat,?_,fun b hb=>?_,q⟩
 ·have e1:lo+((0:Nat):Int)*1=lo:=by simp
  have e2:(((hi - lo).toNat:Nat):Int) - ((0:Nat):Int)=Builtin.Range.rangeSize lo hi 1:=by rw[rangeSize_one];split<;>omega
  show IsRangeIter _ _ (lo+((0:Nat):Int)*1) ((((hi - lo).toNat:Nat):Int) - ((0:Nat):Int)) 1
  rw[e1,e2]
  exact zbr8 _ rfl
 ·have e:b=(s.heap.push { cls:=.type "range",data:=.fields #[.int lo t,.int hi u,.int 1 v] }).objs.size:=by simpa using hb
  subst e
  exact I1.fpOk (zbq9 _) (I1.hok.fresh (zbq9 _))
def tFor (wi:TI) (g:TG) (tb:TS):TS:=fun D σ H=>wi σ H fun J H1=>∃ W:Nat->Nat->St->Hp->Prop,(∃ m,W 0 m σ H1)/\∀ i m σ H,W i m σ H ->
 (J.stop i H/\D.nx σ H)∨(J.go i H/\∃ N:St->Hp->Prop,(∀ σ' H',N σ' H'->∃ m',m'<m/\W (i+1) m' σ' H')/\∀ x H',J.yld i H x H'->g x σ H' fun σ2 H2=>tb { D with nx:=N,ct:=N,bk:=D.nx } σ2 H2)
def zaa7 (fp:List Addr) (h:Heap):List (Addr×Obj):=fp.filterMap fun b=>(h.get? b).map fun o=>(b,o)
theorem zl6 {fp:List Addr}{h:Heap}{b:Addr}{o:Obj}(hb:b∈fp) (e:h.get? b=some o):(b,o)∈zaa7 fp h:=List.mem_filterMap.mpr ⟨b,hb,by rw[e];rfl⟩
theorem zay8 {fp:List Addr}{h:Heap}{p:Addr×Obj}(hp:p∈zaa7 fp h):p.1∈fp/\h.get? p.1=some p.2:=by
 obtain⟨b,hb,e⟩:=List.mem_filterMap.mp hp
 cases q:h.get? b with
 | none=>rw[q] at e;cases e
 | some o=>
  rw[q] at e
  have e':(b,o)=p:=Option.some.inj e
  subst e'
  exact⟨hb,q⟩
theorem Inv.pinned {pins:List (Addr×Obj)}{σ:St}{H:Hp}{s:Shared}{fp:List Addr}(I:Inv X pins σ H s) (hf:∀ b∈fp,FpOk X pins H b) (ho:∀ b∈fp,∃ o,s.heap.get? b=some o/\∀ v,o.data≠.cell v):Inv X (pins++zaa7 fp s.heap) σ H s:=
 I.pins_of fun p hp=>(zbr2.mp hp).elim (fun z=>I.pin p (zbs9 _ z)) fun z=>by
  obtain⟨hb,e⟩:=zay8 z
  obtain⟨f0,f1,f2,_⟩:=hf p.1 hb
  obtain⟨o,e',d⟩:=ho p.1 hb
  rw[e] at e';cases e'
  exact⟨e,f0,f1,f2,d⟩
theorem Inv.unpinned {pins pl:List (Addr×Obj)}{σ:St}{H:Hp}{s:Shared}(I:Inv X (pins++pl) σ H s):Inv X pins σ H s:=I.pins_of fun p hp=>I.pin p (zbs9 _ (List.mem_append_left _ hp))
theorem ps_for {iter:Expr}{body:List Stmt}{wi:TI}{g:TG}{tb:TS}{pos:Pos}(hp:PassesOwn (model X.prog X.w) X.A X.env X.xe) (hc:X.calm=true) (hi:PI X tg iter wi) (hg:PG X tg g) (hb:PSs X body tb)
  (hs:∀ x,foldedSetIterable iter X.env x=pure x:=by intro _;rfl):PS X (.For tg iter body [] pos) (tFor wi g tb):=by
 intro pins s σ H D I h
 refine wpAny_For (thn (hi pins s σ H _ I h) fun v s1 h1=>thn h1 fun itv s2 h2=>?_) hs
 obtain⟨it,fp,tn,J,H2,e,I2,T,st2,f2,W,⟨m0,w0⟩,turn⟩:=h2
 subst e
 have stat:∀ {H':Hp},(∀ b∈fp,H' b=none)->∀ b∈fp,FpOk X pins H' b:=fun hn b hb=>⟨hn b hb,(f2 b hb).2⟩
 refine codeAny_forLoop_any (fun n s'=>∃ i σ' H',Inv X pins σ' H' s'/\tn i s'.heap/\(∀ b∈fp,H' b=none)/\W i n σ' H') ?_ m0 ⟨0,σ,H2,I2,st2,fun b hb=>(f2 b hb).1,w0⟩
 rintro n s3 ⟨i,σ3,H3,I3,st3,fr3,w3⟩
 rcases turn i n σ3 H3 w3 with ⟨stop,qn⟩|⟨go,N,hN,step⟩
 ·refine wpAny_passesOwn hp (thn (T.done X rfl rfl rfl hc i pins s3 σ3 H3 X.xe I3 (stat fr3) st3 stop) fun r s4 ⟨hr,I4⟩=>?_)
  subst hr
  exact wpAny_execs_nil ⟨σ3,H3,I4,qn⟩
 ·refine wpAny_passesOwn hp (thn (T.item X rfl rfl rfl hc i pins s3 σ3 H3 X.xe I3 (stat fr3) st3 go) fun r s4 ⟨u,hr,h4⟩=>?_)
  subst hr
  refine wpAny_passesOwn hp (thn h4 fun _ s5 ⟨x,H5,I5,r5,y5,st5,fr5⟩=>?_)
  have I5':=I5.pinned (stat fr5) (T.obj _ _ st5)
  refine wpAny_passesOwn hp (thn (hg _ s5 σ3 H5 x u _ I5' r5 (step x H5 y5)) fun _ s6 ⟨σ6,H6,I6,q6⟩=>?_)
  refine wpAny_passesOwn hp (thn (hb _ s6 σ6 H6 _ I6 q6) fun f s7 q7=>?_)
  have again:∀ {σ7:St}{H7:Hp},Inv X (pins++zaa7 fp s5.heap) σ7 H7 s7->N σ7 H7->∃ m,m<n/\∃ i σ' H',Inv X pins σ' H' s7/\tn i s7.heap/\(∀ b∈fp,H' b=none)/\W i m σ' H':=fun {σ7 H7} I7 n7=>by
   obtain⟨m',hm,w7⟩:=hN σ7 H7 n7
   refine⟨m',hm,i+1,σ7,H7,I7.unpinned,T.keep _ _ _ st5 fun b hb o e=>(I7.pin (b,o) (zbs9 _ (zbs9 _ (zl6 hb e)))).1,fun b hb=>?_,w7⟩
   obtain⟨o,e,d⟩:=T.obj _ _ st5 b hb
   exact (I7.pin (b,o) (zbs9 _ (zbs9 _ (zl6 hb e)))).2.1
  cases f with
  | next=>obtain⟨σ7,H7,I7,n7⟩:=q7;exact again I7 n7
  | cont=>obtain⟨σ7,H7,I7,n7⟩:=q7;exact again I7 n7
  | brk=>obtain⟨σ7,H7,I7,q7⟩:=q7;exact⟨σ7,H7,I7.unpinned,q7⟩
  | ret v=>obtain⟨x7,σ7,H7,I7,r7,q7⟩:=q7;exact⟨x7,σ7,H7,I7.unpinned,r7,q7⟩
end
theorem zbd6 {K:zbp7}{a:Addr}{xs:List V}{g:TG}{tb:TS}{D:Ends}{σ:St}{H:Hp}(Pv:Nat->St->Hp->Prop) (h0:Pv 0 σ H) (hl:∀ i σ H,i<=xs.length->Pv i σ H->SqL K H a xs)
  (hs:∀ i x σ H,xs[i]?=some x->Pv i σ H->g x σ H fun σ2 H2=>tb { D with nx:=Pv (i+1),ct:=Pv (i+1),bk:=D.nx } σ2 H2) (hd:∀ σ H,Pv xs.length σ H->D.nx σ H) :
  ∃ W:Nat->Nat->St->Hp->Prop,(∃ m,W 0 m σ H)/\∀ i m σ H,W i m σ H ->
   ((Itl K a).stop i H/\D.nx σ H)∨((Itl K a).go i H/\∃ N:St->Hp->Prop,(∀ σ' H',N σ' H'->∃ m',m'<m/\W (i+1) m' σ' H')/\∀ x H',(Itl K a).yld i H x H'->g x σ H' fun σ2 H2=>tb { D with nx:=N,ct:=N,bk:=D.nx } σ2 H2):=by
 refine⟨fun i m σ H=>m=xs.length - i/\i<=xs.length/\Pv i σ H,⟨xs.length,by simp,zbs4 _,h0⟩,?_⟩
 rintro i m σ H ⟨rfl,hi,p⟩
 have q:=hl i σ H hi p
 by_cases hlt:i<xs.length
 ·refine .inr ⟨⟨xs,xs[i],q,by simp[hlt]⟩,Pv (i+1),fun σ' H' p'=>⟨xs.length - (i+1),by omega,rfl,hlt,p'⟩,fun x H' y=>?_⟩
  obtain⟨e,y⟩:=y
  subst e
  exact hs i x σ _ (y xs q) p
 ·have e:i=xs.length:=by omega
  subst e
  exact .inl ⟨⟨xs,q,zbq9 _⟩,hd σ H p⟩
theorem zas8 {lo:Int}{n:Nat}{g:TG}{tb:TS}{D:Ends}{σ:St}{H:Hp}(Pv:Nat->St->Hp->Prop) (h0:Pv 0 σ H)
  (hs:∀ i σ H,i<n->Pv i σ H->g (.int (lo+i)) σ H fun σ2 H2=>tb { D with nx:=Pv (i+1),ct:=Pv (i+1),bk:=D.nx } σ2 H2) (hd:∀ σ H,Pv n σ H->D.nx σ H) :
  ∃ W:Nat->Nat->St->Hp->Prop,(∃ m,W 0 m σ H)/\∀ i m σ H,W i m σ H ->
   ((Itr lo n).stop i H/\D.nx σ H)∨((Itr lo n).go i H/\∃ N:St->Hp->Prop,(∀ σ' H',N σ' H'->∃ m',m'<m/\W (i+1) m' σ' H')/\∀ x H',(Itr lo n).yld i H x H'->g x σ H' fun σ2 H2=>tb { D with nx:=N,ct:=N,bk:=D.nx } σ2 H2):=by
 refine⟨fun i m σ H=>m=n - i/\i<=n/\Pv i σ H,⟨n,by simp,zbs4 _,h0⟩,?_⟩
 rintro i m σ H ⟨rfl,hi,p⟩
 by_cases hlt:i<n
 ·refine .inr ⟨hlt,Pv (i+1),fun σ' H' p'=>⟨n - (i+1),by omega,rfl,hlt,p'⟩,fun x H' y=>?_⟩
  obtain⟨e,y⟩:=y
  subst e y
  exact hs i σ _ hlt p
 ·have e:i=n:=by omega
  subst e
  exact .inl ⟨zbq9 _,hd σ H p⟩
end L2
namespace L2
open PySem PySem.Spec PyProof.Rows
abbrev R2:=V->V->Hp->VK->Prop
def OpR (X:Cx) (f:Value->Value->Sem Value) (r:R2):Prop:=
 ∀ (pins:List (Addr×Obj)) (s:Shared) (σ:St) (H:Hp) (x y:V) (v u:Value) (Q:VK),Inv X pins σ H s->RelV x v->RelV y u->r x y H Q ->
  wpAny (model X.prog X.w) X.A (f v u) (EP X pins σ Q) X.xe s
def UnR (X:Cx) (f:Value->Sem Value) (r:V->Hp->VK->Prop):Prop:=
 ∀ (pins:List (Addr×Obj)) (s:Shared) (σ:St) (H:Hp) (x:V) (v:Value) (Q:VK),Inv X pins σ H s->RelV x v->r x H Q ->
  wpAny (model X.prog X.w) X.A (f v) (EP X pins σ Q) X.xe s
def zl0 (X:Cx) (f:Value) (r:List V->Hp->VK->Prop):Prop:=
 ∀ (pins:List (Addr×Obj)) (s:Shared) (σ:St) (H:Hp) (xs:List V) (us:List Value) (Q:VK),Inv X pins σ H s->Vals xs us->r xs H Q ->
  wpAny (model X.prog X.w) X.A (call f us) (EP X pins σ Q) X.xe s
def TruR (X:Cx) (r:V->Hp->(Bool->Hp->Prop)->Prop):Prop:=
 ∀ (pins:List (Addr×Obj)) (s:Shared) (σ:St) (H:Hp) (x:V) (v:Value) (Q:Bool->Hp->Prop),Inv X pins σ H s->RelV x v->r x H Q ->
  wpAny (model X.prog X.w) X.A (truthy v) (TP X pins σ Q) X.xe s
def tOp (r:R2) (ta tb:TE):TE:=fun σ H Q=>ta σ H fun x H1=>tb σ H1 fun y H2=>r x y H2 Q
def tUn (r:V->Hp->VK->Prop) (ta:TE):TE:=fun σ H Q=>ta σ H fun x H1=>r x H1 Q
def rI (C:Int->Int->Prop) (g:Int->Int->V):R2:=fun x y H Q=>∃ i j,x=.int i/\y=.int j/\C i j/\Q (g i j) H
def rI0 (g:Int->Int->V):R2:=fun x y H Q=>∃ i j,x=.int i/\y=.int j/\Q (g i j) H
def rU (g:Int->V):V->Hp->VK->Prop:=fun x H Q=>∃ i,x=.int i/\Q (g i) H
section
variable {X:Cx}{a b c:Expr}{ta tb tc:TE}{pos:Pos}
theorem binT (ha:PE X a ta) (hb:PE X b tb) {pins:List (Addr×Obj)}{s:Shared}{σ:St}{H:Hp}{R:V->V->Hp->Prop}(I:Inv X pins σ H s)
  (h:ta σ H fun x H1=>tb σ H1 fun y H2=>R x y H2) {Q:Value->Shared->Prop}{f:Value->Value->Sem Value}
  (hf:∀ v u s2 x y H2,Inv X pins σ H2 s2->RelV x v->RelV y u->R x y H2->wpAny (model X.prog X.w) X.A (f v u) Q X.xe s2) :
  wpAny (model X.prog X.w) X.A (eval a X.env) (fun v s₁=>wpAny (model X.prog X.w) X.A (eval b X.env) (fun u s₂=>wpAny (model X.prog X.w) X.A (f v u) Q X.xe s₂) X.xe s₁) X.xe s:=by
 refine thn (ha pins s σ H _ I h) fun v s1 ⟨x,H1,I1,r1,q1⟩=>?_
 refine thn (hb pins s1 σ H1 _ I1 q1) fun u s2 ⟨y,H2,I2,r2,q2⟩=>?_
 exact hf v u s2 x y H2 I2 r1 r2 q2
theorem zc1 {op:Operator}{r:R2}(ho:OpR X (binaryOp op) r) (ha:PE X a ta) (hb:PE X b tb):PE X (.BinOp a op b pos) (tOp r ta tb):=by
 intro pins s σ H Q I h
 exact wpAny_BinOp (binT ha hb I h fun v u s2 x y H2 I2 rx ry q=>ho pins s2 σ H2 x y v u Q I2 rx ry q)
theorem zaj6 {op:UnaryOp}{r:V->Hp->VK->Prop}(ho:UnR X (unaryOp op) r) (ha:PE X a ta):PE X (.UnaryOp op a pos) (tUn r ta):=by
 intro pins s σ H Q I h
 exact UnaryOp_ (thn (ha pins s σ H _ I h) fun v s1 ⟨x,H1,I1,r1,q1⟩=>ho pins s1 σ H1 x v Q I1 r1 q1)
theorem opI {f:Value->Value->Sem Value}{C:Int->Int->Prop}{g:Int->Int->Int}
  (rule:∀ (i j:Int) (t u:Tok) (s:Shared) (Q:Value->Shared->Prop) (E:Value->Shared->Prop),C i j->Q (.int (g i j) s.toks) { s with toks:=s.toks+1 }->wpAny (model X.prog X.w) X.A (f (.int i t) (.int j u)) Q E s) :
  OpR X f (rI C fun i j=>.int (g i j)):=by
 intro pins s σ H x y v u Q I rx ry h
 obtain⟨i,j,rfl,rfl,hc,q⟩:=h
 obtain⟨t,rfl⟩:=rx
 obtain⟨t',rfl⟩:=ry
 exact rule i j t t' s _ _ hc ⟨.int (g i j),H,I.tok _,⟨_,rfl⟩,q⟩
theorem opI0 {f:Value->Value->Sem Value}{g:Int->Int->Int}
  (rule:∀ (i j:Int) (t u:Tok) (s:Shared) (Q:Value->Shared->Prop) (E:Value->Shared->Prop),Q (.int (g i j) s.toks) { s with toks:=s.toks+1 }->wpAny (model X.prog X.w) X.A (f (.int i t) (.int j u)) Q E s) :
  OpR X f (rI0 fun i j=>.int (g i j)):=by
 intro pins s σ H x y v u Q I rx ry h
 obtain⟨i,j,rfl,rfl,q⟩:=h
 obtain⟨t,rfl⟩:=rx
 obtain⟨t',rfl⟩:=ry
 exact rule i j t t' s _ _ ⟨.int (g i j),H,I.tok _,⟨_,rfl⟩,q⟩
theorem opB0 {f:Value->Value->Sem Value}{g:Int->Int->Bool}
  (rule:∀ (i j:Int) (t u:Tok) (s:Shared) (Q:Value->Shared->Prop) (E:Value->Shared->Prop),Q (.bool (g i j)) s->wpAny (model X.prog X.w) X.A (f (.int i t) (.int j u)) Q E s) :
  OpR X f (rI0 fun i j=>.bl (g i j)):=by
 intro pins s σ H x y v u Q I rx ry h
 obtain⟨i,j,rfl,rfl,q⟩:=h
 obtain⟨t,rfl⟩:=rx
 obtain⟨t',rfl⟩:=ry
 exact rule i j t t' s _ _ ⟨.bl (g i j),H,I,rfl,q⟩
def CPow (i j:Int):Prop:=0<=j/\j<=1000000/\i.natAbs<2 ^ 64
def CMul (i j:Int):Prop:=(-(2 ^ 64)<i/\i<2 ^ 64)∨(-(2 ^ 64)<j/\j<2 ^ 64)
theorem CMul.ok {i j:Int}(h:CMul i j):IntMulOk i j:=by
 rcases h with ⟨h1,h2⟩|⟨h1,h2⟩
 ·exact .of_left (intBits_le_64 h1 h2)
 ·exact .of_right (intBits_le_64 h1 h2)
theorem op_add:OpR X (binaryOp .Add) (rI0 fun i j=>.int (i+j)):=opI0 fun _ _ _ _ _ _ _ q=>add_int q
theorem op_sub:OpR X (binaryOp .Sub) (rI0 fun i j=>.int (i - j)):=opI0 fun _ _ _ _ _ _ _ q=>sub_int q
theorem zbm4:OpR X (binaryOp .Mod) (rI (fun _ j=>j≠0) fun i j=>.int (i.fmod j)):=opI fun _ _ _ _ _ _ _ hc q=>mod_int' hc q
theorem op_pow:OpR X (binaryOp .Pow) (rI CPow fun i j=>.int (i ^ j.toNat)):=opI fun _ _ _ _ _ _ _ hc q=>pow_int_small hc.1 hc.2.1 hc.2.2 q
theorem unI {f:Value->Sem Value}{g:Int->Int}
  (rule:∀ (i:Int) (t:Tok) (s:Shared) (Q:Value->Shared->Prop) (E:Value->Shared->Prop),Q (.int (g i) s.toks) { s with toks:=s.toks+1 }->wpAny (model X.prog X.w) X.A (f (.int i t)) Q E s) :
  UnR X f (rU fun i=>.int (g i)):=by
 intro pins s σ H x v Q I rx h
 obtain⟨i,rfl,q⟩:=h
 obtain⟨t,rfl⟩:=rx
 exact rule i t s _ _ ⟨.int (g i),H,I.tok _,⟨_,rfl⟩,q⟩
theorem un_neg:UnR X (unaryOp .USub) (rU fun i=>.int (-i)):=unI fun _ _ _ _ _ q=>neg_int q
end
def scal:V->V->Bool
 | .non,.non=>true | .non,.int _=>true | .int _,.non=>true | .non,.bl _=>true | .bl _,.non=>true | .non,.str _=>true | .str _,.non=>true
 | .int _,.int _=>true | .bl _,.bl _=>true | .str _,.str _=>true | .byt _,.byt _=>true
 | .int _,.str _=>true | .str _,.int _=>true | .bl _,.str _=>true | .str _,.bl _=>true
 | _,_=>false
def rEq:R2:=fun x y H Q=>scal x y=true/\Q (.bl (decide (x=y))) H
def rNe:R2:=fun x y H Q=>scal x y=true/\Q (.bl (!decide (x=y))) H
theorem zax4 {i j:Int}:decide (V.int i=V.int j)=(i==j):=by
 rw[zbu4]
 simp
theorem zbg0 {i j:Bool}:decide (V.bl i=V.bl j)=(i==j):=by
 rw[zbu4]
 simp
theorem zav8 {i j:Str}:decide (V.str i=V.str j)=(i==j):=by
 rw[zbu4]
 simp
theorem zba5 {i j:Array UInt8}:decide (V.byt i=V.byt j)=(i.toList==j.toList):=by
 rw[zbu4]
 cases i
 cases j
 simp
section
variable {X:Cx}{a b c:Expr}{ta tb tc:TE}{pos:Pos}
theorem zd8 {pins:List (Addr×Obj)}{σ:St}{H:Hp}{s:Shared}{Q:VK}{k k':Bool}(I:Inv X pins σ H s) (q:Q (.bl k) H) (e:k=k'):EP X pins σ Q (.bool k') s:=by
 subst e
 exact⟨.bl k,H,I,rfl,q⟩
theorem op_eq:OpR X (compareOp .Eq) rEq:=by
 intro pins s σ H x y v u Q I rx ry h
 obtain⟨hs,q⟩:=h
 cases x with
 | non=>
  cases rx
  cases y with
  | non=>cases ry;exact PySem.EqNone.eq_none_none (zd8 I q (by simp))
  | bl j=>cases ry;exact PySem.EqNone.eq_none_bool (zd8 I q (by simp))
  | int j=>obtain⟨t',rfl⟩:=ry;exact PySem.EqNone.eq_none_int (zd8 I q (by simp))
  | str j=>obtain⟨t',rfl⟩:=ry;exact PySem.EqNone.eq_none_str (zd8 I q (by simp))
  | _=>exact absurd (show false=true from hs) zbq6
 | bl i=>
  cases rx
  cases y with
  | non=>cases ry;exact PySem.EqNone.eq_bool_none (zd8 I q (by simp))
  | bl j=>cases ry;exact eq_bool (zd8 I q zbg0)
  | str j=>obtain⟨t',rfl⟩:=ry;exact PySem.EqMixed.eq_bool_str (zd8 I q (by simp))
  | _=>exact absurd (show false=true from hs) zbq6
 | int i=>
  obtain⟨t,rfl⟩:=rx
  cases y with
  | non=>cases ry;exact PySem.EqNone.eq_int_none (zd8 I q (by simp))
  | int j=>obtain⟨t',rfl⟩:=ry;exact eq_int (zd8 I q zax4)
  | str j=>obtain⟨t',rfl⟩:=ry;exact PySem.EqMixed.eq_int_str (zd8 I q (by simp))
  | _=>exact absurd (show false=true from hs) zbq6
 | str i=>
  obtain⟨t,rfl⟩:=rx
  cases y with
  | non=>cases ry;exact PySem.EqNone.eq_str_none (zd8 I q (by simp))
  | bl j=>cases ry;exact PySem.EqMixed.eq_str_bool (zd8 I q (by simp))
  | int j=>obtain⟨t',rfl⟩:=ry;exact PySem.EqMixed.eq_str_int (zd8 I q (by simp))
  | str j=>obtain⟨t',rfl⟩:=ry;exact eq_str (zd8 I q zav8)
  | _=>exact absurd (show false=true from hs) zbq6
 | byt i=>
  obtain⟨t,rfl⟩:=rx
  cases y with
  | byt j=>obtain⟨t',rfl⟩:=ry;exact PySem.W.eq_bytes (zd8 I q zba5)
  | _=>exact absurd (show false=true from hs) zbq6
 | _=>cases y<;>exact absurd (show false=true from hs) zbq6
theorem op_ne:OpR X (compareOp .NotEq) rNe:=by
 intro pins s σ H x y v u Q I rx ry h
 obtain⟨hs,q⟩:=h
 cases x with
 | non=>
  cases rx
  cases y with
  | non=>cases ry;exact PySem.EqNone.ne_none_none (zd8 I q (by simp))
  | bl j=>cases ry;exact PySem.EqNone.ne_none_bool (zd8 I q (by simp))
  | int j=>obtain⟨t',rfl⟩:=ry;exact PySem.EqNone.ne_none_int (zd8 I q (by simp))
  | str j=>obtain⟨t',rfl⟩:=ry;exact PySem.EqNone.ne_none_str (zd8 I q (by simp))
  | _=>exact absurd (show false=true from hs) zbq6
 | bl i=>
  cases rx
  cases y with
  | non=>cases ry;exact PySem.EqNone.ne_bool_none (zd8 I q (by simp))
  | bl j=>cases ry;exact ne_bool (zd8 I q (congrArg not zbg0))
  | str j=>obtain⟨t',rfl⟩:=ry;exact PySem.EqMixed.ne_bool_str (zd8 I q (by simp))
  | _=>exact absurd (show false=true from hs) zbq6
 | int i=>
  obtain⟨t,rfl⟩:=rx
  cases y with
  | non=>cases ry;exact PySem.EqNone.ne_int_none (zd8 I q (by simp))
  | int j=>obtain⟨t',rfl⟩:=ry;exact ne_int (zd8 I q (congrArg not zax4))
  | str j=>obtain⟨t',rfl⟩:=ry;exact PySem.EqMixed.ne_int_str (zd8 I q (by simp))
  | _=>exact absurd (show false=true from hs) zbq6
 | str i=>
  obtain⟨t,rfl⟩:=rx
  cases y with
  | non=>cases ry;exact PySem.EqNone.ne_str_none (zd8 I q (by simp))
  | bl j=>cases ry;exact PySem.EqMixed.ne_str_bool (zd8 I q (by simp))
  | int j=>obtain⟨t',rfl⟩:=ry;exact PySem.EqMixed.ne_str_int (zd8 I q (by simp))
  | str j=>obtain⟨t',rfl⟩:=ry;exact ne_str (zd8 I q (congrArg not zav8))
  | _=>exact absurd (show false=true from hs) zbq6
 | byt i=>
  obtain⟨t,rfl⟩:=rx
  cases y with
  | byt j=>obtain⟨t',rfl⟩:=ry;exact PySem.W.ne_bytes (zd8 I q (congrArg not zba5))
  | _=>exact absurd (show false=true from hs) zbq6
 | _=>cases y<;>exact absurd (show false=true from hs) zbq6
theorem op_lt:OpR X (compareOp .Lt) (rI0 fun i j=>.bl (decide (i<j))):=opB0 fun _ _ _ _ _ _ _ q=>lt_int q
theorem op_le:OpR X (compareOp .LtE) (rI0 fun i j=>.bl (decide (i<=j))):=opB0 fun _ _ _ _ _ _ _ q=>le_int q
theorem op_gt:OpR X (compareOp .Gt) (rI0 fun i j=>.bl (decide (j<i))):=opB0 fun _ _ _ _ _ _ _ q=>gt_int q
theorem zbh8 (b:Expr) {op:CmpOp}(h:op≠.In:=by decide) (h2:op≠.NotIn:=by decide):behindInMarks op b=false:=by
 have e1:(op==CmpOp.In)=false:=by cases op<;>first|rfl|exact absurd rfl h
 have e2:(op==CmpOp.NotIn)=false:=by cases op<;>first|rfl|exact absurd rfl h2
 cases b<;>simp[behindInMarks,e1,e2]
theorem zbi6 {op:CmpOp}{r:R2}(ho:OpR X (compareOp op) r) (ha:PE X a ta) (hb:PE X b tb) (hm:behindInMarks op b=false):PE X (.Compare a [op] [b] pos) (tOp r ta tb):=by
 intro pins s σ H Q I h
 exact wpAny_Compare1 (binT ha hb I h fun v u s2 x y H2 I2 rx ry q=>ho pins s2 σ H2 x y v u Q I2 rx ry q) hm
def TruV (K:zbp7) (x:V) (H:Hp) (k:Bool):Prop:=
 match x with
 | .non=>k=false
 | .bl b=>k=b
 | .int i=>k=(i != 0)
 | .str y=>y.length<=sizeLine/\k=((y.length:Int) != 0)
 | .byt y=>y.size<=sizeLine/\k=((y.size:Int) != 0)
 | .ref p=>(∃ xs,SqL K H p xs/\k=!xs.isEmpty)∨(∃ xs,SqT K H p xs/\k=!xs.isEmpty)∨∃ kvs,H p=some (.dK kvs)/\k=!kvs.isEmpty
 | _=>False
theorem zao9 {κ:Type}{kvs:List (κ×V)}{vs:List (κ×Value)}(r:KV kvs vs):(!vs.isEmpty)=!kvs.isEmpty:=by
 cases r<;>rfl
theorem zaa3 {xs:List V}{its:List Value}(r:Vals xs its):(!its.toArray.isEmpty)=!xs.isEmpty:=by
 cases r<;>simp
theorem zw2:(sizeLine:Nat)<2 ^ 63:=by rw[sizeLine_eq];decide
theorem zay3:TruR X (fun x H Q=>∃ k,TruV X.K x H k/\Q k H):=by
 intro pins s σ H x v Q I rx h
 obtain⟨k,e,q⟩:=h
 have hl:=zw2
 have hs:sizeLine=16777216:=sizeLine_eq
 cases x with
 | non=>
  cases rx
  have e':k=false:=e
  subst e'
  exact truthy_none ⟨H,I,q⟩
 | bl b=>
  cases rx
  have e':k=b:=e
  subst e'
  exact wpAny_truthy_bool ⟨H,I,q⟩
 | int i=>
  obtain⟨t,rfl⟩:=rx
  have e':k=(i != 0):=e
  subst e'
  exact PySem.P.truthy_int ⟨H,I,q⟩
 | str y=>
  obtain⟨t,rfl⟩:=rx
  obtain⟨hy,e'⟩:y.length<=sizeLine/\k=((y.length:Int) != 0):=e
  subst e'
  exact PySem.P.truthy_str (by omega) ⟨H,I.tok _,q⟩
 | byt y=>
  obtain⟨t,rfl⟩:=rx
  obtain⟨hy,e'⟩:y.size<=sizeLine/\k=((y.size:Int) != 0):=e
  subst e'
  exact PySem.W.truthy_bytes (by omega) ⟨H,I.tok _,q⟩
 | ref p=>
  cases rx
  have e':(∃ xs,SqL X.K H p xs/\k=!xs.isEmpty)∨(∃ xs,SqT X.K H p xs/\k=!xs.isEmpty)∨∃ kvs,H p=some (.dK kvs)/\k=!kvs.isEmpty:=e
  rcases e' with ⟨xs,hx,e'⟩|⟨xs,hx,e'⟩|⟨kvs,hx,e'⟩
  ·subst e'
   obtain⟨its,r,pl,hz⟩:=I.list hx
   have hlen:=r.length
   exact wpAny_truthy_list pl.isList (by simp only[zbq3];omega) ⟨H,I.tok _,by rw[zaa3 r];exact q⟩
  ·subst e'
   obtain⟨its,r,pl,hz⟩:=I.tuple hx
   have hlen:=r.length
   exact truthy_tuple pl (by simp only[zbq3];omega) ⟨H,I.tok _,by rw[zaa3 r];exact q⟩
  ·subst e'
   obtain⟨hz,hS,vs,r,m⟩:kvs.length<=sizeLine/\(p==sysModules)=false/\∃ vs,KV kvs vs/\s.heap.DictOf (zg2 X.prog X.w) p vs:=I.hok p _ hx
   have hlen:kvs.length=vs.length:=Paired.length r
   exact wpAny_truthy_dict hS m (by omega) ⟨H,I.tok _,by rw[zao9 r];exact q⟩
 | _=>exact (show False from e).elim
theorem zaq9:OpR X (binaryOp .Add) (fun x y H Q=>∃ i j,x=.str i/\y=.str j/\i.length+j.length<=sizeLine/\Q (.str (i++j)) H):=by
 intro pins s σ H x y v u Q I rx ry h
 obtain⟨i,j,rfl,rfl,hz,q⟩:=h
 obtain⟨t,rfl⟩:=rx
 obtain⟨t',rfl⟩:=ry
 exact add_str (fun t' tk=>⟨.str (i++j),H,I.tok _,⟨_,rfl⟩,q⟩) hz
theorem zy4 {x:V}{us:List Value}(r:Vals [x] us):∃ u,us=[u]/\RelV x u:=by
 cases r with
 | cons r1 r2=>cases r2;exact⟨_,rfl,r1⟩
theorem zaq8 {x y:V}{us:List Value}(r:Vals [x,y] us):∃ u w',us=[u,w']/\RelV x u/\RelV y w':=by
 cases r with
 | cons r1 r2=>
  cases r2 with
  | cons r3 r4=>cases r4;exact⟨_,_,rfl,r1,r3⟩
theorem zax6 (hc:X.calm=true):zl0 X (.builtin "max") (fun xs H Q=>∃ i j,xs=[.int i,.int j]/\Q (.int (if j>i then j else i)) H):=by
 intro pins s σ H xs us Q I r h
 obtain⟨i,j,rfl,q⟩:=h
 obtain⟨u,w',rfl,⟨t,rfl⟩,⟨t',rfl⟩⟩:=zaq8 r
 refine max_two_ints (I.ok.hd hc) fun h' tk k=>⟨_,H,I.kept k,?_,q⟩
 by_cases hj:j>i
 ·rw[if_pos hj,if_pos hj];exact⟨_,rfl⟩
 ·rw[if_neg hj,if_neg hj];exact⟨_,rfl⟩
theorem zat6 (hc:X.calm=true):zl0 X (.builtin "min") (fun xs H Q=>∃ i j,xs=[.int i,.int j]/\Q (.int (if j<i then j else i)) H):=by
 intro pins s σ H xs us Q I r h
 obtain⟨i,j,rfl,q⟩:=h
 obtain⟨u,w',rfl,⟨t,rfl⟩,⟨t',rfl⟩⟩:=zaq8 r
 refine min_two_ints (I.ok.hd hc) fun h' tk k=>⟨_,H,I.kept k,?_,q⟩
 by_cases hj:j<i
 ·rw[if_pos hj,if_pos hj];exact⟨_,rfl⟩
 ·rw[if_neg hj,if_neg hj];exact⟨_,rfl⟩
end
end L2
namespace L2
open PySem PySem.Spec PyProof.Rows
structure ObjM (h:Heap) (x dx C:Addr) (mA:Str->Option Value):Prop where
 obj:h.get? x=some (PySem.W.instObj C dx)
 ns:h.Ns1 dx mA
 ne:dx≠x
theorem zau5 {h:Heap}{dx:Addr}{mA:Str->Option Value}(n:h.Ns1 dx mA):∃ od,h.get? dx=some od/\∀ name,PySem.W.lookIn name od=some (mA name):=by
 obtain⟨o,es,ep,ho,hd,hk,_,hm⟩:=n
 refine⟨o,ho,fun name=>?_⟩
 have e:=hm name
 unfold nsFind findBy at e
 rw[← Array.find?_toList] at e
 unfold PySem.W.lookIn
 rw[hd]
 dsimp only
 split
 ·rename_i y q
  rw[q] at e
  exact congrArg some e
 ·rename_i q
  rw[q] at e
  have a:es.toList.any (·.refKey)=false:=by
   rw[List.any_eq_false]
   intro y hy
   obtain⟨z,t,hkey⟩:=hk y (Array.mem_toList_iff.mp hy)
   simp[DictEntry.refKey,hkey]
  have a':¬ es.toList.any (·.refKey)=true:=by rw[a];exact zbq6
  rw[if_neg a']
  exact congrArg some e
theorem ObjM.look {h:Heap}{x dx C:Addr}{mA:Str->Option Value}(I:ObjM h x dx C mA):∃ od,PySem.W.InstAt h x (PySem.W.instObj C dx) C (some od)/\∀ name,PySem.W.lookIn name od=some (mA name):=
 let ⟨od,ho,hl⟩:=zau5 I.ns
 ⟨od,⟨I.obj,rfl,rfl,ho⟩,hl⟩
section
variable {prog:Program}{w:World}{A:Around}{E:Value->Shared->Prop}{s:Shared}{K:zbp7}{x dx C f:Addr}{mA:Str->Option Value}{name:Str}{v:Value}
end
theorem RelO.some_of {v:V}{o:Option Value}(r:RelO (some v) o):∃ u,o=some u/\RelV v u:=by
 cases o with
 | none=>exact (show False from r).elim
 | some u=>exact⟨u,rfl,r⟩
section
variable {P:Program}{w:World}{H H':Hp}{h h':Heap}{a C dx:Addr}{fs fs':List (Str×V)}
theorem zbj3 (hok:HOk P w H h) (e:H a=some (.ins C dx fs)):∃ mA,ObjM h a dx C mA/\(∀ f,RelO (fs.lookup f) (mA f))/\PySem.Within mA (fs.map (·.1))/\fs.length<=1000/\H dx=some (.own a):=by
 obtain⟨d,z,ne,ob,mA,n,r,q⟩:=(show zg6 P w H h a (.ins C dx fs) from hok a _ e)
 exact⟨mA,⟨ob,n,ne⟩,r,q,z,d⟩
end
structure Cls (K:zbp7) (C:Addr):Prop where
 pg:PySem.W.plainGet K C Str.empty=true
 hd:PySem.W.hasDictIn K C=true
 po:PySem.W.plainOver K C=true
 sa:PySem.W.findIn K (.ref C) "__setattr__"=some (some (.builtin "object.__setattr__"))
theorem Cls.get {K:zbp7}{C:Addr}(c:Cls K C) (f:Str):PySem.W.plainGet K C f=true:=c.pg
section
variable {X:Cx}{pins:List (Addr×Obj)}{σ:St}{H:Hp}{s:Shared}{a C dx:Addr}{fs:List (Str×V)}{f:Str}{v:V}{A:Around}{E:Value->Shared->Prop}
end
section
variable {X:Cx}{o e value:Expr}{f:Str}{pos pos' tpos:Pos}{ta tv:TE}
end
section
variable {X:Cx}{pins:List (Addr×Obj)}{σ:St}{H:Hp}{s:Shared}{A:Around}{E:Value->Shared->Prop}{Q:Value->Shared->Prop}{c:Value}{b:Bool}
inductive TyOf (K:zbp7) (H:Hp):V->Value->Prop where
 | non:TyOf K H .non (.type "NoneType")
 | bl (x:Bool):TyOf K H (.bl x) (.type "bool")
 | int (i:Int):TyOf K H (.int i) (.type "int")
 | str (x:Str):TyOf K H (.str x) (.type "str")
 | flt (x:UInt64):TyOf K H (.flt x) (.type "float")
 | lst {a:Addr}{xs:List V}(e:H a=some (.lst xs)):TyOf K H (.ref a) (.type "list")
 | frz {a:Addr}{o:Obj}{xs:List V}(e:H a=some (.frz o (.lst xs))):TyOf K H (.ref a) (.type "list")
 | tup {a:Addr}{xs:List V}(e:H a=some (.tup xs)):TyOf K H (.ref a) (.type "tuple")
 | dK {a:Addr}{kvs:List (Key×V)}(e:H a=some (.dK kvs)):TyOf K H (.ref a) (.type "dict")
 | dT {a:Addr}{kvs:List (List Key×V)}(e:H a=some (.dT kvs)):TyOf K H (.ref a) (.type "dict")
 | ins {a C dx:Addr}{fs:List (Str×V)}(e:H a=some (.ins C dx fs)) (cl:Cls K C) (ha:PySem.W.findIn K (.ref C) "__class__"=some (some (.builtin "object.__class__")))
   (hn:PySem.W.specialIn K (.builtin "object.__class__") "__get__"=some (some (.builtin "getset_descriptor.__get__"))) (htk:PySem.W.takesIn K (.builtin "object.__class__")=some true)
   (hm:PySem.W.mroIn K C (.type "object")=some true):TyOf K H (.ref a) (.ref C)
theorem zav9 {x:V}{u t:Value}(I:Inv X pins σ H s) (rx:RelV x u) (ty:TyOf X.K H x t) (e:zbv9 X.K t c=some b) (h:∀ tk,Q (.bool b) { s with toks:=tk }) :
  wpAny (model X.prog X.w) A (call (.builtin "isinstance") [u,c]) Q E s:=by
 cases ty with
 | non=>cases (show u=Value.none from rx);exact zbv1 PySem.W.kitx_none I.kIn True.intro e (fun z=>nomatch z) h
 | bl y=>cases (show u=Value.bool y from rx);exact zbv1 PySem.W.kitx_bool I.kIn True.intro e (fun z=>nomatch z) h
 | int i=>obtain⟨t,q⟩:=(show ∃ t,u=Value.int i t from rx);cases q;exact zbv1 PySem.W.kitx_int I.kIn True.intro e (fun z=>nomatch z) h
 | str y=>obtain⟨t,q⟩:=(show ∃ t,u=Value.str y t from rx);cases q;exact zbv1 PySem.W.kitx_str I.kIn True.intro e (fun z=>nomatch z) h
 | flt y=>obtain⟨t,q⟩:=(show ∃ t,u=Value.float y t from rx);cases q;exact zbv1 PySem.W.kitx_float I.kIn True.intro e (fun z=>nomatch z) h
 | @lst a xs ea=>
  cases (show u=Value.ref a from rx)
  obtain⟨_,_,n,_,h1⟩:=(show zg6 X.prog X.w H s.heap a (.lst xs) from I.hok a _ ea)
  exact zbv1 PySem.W.kitx_list I.kIn ⟨_,h1,rfl⟩ e (fun z=>nomatch z) h
 | @frz a ob xs ea=>
  cases (show u=Value.ref a from rx)
  obtain⟨_,_,_,n,_,h1⟩:=(show zg6 X.prog X.w H s.heap a (.frz ob (.lst xs)) from I.hok a _ ea)
  exact zbv1 PySem.W.kitx_list I.kIn ⟨_,h1,rfl⟩ e (fun z=>nomatch z) h
 | @tup a xs ea=>
  cases (show u=Value.ref a from rx)
  obtain⟨_,_,_,p⟩:=(show zg6 X.prog X.w H s.heap a (.tup xs) from I.hok a _ ea)
  obtain⟨o,h1,h2,_⟩:=p
  exact zbv1 PySem.W.kitx_tuple I.kIn ⟨o,h1,h2⟩ e (fun z=>nomatch z) h
 | @dK a kvs ea=>
  cases (show u=Value.ref a from rx)
  obtain⟨_,_,vs,_,p⟩:=(show zg6 X.prog X.w H s.heap a (.dK kvs) from I.hok a _ ea)
  obtain⟨o,es,ep,h1,h2,_⟩:=p
  exact zbv1 PySem.W.kitx_dict I.kIn ⟨o,h1,h2.1⟩ e (fun z=>nomatch z) h
 | @dT a kvs ea=>
  cases (show u=Value.ref a from rx)
  obtain⟨_,_,xs,_,o,es,ep,h1,h2,_⟩:=(show zg6 X.prog X.w H s.heap a (.dT kvs) from I.hok a _ ea)
  exact zbv1 PySem.W.kitx_dict I.kIn ⟨o,h1,h2.1⟩ e (fun z=>nomatch z) h
 | @ins a C dx fs ea cl ha hn htk hm=>
  cases (show u=Value.ref a from rx)
  obtain⟨mA,O,_⟩:=zbj3 I.hok ea
  obtain⟨od,J,_⟩:=O.look
  exact zbv1 (PySem.W.kitx_own (cl.get _) cl.hd ha hn htk hm) I.kIn J e (fun z=>nomatch z) h
end
end L2
namespace L2
open PySem PySem.Spec PyProof.Rows
structure Room (k:Nat) (A:Around):Prop where
 hd:A.handled=none
 dp:A.depth+3*k+5<recursionLimit
 un:A.units+16*k+200<cLine
 gd:A.guards=some []
theorem Room.mono {j k:Nat}{A:Around}(r:Room k A) (h:j<=k):Room j A:=⟨r.hd,by have:=r.dp;omega,by have:=r.un;omega,r.gd⟩
theorem Room.deeper {k:Nat}{A:Around}(r:Room (k+1) A) (env:Env):Room k (A.deeper env):=
 ⟨r.hd,by have:=r.dp;show A.depth+1+3*k+5<_;omega,by have:=r.un;show A.units+3+16*k+200<_;omega,r.gd⟩
theorem Room.depth {k:Nat}{A:Around}(r:Room k A):A.depth<recursionLimit:=by have:=r.dp;omega
theorem Room.units {k:Nat}{A:Around}(r:Room k A):A.units+64<cLine:=by have:=r.un;omega
def tNil:TA:=fun _ H Q=>Q [] H
def tCons (ta:TE) (tr:TA):TA:=fun σ H Q=>ta σ H fun x H1=>tr σ H1 fun xs H2=>Q (x :: xs) H2
section
variable {X:Cx}{e:Expr}{es:List Expr}{te:TE}{t:TA}{pos:Pos}
theorem za3:PA X [] tNil:=fun _ _ _ _ H Q I h=>Calls.spliced_nil ⟨[],H,I,.nil,h⟩
theorem za0 (ha:PE X e te) (hr:PA X es t) (hs:starEach (e :: es) X.env=(false,eval e X.env) :: starEach es X.env:=by rfl):PA X (e :: es) (tCons te t):=by
 intro pos pins s σ H Q I h
 rw[hs]
 show wpAny _ _ (spliced ((false,eval e X.env) :: backTo pos (starEach es X.env))) _ _ s
 refine Calls.spliced_cons (thn (ha pins s σ H _ I h) fun u s1 ⟨x,H1,I1,r1,q1⟩=>?_)
 exact thn (hr pos pins s1 σ H1 _ I1 q1) fun us s2 ⟨xs,H2,I2,r2,q2⟩=>⟨x :: xs,H2,I2,.cons r1 r2,q2⟩
end
abbrev Sp:=List V->Hp->VK->XK->Prop
abbrev CXT:=List Env->Hp->Shared->XK->Value->Shared->Prop
structure Env0 (P:Program) (w:World) (K:zbp7) (mg:Str->Option Value) (base:Heap) (A:Around) (outer:List Env) (s:Shared) (H:Hp):Prop where
 frames:A.frames=some outer
 mod:Mod K mg base
 bs:∀ b o,base.get? b=some o->s.heap.get? b=some o/\H b=none
 bsz:base.objs.size<=s.heap.objs.size
 funs:s.heap.FunFrames base outer
 frf:∀ b∈frs outer,H b=none
 hok:HOk P w H s.heap
 bare:AllBare s.gens
def CE (outer:List Env) (P:Program) (w:World) (H:Hp) (s:Shared) (Q:VK) (u:Value) (s':Shared):Prop:=
 ∃ v H',s'.os=s.os/\AllBare s'.gens/\Un (frs outer) [] H H' s.heap s'.heap/\HOk P w H' s'.heap/\RelV v u/\Q v H'
def CR (CX:CXT) (outer:List Env) (P:Program) (w:World) (H:Hp) (s:Shared) (Q:VK) (E:XK) (r:Result) (s':Shared):Prop:=
 match r with
 | .ok (.ret u)=>CE outer P w H s Q u s'
 | .ok _=>False
 | .error e=>CX outer H s E e s'
structure FnOk (P:Program) (w:World) (K:zbp7) (mg:Str->Option Value) (base:Heap) (CX:CXT) (k:Nat) (f:Addr) (fd:FuncData) (ps:List Str) (sp:Sp):Prop where
 len:∀ vs H Q E,sp vs H Q E->vs.length=ps.length
 run:∀ (A:Around) (outer:List Env) (s:Shared) (H:Hp) (args:Args) (us:List Value) (vs:List V) (Q:VK) (E:XK),Room k A->Env0 P w K mg base A outer s H->BindsTo s fd args (ps.zip us)->Vals vs us->sp vs H Q E ->
  codeAny (model P w) A (.call (.ref f) args) (CR CX outer P w H s Q E) s
section
variable {X:Cx}{pins:List (Addr×Obj)}{σ:St}{H:Hp}{s s':Shared}
theorem Inv.env0 (I:Inv X pins σ H s):Env0 X.prog X.w X.K X.mg X.base X.A X.stack s H:=
 ⟨I.ok.frames,I.ok.mod,I.bs,zbt7 I.ok.bsz I.sz,I.stack,I.stkFree,I.hok,I.bare⟩
theorem Inv.after {Q:VK}{u:Value}(I:Inv X pins σ H s) (h:CE X.stack X.prog X.w H s Q u s'):EP X pins σ Q u s':=by
 obtain⟨v,H',os,bare,un,hok,r,q⟩:=h
 obtain⟨hh,g,d,t,os'⟩:=s'
 obtain rfl:os'=s.os:=os
 exact⟨v,H',I.call (h':=hh) (g':=g) (d':=d) (t':=t) (ch:=[]) un hok bare (fun b z=>absurd z (by simp)),r,q⟩
end
def tCall (sp:Sp) (dvs:List V) (E:XK) (t:TA):TE:=fun σ H Q=>t σ H fun vs H1=>sp (vs++dvs) H1 Q E
def zap7 (K:zbp7) (fd:FuncData) (ps:List Str) (ds:List Value):Prop:=
 ∀ (s:Shared) (us:List Value),K.In s.heap->(us++ds).length=ps.length->BindsTo s fd ⟨us,[]⟩ (ps.zip (us++ds))
theorem zap7.all {K:zbp7}{fd:FuncData}{ps:List Str}(h:∀ us:List Value,us.length=ps.length->bindArgs fd ⟨us,[]⟩=pure (ps.zip us)):zap7 K fd ps []:=fun s us _ hl=>by
 rw[List.append_nil] at hl ⊢
 exact .of_eq (h us hl)
def zal9 (CX:CXT) (X:Cx) (E:XK):Prop:=∀ (pins:List (Addr×Obj)) (σ:St) (H:Hp) (s:Shared) (e:Value) (s':Shared),Inv X pins σ H s->CX X.stack H s E e s'->X.xe e s'
section
variable {X:Cx}{CX:CXT}{k:Nat}{f C:Addr}{fd:FuncData}{ps:List Str}{sp:Sp}{dvs:List V}{ds:List Value}{E:XK}{x m:Str}{p pos apos:Pos}{e o:Expr}{es:List Expr}{ta:TE}{t:TA}
theorem run_fn {pins:List (Addr×Obj)}{σ:St}{H:Hp}{s:Shared}{Q:VK}{us:List Value}{vs:List V}(F:FnOk X.prog X.w X.K X.mg X.base CX k f fd ps sp) (hr:Room k X.A) (hb:zap7 X.K fd ps ds) (hd:Vals dvs ds) (hx:zal9 CX X E)
  (I:Inv X pins σ H s) (r:Vals vs us) (h:sp (vs++dvs) H Q E):wpAny (model X.prog X.w) X.A (call (.ref f) us) (EP X pins σ Q) X.xe s:=by
 have r2:Vals (vs++dvs) (us++ds):=r.append hd
 have hl:(us++ds).length=ps.length:=by rw[← r2.length];exact F.len _ _ _ _ h
 refine wpAny_call (codeAny_mono (F.run X.A X.stack s H ⟨us,[]⟩ (us++ds) (vs++dvs) Q E hr I.env0 (hb s us I.kIn hl) r2 h) fun r s' hq=>?_)
 cases r with
 | error e=>exact hx pins σ H s e s' I hq
 | ok fl=>
  cases fl with
  | ret u=>exact I.after hq
  | next=>exact False.elim hq
  | brk=>exact False.elim hq
  | cont=>exact False.elim hq
theorem zbk7 (F:FnOk X.prog X.w X.K X.mg X.base CX k f fd ps sp) (hr:Room k X.A) (hg:Gl X x) (hm:X.mg x=some (.ref f)) (hk:zbr9 X.K (.ref f)=true) (hb:zap7 X.K fd ps ds) (hd:Vals dvs ds) (hx:zal9 CX X E)
  (ha:PA X (e :: es) t) (hdb:(x==("__debug__":Str))=false:=by decide) (he:starEach (e :: es) X.env=(false,eval e X.env) :: starEach es X.env:=by rfl) (hpl:(backTo pos (starEach es X.env)).any (·.1)=false:=by rfl) :
  PE X (.Call (.Name x p) (e :: es) [] pos) (tCall sp dvs E t):=by
 intro pins s σ H Q I h
 refine wpAny_Call_Name_kw (zbk0 I hg hm ?_ hdb)
 refine PySem.W.callWith_K (h₀:=X.base) I.ok.mod.kin hk (thn (ha pos pins s σ H _ I h) fun us s1 ⟨vs,H1,I1,r,q⟩=>⟨I1.kIn,?_⟩) he hpl
 exact run_fn F hr hb hd hx I1 r q
end
section
variable {X:Cx}{CX:CXT}{k:Nat}{f C:Addr}{fd:FuncData}{ps ks:List Str}{sp:Sp}{E:XK}{x m:Str}{p pos apos kpos:Pos}{e o:Expr}{es:List Expr}{kws:List Keyword}{te ta:TE}{t tk:TA}{nm:Option Str}
variable {g:List Value->List Value->List Value}{gV:List V->List V->List V}
end
structure zc8 (N P:List Str) (sc:Scope):Prop where
 kind:sc.kind=.function
 co:sc.isCoroutine=false
 gen:sc.isGenerator=false
 nd:N.Nodup
 pre:N.take P.length=P
 par:∀ x∈P,sc.names.lookup x=some .local∨sc.names.lookup x=some .cell
 nofree:∀ y∈sc.names,y.2≠.free
theorem zah4 {kindOf:Str->Option NameKind}{x:Str}:∀ {binds:List (Str×Value)}{m:Str->Option Value},(∀ v,(x,v) ∉ binds)->bindL kindOf binds m x=m x
 | [],_,_=>rfl
 | (n,v) :: r,m,h=>by
  unfold bindL
  rw[zah4 fun w hw=>h w (zbt8 _ hw)]
  split
  ·have:x≠n:=by rintro rfl;exact h v zbv0
   simp[this]
  ·rfl
theorem zae7 {kindOf:Str->Option NameKind}{x:Str}:∀ {binds:List (Str×Value)}{m:Str->Option Value},(∀ v,(x,v) ∉ binds)->bindC kindOf binds m x=m x
 | [],_,_=>rfl
 | (n,v) :: r,m,h=>by
  unfold bindC
  rw[zae7 fun w hw=>h w (zbt8 _ hw)]
  split
  ·rfl
  ·have:x≠n:=by rintro rfl;exact h v zbv0
   simp[this]
theorem zad9 {kindOf:Str->Option NameKind}{x:Str}{v:Value}:∀ {P:List Str}{vs:List Value}{i:Nat}{m:Str->Option Value},P.Nodup->P[i]?=some x->vs[i]?=some v->kindOf x=some .local ->
  bindL kindOf (P.zip vs) m x=some v
 | [],_,_,_,_,h,_,_=>by simp at h
 | _ :: _,[],_,_,_,_,h,_=>by simp at h
 | p :: P,w :: vs,0,m,nd,h1,h2,hk=>by
  simp at h1 h2;subst h1;subst h2
  show bindL kindOf ((p,w) :: P.zip vs) m p=_
  unfold bindL
  rw[zah4 fun v hv=>(zbu9.mp nd).1 (List.of_mem_zip hv).1,if_pos hk]
  simp
 | p :: P,w :: vs,i+1,m,nd,h1,h2,hk=>by
  show bindL kindOf ((p,w) :: P.zip vs) m x=_
  unfold bindL
  exact zad9 (i:=i) (zbu9.mp nd).2 (by simpa using h1) (by simpa using h2) hk
theorem zag1 {kindOf:Str->Option NameKind}{x:Str}{v:Value}:∀ {P:List Str}{vs:List Value}{i:Nat}{m:Str->Option Value},P.Nodup->P[i]?=some x->vs[i]?=some v->kindOf x≠some .local ->
  bindC kindOf (P.zip vs) m x=some v
 | [],_,_,_,_,h,_,_=>by simp at h
 | _ :: _,[],_,_,_,_,h,_=>by simp at h
 | p :: P,w :: vs,0,m,nd,h1,h2,hk=>by
  simp at h1 h2;subst h1;subst h2
  show bindC kindOf ((p,w) :: P.zip vs) m p=_
  unfold bindC
  rw[zae7 fun v hv=>(zbu9.mp nd).1 (List.of_mem_zip hv).1,if_neg hk]
  simp
 | p :: P,w :: vs,i+1,m,nd,h1,h2,hk=>by
  show bindC kindOf ((p,w) :: P.zip vs) m x=_
  unfold bindC
  exact zag1 (i:=i) (zbu9.mp nd).2 (by simpa using h1) (by simpa using h2) hk
def zag2 (N:List Str) (vs:List V):St:=vs.map some++List.replicate (N.length - vs.length) none
def cxOf (CX:CXT) (P:Program) (w:World) (K:zbp7) (mg:Str->Option Value) (base:Heap) (N:List Str) (qual:Str) (scope:Scope) (f:Addr) (cd:Value) (A:Around) (outer:List Env) (s:Shared) (H:Hp) (E:XK):Cx where
 prog:=P
 w:=w
 K:=K
 mg:=mg
 base:=base
 A:=A.deeper (envOfC qual scope s.heap.objs.size f cd)
 N:=N
 s₀:=s
 H₀:=H
 env:=envOfC qual scope s.heap.objs.size f cd
 outer:=outer
 stack:=envOfC qual scope s.heap.objs.size f cd :: outer
 ex:=[]
 calm:=true
 fn:=fun _=>true
 pn:=[]
 xe:=fun e s'=>wpAny (model P w) (A.deeper (envOfC qual scope s.heap.objs.size f cd)) (leaving (envOfC qual scope s.heap.objs.size f cd) e) (fun _ s''=>CX outer H s E e s'') (fun e' s''=>CX outer H s E e' s'') s'
theorem zan2 {sc:Scope}{n:Nat}{x:Str}(h:sc.names.lookup x=some .cell):∃ c,(cellsFrom n sc.names []).lookup x=some c:=by
 have q:=PySem.W.cellsFrom_some sc.names n [] (.inl h)
 exact Option.isSome_iff_exists.mp q
theorem zau6 {CX:CXT}{P:Program}{w:World}{K:zbp7}{mg:Str->Option Value}{base:Heap}{N ps:List Str}{qual:Str}{scope:Scope}{f:Addr}{cd:Value}{A:Around}{outer:List Env}{s s1:Shared}{H:Hp}{E:XK}{us:List Value}{vs:List V}
  (S:zc8 N ps scope) (hd:A.handled=none) (e0:Env0 P w K mg base A outer s H) (hl:vs.length=ps.length) (r:Vals vs us)
  (x:InCallC s s.heap.objs.size (bindL (envOfC qual scope s.heap.objs.size f cd).kindOf (ps.zip us) fun _=>none) (cellsFrom (s.heap.objs.size+1) scope.names []) (bindC (envOfC qual scope s.heap.objs.size f cd).kindOf (ps.zip us) fun _=>none) s1) :
  Inv (cxOf CX P w K mg base N qual scope f cd A outer s H E) [] (zag2 N vs) H s1:=by
 have hpl:ps.length<=N.length:=by have:=congrArg List.length S.pre;rw[zbt0] at this;omega
 obtain⟨h1,tk,rfl,hk⟩:=x.done
 have noA:∀ b:Addr,b ∉ (cxOf CX P w K mg base N qual scope f cd A outer s H E).ex:=fun b z=>absurd (show b∈([]:List Addr) from z) (by simp)
 refine⟨⟨e0.mod,S.kind,rfl,rfl,zbq9 _,fun y z c h1 h2=>?_,fun y hy=>?_,fun y c _ h=>?_,fun _=>hd,Around.frames_deeper e0.frames,.inr ⟨rfl,rfl⟩,fun b z=>absurd z (noA b),e0.bs,e0.bsz,fun b _ _=>noA b,fun b z=>absurd z (noA b),e0.funs,e0.frf⟩,
  rfl,e0.bare,Un.kept hk,⟨_,x.toInCall.ns,fun i y v h1 h2 h3=>?_⟩,fun y c h=>⟨_,x.cell y c h⟩,e0.hok.fresh (zbq9 _),fun y c h=>?_,fun p hp=>absurd (show p∈([]:List (Addr×Obj)) from hp) (by simp),e0.hok.kept hk,?_⟩
 ·exact name_of_addr x.apart (PySem.mem_of_lookup h1) (PySem.mem_of_lookup h2)
 ·have hy:scope.names.lookup y=some .cell∨scope.names.lookup y=some .free:=hy
  rcases hy with hy|hy
  ·exact zan2 hy
  ·exact absurd rfl (S.nofree _ (PySem.mem_of_lookup hy))
 ·exact Nat.le_of_lt (x.above y c (PySem.mem_of_lookup h))
 ·have hi:i<vs.length:=by
   unfold zag2 at h2
   by_cases hi:i<vs.length
   ·exact hi
   ·rw[zbt5 (by simpa using hi)] at h2
    rw[List.getElem?_replicate] at h2
    split at h2<;>cases h2
  have ha:vs[i]?=some v:=by
   unfold zag2 at h2
   rw[zbt9 (by simpa using hi),zbq2] at h2
   cases e:vs[i]? with
   | none=>rw[e] at h2;cases h2
   | some a=>rw[e] at h2;cases h2;rfl
  obtain⟨u,hu,rv⟩:=r.get ha
  have hp:ps[i]?=some y:=by
   rw[← S.pre,List.getElem?_take_of_lt (by omega)];exact h1
  have ndP:ps.Nodup:=by rw[← S.pre];exact S.nd.sublist (List.take_sublist _ _)
  refine⟨u,rv,?_⟩
  rcases S.par y (zbq0 hp) with k|k
  ·exact .inl ⟨k,zad9 ndP hp hu k⟩
  ·obtain⟨c,e⟩:=zan2 (n:=s.heap.objs.size+1) k
   refine .inr ⟨.inl k,c,e,?_⟩
   have q:=x.cell y c e
   rw[zag1 ndP hp hu (by show scope.names.lookup y≠_;rw[k];decide)] at q
   exact q
 ·exact e0.hok.fresh (Nat.le_of_lt (x.above y c (PySem.mem_of_lookup h)))
 ·unfold zag2
  show _=N.length
  rw[zbp9,zbp5,List.length_replicate]
  omega
theorem fn_of {CX:CXT}{P:Program}{w:World}{K:zbp7}{mg:Str->Option Value}{base:Heap}{k:Nat}{f:Addr}{name qual:Str}{params:Arguments}{body:List Stmt}{scope:Scope}{dV kV doc pm cdv ct oc:Value}{an od:Option Addr}
  {osl:Array (Option Value)}{N ps:List Str}{sp:Sp}(lk:K.lookup f=some ⟨oc,od,.func (zbs6 name qual params body scope dV kV doc pm an cdv ct),osl⟩) (hcd:zbs2 K cdv qual=true) (S:zc8 N ps scope)
  (len:∀ vs H Q E,sp vs H Q E->vs.length=ps.length)
  (hbody:∀ (A:Around) (outer:List Env) (s:Shared) (H:Hp) (vs:List V) (Q:VK) (E:XK),Room k (A.deeper (envOfC qual scope s.heap.objs.size f cdv))->sp vs H Q E ->
   ∃ t,PSs (cxOf CX P w K mg base N qual scope f cdv A outer s H E) body t/\t { nx:=fun _ H'=>Q .non H',rt:=Q } (zag2 N vs) H) :
  FnOk P w K mg base CX (k+1) f (zbs6 name qual params body scope dV kV doc pm an cdv ct) ps sp:=by
 refine⟨len,fun A outer s H args us vs Q E hr e0 hb r hsp=>?_⟩
 have hl:=len _ _ _ _ hsp
 have KX:K.In s.heap:=e0.mod.kin.keeps fun b o e=>(e0.bs b o e).1
 have lim:s.heap.NoLimit:=e0.mod.nolimit.keeps fun b o e=>(e0.bs b o e).1
 have hkind:∀ y∈ps.zip us,scope.names.lookup y.1=some .local∨(scope.names.lookup y.1=some .cell/\((cellsFrom (s.heap.objs.size+1) scope.names []).lookup y.1).isSome=true):=fun ⟨n,v⟩ hy=>by
  rcases S.par n (List.of_mem_zip hy).1 with q|q
  ·exact .inl q
  ·exact .inr ⟨q,PySem.W.cellsFrom_some _ _ _ (.inl q)⟩
 refine codeAny_call_function hr.depth (KX _ _ lk) rfl S.co S.gen rfl (PySem.W.codeRec_of KX hcd) (hb _ _ _ _ ?_)
 refine wpAny_newFunctionEnv_cells S.kind hkind fun env he s1 x=>?_
 subst he
 refine⟨lim.keeps x.toInCall.keep,codeAny_func ?_⟩
 obtain⟨t,ht,hq⟩:=hbody A outer s H vs Q E (hr.deeper _) hsp
 have I:Inv (cxOf CX P w K mg base N qual scope f cdv A outer s H E) [] (zag2 N vs) H s1:=zau6 S hr.hd e0 hl r x
 refine wpAny_mono (ht [] s1 (zag2 N vs) H _ I hq) (fun fl s' hs=>?_) fun e s' hs=>hs
 have fin:∀ {σ':St}{H':Hp}{v:V}{u:Value},Inv (cxOf CX P w K mg base N qual scope f cdv A outer s H E) [] σ' H' s'->RelV v u->Q v H'->CE outer P w H s Q u s':=
  fun {σ' H' v u} J rv q=>⟨v,H',J.os,J.bare,J.base,J.hok,rv,q⟩
 cases fl with
 | ret u=>
  obtain⟨v,σ',H',J,rv,q⟩:=hs
  exact fin J rv q
 | next=>
  obtain⟨σ',H',J,q⟩:=hs
  exact fin (v:=V.non) (u:=Value.none) J rfl q
 | brk=>
  obtain⟨_,_,_,q⟩:=hs
  exact False.elim q
 | cont=>
  obtain⟨_,_,_,q⟩:=hs
  exact False.elim q
end L2
namespace L2
open PySem PySem.Spec PyProof.Rows
section
variable {X:Cx}{x:Str}{p pos:Pos}{e:Expr}{es:List Expr}{t:TA}{id T:String}{r:List V->Hp->VK->Prop}
def tCB (r:List V->Hp->VK->Prop) (t:TA):TE:=fun σ H Q=>t σ H fun vs H1=>r vs H1 Q
theorem zbf0 (hc:zl0 X (.builtin id) r) (hg:Gl X x) (hm:X.mg x=none) (hv:bootBuiltins x=some (.builtin id)) (ha:PA X (e :: es) t) (hn:x≠"__name__":=by decide) (hdb:(x==("__debug__":Str))=false:=by decide)
  (he:starEach (e :: es) X.env=(false,eval e X.env) :: starEach es X.env:=by rfl) (hpl:(backTo pos (starEach es X.env)).any (·.1)=false:=by rfl):PE X (.Call (.Name x p) (e :: es) [] pos) (tCB r t):=by
 intro pins s σ H Q I h
 refine wpAny_Call_Name_kw (zx3 I hg hm hv ?_ hn hdb)
 exact PyProof.Rows.callWith_builtin1 (thn (ha pos pins s σ H _ I h) fun us s1 ⟨vs,H1,I1,r1,q1⟩=>hc pins s1 σ H1 vs us Q I1 r1 q1) he hpl
theorem zba3 (hc:zl0 X (.type T) r) (hg:Gl X x) (hm:X.mg x=none) (hv:bootBuiltins x=some (.type T)) (ha:PA X (e :: es) t) (hn:x≠"__name__":=by decide) (hdb:(x==("__debug__":Str))=false:=by decide)
  (he:starEach (e :: es) X.env=(false,eval e X.env) :: starEach es X.env:=by rfl) (hpl:(backTo pos (starEach es X.env)).any (·.1)=false:=by rfl):PE X (.Call (.Name x p) (e :: es) [] pos) (tCB r t):=by
 intro pins s σ H Q I h
 refine wpAny_Call_Name_kw (zx3 I hg hm hv ?_ hn hdb)
 exact PyProof.Rows.callWith_type1 (thn (ha pos pins s σ H _ I h) fun us s1 ⟨vs,H1,I1,r1,q1⟩=>hc pins s1 σ H1 vs us Q I1 r1 q1) he hpl
end
end L2
namespace HT
open PySem PyProof.Rows
section
open PySem.SeqAt
open PySem.AutoSeq1 (wpAny_loadPart')
open PySem.MeetsSeq PySem.MeetsSeq2 PySem.MeetsSeq3
end
section
variable {prog:Program}{w:World}{A:Around}{E:Value->Shared->Prop}{s:Shared}
def sIx (n d:Nat):Option Int->Nat
 | none=>d
 | some v=>if v<0 then (v+(n:Int)).toNat else min v.toNat n
theorem sIx_nat (n d k:Nat):sIx n d (some (k:Int))=min k n:=by
 show (if (k:Int)<0 then ((k:Int)+(n:Int)).toNat else min (k:Int).toNat n)=min k n
 rw[if_neg (by omega),Int.toNat_natCast]
theorem sIx_le (n d:Nat) (hd:d<=n) (o:Option Int):sIx n d o<=n:=by
 cases o with
 | none=>exact hd
 | some v=>
  show (if v<0 then (v+(n:Int)).toNat else min v.toNat n)<=n
  by_cases hv:v<0
  ·rw[if_pos hv];omega
  ·rw[if_neg hv];exact Nat.min_le_right _ _
theorem zay7 (v:Int) (n d:Nat):(if v<0 then max (v+(n:Int)) 0 else min v (n:Int))=((sIx n d (some v):Nat):Int):=by
 show (if v<0 then max (v+(n:Int)) 0 else min v (n:Int))=(((if v<0 then (v+(n:Int)).toNat else min v.toNat n):Nat):Int)
 by_cases hv:v<0
 ·simp only[if_pos hv];omega
 ·simp only[if_neg hv];omega
theorem zaq2 (lo hi:Option Int) (n:Nat):Builtin.Slice.sliceAdjust lo hi 1 (n:Int)=(((sIx n 0 lo:Nat):Int),((sIx n n hi:Nat):Int)):=by
 have h1:¬ ((1:Int)<0):=by omega
 unfold Builtin.Slice.sliceAdjust
 simp only[h1,if_false]
 refine Prod.ext ?_ ?_
 ·cases lo with
  | none=>rfl
  | some v=>exact zay7 v n 0
 ·cases hi with
  | none=>rfl
  | some v=>exact zay7 v n n
theorem zap3 (i j:Nat):Builtin.Slice.slicePlaces (i:Int) (j:Int) 1=j - i:=by
 unfold Builtin.Slice.slicePlaces
 have h1:(1:Int)>0:=by omega
 simp only[h1,if_true,Int.ediv_one]
 split<;>omega
theorem zz4 {v:Value}{o:Option Int}{Q:Option Int->Shared->Prop}(p:IsPart v o) (h:Q o s):wpAny (model prog w) A (Builtin.Slice.slicePartIndex v) Q E s:=by
 cases p with
 | none=>exact slicePart_none h
 | int i t=>exact slicePart_int h
theorem zu6 {sl:Addr}{vl vu:Value}{lo hi:Option Int}{n:Nat}{Q:Int×Int×Nat->Shared->Prop}(hs:s.heap.IsSliceOf sl vl vu .none) (pl:IsPart vl lo) (pu:IsPart vu hi)
  (h:Q (((sIx n 0 lo:Nat):Int),1,sIx n n hi - sIx n 0 lo) s):wpAny (model prog w) A (Builtin.Slice.sliceApplied (.ref sl) (pure (n:Int))) Q E s:=by
 obtain⟨os,hos,hcs,hds⟩:=id hs
 unfold Builtin.Slice.sliceApplied Builtin.Slice.sliceFields
 refine wpAny_bind (wpAny_bind (wpAny_field hos hds (x:=vl) rfl (wpAny_bind (wpAny_field hos hds (x:=vu) rfl (wpAny_bind (wpAny_field hos hds (x:=.none) rfl (wpAny_pure ?_)))))))
 refine wpAny_bind (slicePart_none ?_)
 show wpAny _ _ (if ((1:Int)==0)=true then _ else _) _ _ s
 rw[if_neg (by decide)]
 refine wpAny_bind (zz4 pl (wpAny_bind (zz4 pu (wpAny_bind (wpAny_pure ?_)))))
 show wpAny _ _ (match Builtin.Slice.sliceAdjust lo hi 1 (n:Int) with|(lo,hi)=>pure (lo,(1:Int),Builtin.Slice.slicePlaces lo hi 1)) _ _ s
 rw[zaq2 lo hi n]
 show wpAny _ _ (pure (((sIx n 0 lo:Nat):Int),(1:Int),Builtin.Slice.slicePlaces ((sIx n 0 lo:Nat):Int) ((sIx n n hi:Nat):Int) 1)) _ _ s
 rw[zap3]
 exact wpAny_pure h
theorem zbc6 (xs:Array Value) (i k:Nat):((List.range k).filterMap fun (m:Nat)=>xs[((i:Int)+(m:Int)*1).toNat]?).toArray=((xs.toList.drop i).take k).toArray:=by
 have e:(fun (m:Nat)=>xs[((i:Int)+(m:Int)*1).toNat]?)=fun m=>xs[i+m]?:=by
  funext m
  have:((i:Int)+(m:Int)*1).toNat=i+m:=by omega
  rw[this]
 rw[e]
 have:=pick_run xs i k
 rw[List.filterMap_map] at this
 have e2:((fun x=>xs[x]?)∘fun x=>i+x)=fun m=>xs[i+m]?:=rfl
 rw[e2] at this
 rw[this]
theorem getItem_tuple_cut {t sl:Addr}{items:Array Value}{vl vu:Value}{lo hi:Option Int}{Q:Value->Shared->Prop}(ht:IsTup s.heap t items) (hs:s.heap.IsSliceOf sl vl vu .none) (pl:IsPart vl lo) (pu:IsPart vu hi)
  (hw:¬ (sIx items.size 0 lo=0/\sIx items.size items.size hi=items.size))
  (h:Q (.ref s.heap.objs.size) { s with heap:=s.heap.push { cls:=.type "tuple",data:=.seq ((items.toList.drop (sIx items.size 0 lo)).take (sIx items.size items.size hi - sIx items.size 0 lo)).toArray } })
  (hsz:items.size<=sizeLine):wpAny (model prog w) A (getItem (.ref t) (.ref sl)) Q E s:=by
 have htake:sizeOk (.seq ((items.toList.drop (sIx items.size 0 lo)).take (sIx items.size items.size hi - sIx items.size 0 lo)).toArray):=by
  show ((items.toList.drop (sIx items.size 0 lo)).take (sIx items.size items.size hi - sIx items.size 0 lo)).toArray.size<=sizeLine
  rw[zbq3,zbt0,zbu1,Array.length_toList]
  omega
 have hj:sIx items.size items.size hi<=items.size:=sIx_le _ _ (zbq9 _) hi
 obtain⟨os,hos,hcs,hds⟩:=id hs
 have hTs:s.TypeIs (.ref sl) "slice":=⟨os,hos,hcs⟩
 unfold getItem
 try with_reducible refine wpAny_holding ?_
 first|refine wpAny_bind (wpAny_pure ?_)|skip
 refine wpAny_bind (wpAny_sequenceKey ht.typeIs (by decide) ?_)
 refine wpAny_bind (wpAny_callSpecial?_slot (name:=Str.ofString "__getitem__") ht.typeIs PyProof.Rows.slot_tuple_getitem
  (wpAny_call_entry PyProof.Rows.slot_tuple_getitem ht.typeIs entry_tuple_getitem ?_ (args_tuple_getitem _ _)))
 show wpAny _ _ (Builtin.Tuple.tupleItemsOf (.ref t) >>= _) _ _ s
 refine wpAny_bind (tupleItemsOf_ ht ?_)
 refine wpAny_bind (wpAny_typeOf hTs ?_)
 rw[if_pos (by decide)]
 refine wpAny_bind (zu6 hs pl pu ?_)
 have hno:¬ ((((sIx items.size 0 lo:Nat):Int)==0&&(1:Int)==1&&(sIx items.size items.size hi - sIx items.size 0 lo)==items.size)=true):=by
  intro q
  rw[zbr3,zbr3] at q
  have q1:((sIx items.size 0 lo:Nat):Int)=0:=eq_of_beq q.1.1
  have q2:sIx items.size items.size hi - sIx items.size 0 lo=items.size:=eq_of_beq q.2
  exact hw ⟨by omega,by omega⟩
 show wpAny _ _ (if (((sIx items.size 0 lo:Nat):Int)==0&&(1:Int)==1&&(sIx items.size items.size hi - sIx items.size 0 lo)==items.size)=true then _ else _) _ _ s
 rw[if_neg hno,zbc6]
 first
  | exact wpAny_bind (m:=Builtin.Tuple.tupleExact _) (wpAny_newObj_type (wpAny_pure ⟨_,rfl,wpAny_pure h⟩) htake)
  | exact wpAny_bind (m:=Builtin.Tuple.tupleExact _) (wpAny_newObj_type (wpAny_bind (wpAny_pure (wpAny_pure ⟨_,rfl,wpAny_pure h⟩))) htake)
  | exact wpAny_bind (wpAny_bind (m:=Builtin.Tuple.tupleExact _) (wpAny_newObj_type (wpAny_pure (wpAny_pure ⟨_,rfl,wpAny_pure h⟩)) htake))
  | exact wpAny_bind (wpAny_bind (m:=Builtin.Tuple.tupleExact _) (wpAny_newObj_type (wpAny_pure ⟨_,rfl,wpAny_pure h⟩) htake))
end
end HT
namespace L2
open PySem PySem.Spec PyProof.Rows
abbrev TO:=St->Hp->(Option Int->Hp->Prop)->Prop
def PO (X:Cx) (e:Option Expr) (t:TO):Prop:=
 ∀ (pins:List (Addr×Obj)) (s:Shared) (σ:St) (H:Hp) (Q:Option Int->Hp->Prop),Inv X pins σ H s->t σ H Q ->
  wpAny (model X.prog X.w) X.A (evalPart e X.env) (fun u s'=>∃ o H',Inv X pins σ H' s'/\IsPart u o/\Q o H') X.xe s
def zbl2:TO:=fun _ H Q=>Q none H
theorem zs8 {ns:List Int}:∀ {us:List Value},Vals (ns.map V.int) us->IntsAre us ns:=by
 induction ns with
 | nil=>intro us r;rw[List.map_nil] at r;cases r;exact .nil
 | cons n ns ih=>
  intro us r
  rw[zbt4] at r
  cases r with
  | cons r1 r2=>
   obtain⟨t,e⟩:=r1
   subst e
   exact .cons n t (ih r2)
section
variable {X:Cx}{e:Expr}{te:TE}{lo hi:Option Expr}{tl th:TO}{pos p2:Pos}
theorem zd2:PO X none zbl2:=by
 intro pins s σ H Q I h
 rw[evalPart_none]
 exact wpAny_pure ⟨none,H,I,.none,h⟩
def SlR (X:Cx) (r:V->Option Int->Option Int->Hp->VK->Prop):Prop:=
 ∀ (pins:List (Addr×Obj)) (s:Shared) (σ:St) (H:Hp) (x:V) (v vl vu:Value) (lo hi:Option Int) (sl:Addr) (Q:VK),Inv X pins σ H s->RelV x v->s.heap.IsSliceOf sl vl vu .none->IsPart vl lo->IsPart vu hi->r x lo hi H Q ->
  ∃ T id,typeLookup (.type T) "__getitem__"=pure (some (.builtin id))/\s.TypeIs v T/\wpAny (model X.prog X.w) X.A (getItem v (.ref sl)) (EP X pins σ Q) X.xe s
def tSl (r:V->Option Int->Option Int->Hp->VK->Prop) (te:TE) (tl th:TO):TE:=fun σ H Q=>te σ H fun x H1=>tl σ H1 fun l H2=>th σ H2 fun u H3=>r x l u H3 Q
theorem zb4 {r:V->Option Int->Option Int->Hp->VK->Prop}(hr:SlR X r) (he:PE X e te) (hl:PO X lo tl) (hu:PO X hi th):PE X (.Subscript e (.Slice lo hi none p2) pos) (tSl r te tl th):=by
 intro pins s σ H Q I h
 refine Subscript_ (thn (he pins s σ H _ I h) fun v s1 ⟨x,H1,I1,r1,q1⟩=>?_)
 refine wpAny_Slice (thn (hl pins s1 σ H1 _ I1 q1) fun vl s2 ⟨l,H2,I2,pl,q2⟩=>thn (hu pins s2 σ H2 _ I2 q2) fun vu s3 ⟨u,H3,I3,pu,q3⟩=>?_)
 rw[evalPart_none]
 refine wpAny_pure ?_
 have I4:Inv X pins σ H3 { s3 with heap:=s3.heap.push { cls:=.type "slice",data:=.fields #[vl,vu,.none] } }:=I3.kept (t':=s3.toks) fun b ob q=>zbq1 _ q
 obtain⟨T,id,hT,ht,hg⟩:=hr pins { s3 with heap:=s3.heap.push { cls:=.type "slice",data:=.fields #[vl,vu,.none] } } σ H3 x v vl vu l u s3.heap.objs.size Q I4 r1 (Heap.IsSliceOf.new ..) pl pu q3
 show wpAny (model X.prog X.w) X.A (subscriptTail e (.Slice lo hi none p2) v (.ref s3.heap.objs.size)) (EP X pins σ Q) X.xe { s3 with heap:=s3.heap.push { cls:=.type "slice",data:=.fields #[vl,vu,.none] } }
 exact tail_any (ops:=[.ref s3.heap.objs.size,v]) ht hT hg (by with_unfolding_all rfl)
def cutV (xs:List V) (lo hi:Option Int):List V:=(xs.drop (HT.sIx xs.length 0 lo)).take (HT.sIx xs.length xs.length hi - HT.sIx xs.length 0 lo)
theorem zx5 (xs:List V) (lo hi:Option Int):(cutV xs lo hi).length<=xs.length:=by
 unfold cutV
 rw[zbt0,zbu1]
 omega
def rSlT (K:zbp7):V->Option Int->Option Int->Hp->VK->Prop:=fun x lo hi H Q=>∃ a xs,x=.ref a/\SqT K H a xs /\
 ¬ (HT.sIx xs.length 0 lo=0/\HT.sIx xs.length xs.length hi=xs.length)/\∀ p,H p=none->Q (.ref p) (upd H p (.tup (cutV xs lo hi)))
theorem sl_tup:SlR X (rSlT X.K):=by
 intro pins s σ H x v vl vu lo hi sl Q I rx hs pl pu h
 obtain⟨a,xs,rfl,hx,hw,q⟩:=h
 cases rx
 obtain⟨its,r,ht,hz⟩:=I.tuple hx
 have hlen:its.toArray.size=xs.length:=by rw[zbq3];exact r.length.symm
 refine⟨"tuple",_,PyProof.Rows.slot_tuple_getitem.lookup,ht.typeIs,?_⟩
 refine HT.getItem_tuple_cut ht hs pl pu (by rw[hlen];exact hw) ?_ (by rw[hlen];exact hz)
 rw[hlen]
 refine⟨.ref s.heap.objs.size,_,I.laid (t':=s.toks) (o:=.tup (cutV xs lo hi)) (fun b ob q=>zbq1 _ q) (zbq9 _) ?_,rfl,q _ (I.hok.fresh (zbq9 _))⟩
 exact⟨zbt7 (zx5 xs lo hi) hz,_,(r.drop (HT.sIx xs.length 0 lo)).take (HT.sIx xs.length xs.length hi - HT.sIx xs.length 0 lo),IsTup.new _ _⟩
end
end L2
namespace L2
open PySem PySem.Spec PyProof.Rows
def ixN (n:Nat) (i:Int):Option Nat:=if 0<=i then (if i<n then some i.toNat else none) else if -(n:Int)<=i then some (i+n).toNat else none
def atI {α:Type}(xs:List α) (i:Int):Option α:=(ixN xs.length i).bind fun j=>xs[j]?
theorem zay0 {n:Nat}{i:Int}{j:Nat}(h:ixN n i=some j):seqIndex? i n=some j/\j<n/\-(n:Int)<=i/\i<n:=by
 unfold ixN at h
 by_cases h0:0<=i
 ·rw[if_pos h0] at h
  by_cases h1:i<n
  ·rw[if_pos h1] at h
   have e:i.toNat=j:=Option.some.inj h
   exact⟨by rw[seqIndex_of h0 h1,e],by omega,by omega,h1⟩
  ·rw[if_neg h1] at h;cases h
 ·rw[if_neg h0] at h
  by_cases h1:-(n:Int)<=i
  ·rw[if_pos h1] at h
   have e:(i+n).toNat=j:=Option.some.inj h
   exact⟨by rw[seqIndex_neg (by omega) h1,e],by omega,h1,by omega⟩
  ·rw[if_neg h1] at h;cases h
theorem zaj0 {α:Type}{xs:List α}{i:Int}{v:α}(h:atI xs i=some v):∃ j,seqIndex? i xs.length=some j/\xs[j]?=some v/\j<xs.length/\-(xs.length:Int)<=i/\i<xs.length:=by
 unfold atI at h
 cases e:ixN xs.length i with
 | none=>rw[e] at h;cases h
 | some j=>
  rw[e] at h
  obtain⟨h1,h2,h3,h4⟩:=zay0 e
  exact⟨j,h1,h,h2,h3,h4⟩
theorem zm2 {α:Type}{xs:List α}{j:Nat}{v:α}(h:xs[j]?=some v):atI xs (j:Int)=some v:=by
 have hj:j<xs.length:=(zbp8.mp h).1
 have e:ixN xs.length (j:Int)=some j:=by
  unfold ixN
  rw[if_pos (by omega),if_pos (by omega)];simp
 unfold atI;rw[e];exact h
def zac6 (b:Expr):Prop:=∀ o i,subscripted b false o i=operate [o,i] (getItem o i)
def IxR (X:Cx) (r:R2):Prop:=
 ∀ (value slice:Expr) (pins:List (Addr×Obj)) (s:Shared) (σ:St) (H:Hp) (x y:V) (v u:Value) (Q:VK),Inv X pins σ H s->RelV x v->RelV y u->r x y H Q ->
  subscripted slice false v u=operate [v,u] (getItem v u)->wpAny (model X.prog X.w) X.A (subscriptTail value slice v u) (EP X pins σ Q) X.xe s
def MtR (X:Cx) (id:String) (r:V->List V->Hp->VK->Prop):Prop:=
 ∀ (pins:List (Addr×Obj)) (s:Shared) (σ:St) (H:Hp) (x:V) (xs:List V) (v:Value) (us:List Value) (Q:VK),Inv X pins σ H s->RelV x v->Vals xs us->r x xs H Q ->
  wpAny (model X.prog X.w) X.A (call (.builtin id) (v :: us)) (EP X pins σ Q) X.xe s
section
variable {X:Cx}{a b:Expr}{ta tb:TE}{pos:Pos}
theorem pe_ix {r:R2}(hr:IxR X r) (ha:PE X a ta) (hb:PE X b tb) (hs:zac6 b):PE X (.Subscript a b pos) (tOp r ta tb):=by
 intro pins s σ H Q I h
 exact Subscript_ (binT ha hb I h fun v u s2 x y H2 I2 rx ry q=>hr a b pins s2 σ H2 x y v u Q I2 rx ry q (hs _ _))
def rIxL (K:zbp7):R2:=fun x y H Q=>∃ p xs i v,x=.ref p/\y=.int i/\SqL K H p xs/\atI xs i=some v/\Q v H
def rIxT (K:zbp7):R2:=fun x y H Q=>∃ p xs i v,x=.ref p/\y=.int i/\SqT K H p xs/\atI xs i=some v/\Q v H
def rIxS:R2:=fun x y H Q=>∃ z i c,x=.str z/\y=.int i/\z.length<=sizeLine/\atI z.cps.toList i=some c/\Q (.str ⟨#[c]⟩) H
theorem zbk3:IxR X (rIxL X.K):=by
 intro value slice pins s σ H x y v u Q I rx ry h hs
 obtain⟨p,xs,i,z,rfl,rfl,hq,he,q⟩:=h
 cases rx
 obtain⟨t,rfl⟩:=ry
 obtain⟨its,r,pl,hz⟩:=I.list hq
 obtain⟨j,h1,h2,h3,h4,h5⟩:=zaj0 he
 obtain⟨w,ew,rw'⟩:=r.get h2
 have hl:=r.length
 have hn:=zw2
 have fin:EP X pins σ Q w s:=⟨z,H,I,rw',q⟩
 by_cases h0:0<=i
 ·have hj:i.toNat=j:=by
   rw[seqIndex_of h0 h5] at h1
   exact Option.some.inj h1
  exact item_listR pl.isList h0 (by omega) (by rw[hj];simpa using ew) fin hs
 ·have hj:(i+(its.toArray.size:Int)).toNat=j:=by
   rw[seqIndex_neg (by omega) h4] at h1
   rw[zbq3,← hl]
   exact Option.some.inj h1
  exact subscriptTail_builtinR (x:=w) pl.isList.typeIs slot_list_getitem.lookup
   (wpAny_getItem_list_neg (Q:=fun r s'=>r=w/\EP X pins σ Q r s') pl.isList (by omega) (by rw[zbq3]<;>omega) (by omega) (by rw[hj];simpa using ew) ⟨rfl,fin⟩) hs
theorem ix_tup:IxR X (rIxT X.K):=by
 intro value slice pins s σ H x y v u Q I rx ry h hs
 obtain⟨p,xs,i,z,rfl,rfl,hq,he,q⟩:=h
 cases rx
 obtain⟨t,rfl⟩:=ry
 obtain⟨its,r,pl,hz⟩:=I.tuple hq
 obtain⟨j,h1,h2,h3,h4,h5⟩:=zaj0 he
 obtain⟨w,ew,rw'⟩:=r.get h2
 have hl:=r.length
 have hn:=zw2
 have fin:EP X pins σ Q w s:=⟨z,H,I,rw',q⟩
 exact subscriptTail_builtinR (x:=w) pl.typeIs slot_tuple_getitem.lookup
  (getItem_tuple (j:=j) (Q:=fun r s'=>r=w/\EP X pins σ Q r s') pl (by omega) (by omega) (by rw[zbq3,← hl];exact h1) (by simpa using ew) ⟨rfl,fin⟩) hs
theorem ix_str:IxR X rIxS:=by
 intro value slice pins s σ H x y v u Q I rx ry h hs
 obtain⟨z,i,c,rfl,rfl,hz,he,q⟩:=h
 obtain⟨t,rfl⟩:=rx
 obtain⟨t',rfl⟩:=ry
 obtain⟨j,h1,h2,h3,h4,h5⟩:=zaj0 he
 have hl:z.cps.toList.length=z.length:=by simp[Str.length]
 rw[hl] at h1 h4 h5
 have hn:=zw2
 exact tail_any (typeIs_str s z t) slot_str_getitem.lookup (getItem_str (c:=c) (by
  have e1:decide (i < -(2 ^ 63:Int))=false:=decide_eq_false (by omega)
  have e2:decide (i≥2 ^ 63)=false:=decide_eq_false (by omega)
  rw[e1,e2,Bool.or_false]) (by rw[h1];simpa using h2) ⟨.str ⟨#[c]⟩,H,I.tok _,⟨_,rfl⟩,q⟩) hs
theorem zaq0 (its:List Value) (n j:Nat) (u:Value):Obj.mapSeq (·.setIfInBounds j u) { cls:=.type "list",data:=.seq its.toArray n }={ cls:=.type "list",data:=.seq (its.set j u).toArray n }:=by
 simp[Obj.mapSeq]
theorem Inv.lst {pins:List (Addr×Obj)}{σ:St}{H:Hp}{s:Shared}{p:Addr}{xs:List V}(I:Inv X pins σ H s) (h:H p=some (.lst xs)) :
  ∃ (its:List Value) (n:Nat),Vals xs its/\s.heap.get? p=some { cls:=.type "list",data:=.seq its.toArray n }/\xs.length<=sizeLine:=by
 obtain⟨z,its,n,r,e⟩:=I.hok p _ h
 exact⟨its,n,r,e,z⟩
theorem Inv.lstUpd {pins:List (Addr×Obj)}{σ:St}{H:Hp}{s:Shared}{p:Addr}{xs ys:List V}{its its':List Value}{n n':Nat}{f:Obj->Obj}(I:Inv X pins σ H s) (h:H p=some (.lst xs))
  (ho:s.heap.get? p=some { cls:=.type "list",data:=.seq its.toArray n }) (hf:f { cls:=.type "list",data:=.seq its.toArray n }={ cls:=.type "list",data:=.seq its'.toArray n' }) (r:Vals ys its') (hz:ys.length<=sizeLine) (t:Nat) :
  Inv X pins σ (upd H p (.lst ys)) { s with heap:=s.heap.update p f,toks:=t }:=by
 have e:(s.heap.update p f).get? p=some { cls:=.type "list",data:=.seq its'.toArray n' }:=by
  rw[Heap.get?_update_self f ho (by rw[hf]<;>rfl),hf]
 refine I.write (x:=p) (e:=p) (by rw[h];trivial) (.inl rfl) (fun b u hb q=>(Heap.get?_update_other _ _ (Ne.symm hb)).trans q) ⟨_,e⟩ ?_
 exact⟨hz,its',n',r,e⟩
def rSetL:V->V->V->Hp->(Hp->Prop)->Prop:=fun o i v H Q=>∃ p xs k j,o=.ref p/\i=.int k/\H p=some (.lst xs)/\ixN xs.length k=some j/\Q (upd H p (.lst (xs.set j v)))
theorem zbc4:PSet X rSetL:=by
 intro pins s σ H o i v ov iv u Q I ro ri rv h
 obtain⟨p,xs,k,j,rfl,rfl,hp,hj,q⟩:=h
 cases ro
 obtain⟨t,rfl⟩:=ri
 obtain⟨its,n,r,ho,hz⟩:=I.lst hp
 obtain⟨h1,h2,h3,h4⟩:=zay0 hj
 have hl:=r.length
 have hn:=zw2
 have I':Inv X pins σ (upd H p (.lst (xs.set j v))) { s with heap:=s.heap.update p (Obj.mapSeq (·.setIfInBounds j u)) }:=
  I.lstUpd hp ho (zaq0 its n j u) (r.set rv j) (by rw[List.length_set];exact hz) s.toks
 by_cases h0:0<=k
 ·have hk:k.toNat=j:=by
   rw[seqIndex_of h0 h4] at h1
   exact Option.some.inj h1
  exact PySem.W.ki_setAt ho h0 (by omega) (by rw[zbq3,← hl];exact h4) (by rw[hk];exact⟨_,I',q⟩)
 ·have hk:(k+(its.toArray.size:Int)).toNat=j:=by
   rw[seqIndex_neg (by omega) h3] at h1
   rw[zbq3,← hl]
   exact Option.some.inj h1
  exact PySem.W.ki_setBack ho (by omega) (by rw[zbq3,← hl];exact h3) (by omega) (by rw[hk];exact⟨_,I',q⟩)
theorem zag4 (lo hi:Option Int) (n:Nat):(sliceBounds lo hi none n).1=((HT.sIx n 0 lo:Nat):Int)/\(sliceBounds lo hi none n).2.1=((HT.sIx n n hi:Nat):Int)/\(sliceBounds lo hi none n).2.2=1:=by
 refine⟨?_,?_,rfl⟩
 ·cases lo with
  | none=>simp[sliceBounds,HT.sIx]
  | some i=>
   simp only[sliceBounds,HT.sIx,Option.getD_none,show (1:Int)>0 by decide,if_true]
   by_cases h:i<0
   ·simp only[h,if_true]<;>omega
   ·simp only[h,if_false]<;>omega
 ·cases hi with
  | none=>simp[sliceBounds,HT.sIx]
  | some i=>
   simp only[sliceBounds,HT.sIx,Option.getD_none,show (1:Int)>0 by decide,if_true]
   by_cases h:i<0
   ·simp only[h,if_true]<;>omega
   ·simp only[h,if_false]<;>omega
theorem zab6 (its:List Value) (lo hi:Option Int):slicePick its.toArray lo hi none=((its.drop (HT.sIx its.length 0 lo)).take (HT.sIx its.length its.length hi - HT.sIx its.length 0 lo)).toArray:=by
 obtain⟨h1,h2,h3⟩:=zag4 lo hi its.toArray.size
 unfold slicePick
 rw[h1,h2,h3]
 simp only[sliceRange_one,pick_run,zbq3]<;>rfl
def rSlL (K:zbp7):V->Option Int->Option Int->Hp->VK->Prop:=fun x lo hi H Q=>∃ a xs,x=.ref a/\SqL K H a xs/\∀ p,H p=none->Q (.ref p) (upd H p (.lst (cutV xs lo hi)))
theorem zbk2:SlR X (rSlL X.K):=by
 intro pins s σ H x v vl vu lo hi sl Q I rx hs pl pu h
 obtain⟨a,xs,rfl,hx,q⟩:=h
 cases rx
 obtain⟨its,r,ht,hz⟩:=I.list hx
 have hlen:=r.length
 refine⟨"list",_,slot_list_getitem.lookup,ht.isList.typeIs,?_⟩
 refine wpAny_getItem_list_slice ht.isList hs pl pu .none (by simp) ?_ (by rw[zbq3]<;>omega)
 rw[zab6,← hlen]
 refine⟨.ref s.heap.objs.size,_,I.laid (t':=s.toks) (o:=.lst (cutV xs lo hi)) (fun b ob q=>zbq1 _ q) (zbq9 _) ?_,rfl,q _ (I.hok.fresh (zbq9 _))⟩
 exact⟨zbt7 (zx5 xs lo hi) hz,_,0,(r.drop (HT.sIx xs.length 0 lo)).take (HT.sIx xs.length xs.length hi - HT.sIx xs.length 0 lo),zbr8 _ rfl⟩
def zba7:V->Bool
 | .non=>true
 | .bl _=>true
 | .int _=>true
 | .str _=>true
 | _=>false
def eqV:V->V->Bool
 | .non,.non=>true
 | .bl a,.bl b=>a==b
 | .bl a,.int b=>(if a then 1 else 0)==b
 | .int a,.bl b=>a==(if b then 1 else 0)
 | .int a,.int b=>a==b
 | .str a,.str b=>a==b
 | _,_=>false
theorem zbh3 {A:Around}{s:Shared}{y x:V}{u v:Value}(ry:RelV y u) (rx:RelV x v) (fy:zba7 y=true) (fx:zba7 x=true):SeqAt.EqAt A s u v (eqV y x):=by
 cases y with
 | non=>
  cases ry
  cases x with
  | non=>cases rx;exact SeqAt.EqAt.same _
  | bl b=>cases rx;exact SeqAt.EqAt.none_bool b
  | int b=>obtain⟨t,rfl⟩:=rx;exact SeqAt.EqAt.none_int b t
  | str b=>obtain⟨t,rfl⟩:=rx;exact SeqAt.EqAt.none_str b t
  | _=>exact absurd (show false=true from fx) zbq6
 | bl a=>
  cases ry
  cases x with
  | non=>cases rx;exact SeqAt.EqAt.bool_none a
  | bl b=>cases rx;exact SeqAt.EqAt.bool_bool a b
  | int b=>obtain⟨t,rfl⟩:=rx;exact SeqAt.EqAt.bool_int a b t
  | str b=>obtain⟨t,rfl⟩:=rx;exact SeqAt.EqAt.bool_str a b t
  | _=>exact absurd (show false=true from fx) zbq6
 | int a=>
  obtain⟨t',rfl⟩:=ry
  cases x with
  | non=>cases rx;exact SeqAt.EqAt.int_none a t'
  | bl b=>cases rx;exact SeqAt.EqAt.int_bool a t' b
  | int b=>obtain⟨t,rfl⟩:=rx;exact SeqAt.EqAt.int_int a t' b t
  | str b=>obtain⟨t,rfl⟩:=rx;exact SeqAt.EqAt.int_str a t' b t
  | _=>exact absurd (show false=true from fx) zbq6
 | str a=>
  obtain⟨t',rfl⟩:=ry
  cases x with
  | non=>cases rx;exact SeqAt.EqAt.str_none a t'
  | bl b=>cases rx;exact SeqAt.EqAt.str_bool a t' b
  | int b=>obtain⟨t,rfl⟩:=rx;exact SeqAt.EqAt.str_int a t' b t
  | str b=>obtain⟨t,rfl⟩:=rx;exact SeqAt.EqAt.str_str a t' b t
  | _=>exact absurd (show false=true from fx) zbq6
 | _=>exact absurd (show false=true from fy) zbq6
theorem zad7:zl0 X (.builtin "len") (fun xs H Q=>∃ p ys,xs=[.ref p]/\(SqL X.K H p ys∨SqT X.K H p ys)/\Q (.int ys.length) H):=by
 intro pins s σ H xs us Q I r h
 obtain⟨p,ys,rfl,hq,q⟩:=h
 obtain⟨u,rfl,rx⟩:=zy4 r
 cases rx
 have hn:=zw2
 rcases hq with hq|hq
 ·obtain⟨its,r',pl,hz⟩:=I.list hq
  have hlen:=r'.length
  exact Calls.call_len_list pl.isList (by simp only[zbq3]<;>omega) ⟨.int ys.length,H,I.tok _,⟨s.toks+1,by rw[zbq3,hlen]⟩,q⟩
 ·obtain⟨its,r',pl,hz⟩:=I.tuple hq
  have hlen:=r'.length
  exact len_tuple pl (by simp only[zbq3]<;>omega) ⟨.int ys.length,H,I.tok _,⟨s.toks+1,by rw[zbq3,hlen]⟩,q⟩
theorem zah7:zl0 X (.builtin "len") (fun xs H Q=>∃ z,xs=[.str z]/\z.length<=sizeLine/\Q (.int z.length) H):=by
 intro pins s σ H xs us Q I r h
 obtain⟨z,rfl,hz,q⟩:=h
 obtain⟨u,rfl,t,rfl⟩:=zy4 r
 have hn:=zw2
 exact len_str (by omega) ⟨.int z.length,H,I.tok _,⟨_,rfl⟩,q⟩
theorem zae9:zl0 X (.type "list") (fun xs H Q=>∃ p ys,xs=[.ref p]/\(SqL X.K H p ys∨SqT X.K H p ys)/\∀ l,H l=none->Q (.ref l) (upd H l (.lst ys))):=by
 intro pins s σ H xs us Q I r h
 obtain⟨p,ys,rfl,hq,q⟩:=h
 obtain⟨u,rfl,rx⟩:=zy4 r
 cases rx
 have fin:∀ (its:List Value),Vals ys its->ys.length<=sizeLine->∀ (h':Heap) (c':Nat),(∀ b o',s.heap.get? b=some o'->h'.get? b=some o') ->
   h'.get? s.heap.objs.size=some { cls:=.type "list",dict:=none,data:=.seq its.toArray c',slots:=#[] }->EP X pins σ Q (.ref s.heap.objs.size) { s with heap:=h' }:=fun its r' hz h' c' kp e=>
  ⟨.ref s.heap.objs.size,_,I.laid (t':=s.toks) kp (zbq9 _) (show zg6 X.prog X.w _ h' _ (.lst ys) from ⟨hz,its,c',r',e⟩),rfl,q _ (I.hok.fresh (zbq9 _))⟩
 rcases hq with hq|hq
 ·obtain⟨its,r',pl,hz⟩:=I.list hq
  have hlen:=r'.length
  obtain⟨o,ho,hc,n,hd⟩:=pl.isList
  exact call_list_seq p (.inl rfl) ho hc hd (fun h' c' kp e=>fin its r' hz h' c' kp e) (by simp only[zbq3]<;>omega)
 ·obtain⟨its,r',pl,hz⟩:=I.tuple hq
  have hlen:=r'.length
  obtain⟨o,ho,hc,n,hd⟩:=pl
  exact call_list_seq p (.inr rfl) ho hc hd (fun h' c' kp e=>fin its r' hz h' c' kp e) (by simp only[zbq3]<;>omega)
theorem zac2:zl0 X (.type "tuple") (fun xs H Q=>∃ p ys,xs=[.ref p]/\((SqL X.K H p ys/\∀ l,H l=none->Q (.ref l) (upd H l (.tup ys)))∨(SqT X.K H p ys/\Q (.ref p) H))):=by
 intro pins s σ H xs us Q I r h
 obtain⟨p,ys,rfl,h⟩:=h
 obtain⟨u,rfl,rx⟩:=zy4 r
 cases rx
 rcases h with ⟨hq,q⟩|⟨hq,q⟩
 ·obtain⟨its,r',pl,hz⟩:=I.list hq
  have hlen:=r'.length
  refine call_tuple_list pl.isList (fun h' kp=>?_) (by simp only[zbq3]<;>omega)
  have I1:Inv X pins σ H { s with heap:=h' }:=I.kept (t':=s.toks) kp
  have I2:Inv X pins σ (upd H h'.objs.size (.tup ys)) { s with heap:=h'.push { cls:=.type "tuple",data:=.seq its.toArray } }:=
   I1.laid (t':=s.toks) (fun b o e=>zbq1 _ e) (zbq9 _) (show zg6 X.prog X.w _ _ _ (.tup ys) from ⟨hz,its,r',IsTup.new _ _⟩)
  exact⟨.ref h'.objs.size,_,I2,rfl,q _ (I1.hok.fresh (zbq9 _))⟩
 ·obtain⟨its,r',pl,hz⟩:=I.tuple hq
  exact call_tuple_same pl ⟨.ref p,H,I,rfl,q⟩
def tyV (K:zbp7) (T:String) (x:V) (H:Hp):Prop:=match x with
 | .str _=>T="str"
 | .int _=>T="int"
 | .ref p=>(T="list"/\∃ xs,SqL K H p xs)∨(T="tuple"/\∃ o,K.lookup p=some o/\o.cls=.type "tuple"/\o.dict=none) ∨
   (T="dict"/\((∃ kvs,H p=some (.dK kvs))∨∃ kvs,H p=some (.dT kvs)))∨(T="set"/\∃ S n,H p=some (.set S n))
 | _=>False
theorem tyV_is {pins:List (Addr×Obj)}{σ:St}{H:Hp}{s:Shared}{T:String}{x:V}{v:Value}(I:Inv X pins σ H s) (r:RelV x v) (ty:tyV X.K T x H) :
  s.TypeIs v T/\∀ a,v=.ref a->∃ ob,s.heap.get? a=some ob/\ob.dict=none:=by
 cases x with
 | str z=>
  obtain⟨t,rfl⟩:=r
  cases (show T="str" from ty)
  exact⟨typeIs_str s z t,fun _ e=>nomatch e⟩
 | int i=>
  obtain⟨t,rfl⟩:=r
  cases (show T="int" from ty)
  exact⟨typeIs_int s i t,fun _ e=>nomatch e⟩
 | ref p=>
  cases r
  rcases ty with ⟨rfl,xs,hq⟩|⟨rfl,o,hk,hc,hd⟩|⟨rfl,hk⟩|⟨rfl,S,n,hk⟩
  ·obtain⟨its,_,pl,_⟩:=I.list hq
   refine⟨pl.isList.typeIs,fun a e=>?_⟩
   cases e
   obtain⟨o,n,e,c,hd,_⟩:=pl
   exact⟨o,e,hd⟩
  ·refine⟨⟨o,I.kIn p o hk,hc⟩,fun a e=>?_⟩
   cases e
   exact⟨o,I.kIn _ o hk,hd⟩
  ·have z:∃ o,s.heap.get? p=some o/\o.ExactDict:=by
    rcases hk with ⟨kvs,hk⟩|⟨kvs,hk⟩
    ·obtain⟨_,_,_,_,o,_,_,e,ex,_⟩:=I.hok p _ hk
     exact⟨o,e,ex⟩
    ·obtain⟨_,_,_,_,o,_,_,e,ex,_⟩:=I.hok p _ hk
     exact⟨o,e,ex⟩
   obtain⟨o,e,ex⟩:=z
   refine⟨⟨o,e,ex.1⟩,fun a e2=>?_⟩
   cases e2
   exact⟨o,e,ex.2.1⟩
  ·obtain⟨o,_,_,_,e,ex,_⟩:=I.hok p _ hk
   refine⟨⟨o,e,ex.1⟩,fun a e2=>?_⟩
   cases e2
   exact⟨o,e,ex.2.1⟩
 | _=>exact False.elim ty
variable {o e:Expr}{es:List Expr}{to:TE}{t:TA}{name:Str}{apos cpos:Pos}{T id:String}{r:V->List V->Hp->VK->Prop}
end
end L2
namespace L2
open PySem PySem.Spec PyProof.Rows
def MtM (X:Cx) (id:String) (r:V->List V->Hp->VK->Prop):Prop:=
 ∀ (pins:List (Addr×Obj)) (s:Shared) (σ:St) (H:Hp) (x:V) (xs:List V) (v:Value) (us:List Value) (Q:VK),Inv X pins σ H s->RelV x v->Vals xs us->r x xs H Q ->
  wpAny (model X.prog X.w) X.A (call (.builtin id) (v :: us)) (EP X pins σ Q) X.xe s
theorem Vals.one:∀ {x:V}{us:List Value},Vals [x] us->∃ u,us=[u]/\RelV x u
 | _,_,.cons r .nil=>⟨_,rfl,r⟩
theorem Vals.reverse {xs:List V}{us:List Value}(h:Vals xs us):Vals xs.reverse us.reverse:=by
 induction h with
 | nil=>exact .nil
 | cons r t ih=>rw[List.reverse_cons,List.reverse_cons];exact Vals.append ih (.cons r .nil)
theorem Vals.rep {xs:List V}{us:List Value}(h:Vals xs us):∀ k:Nat,Vals (List.replicate k xs).flatten (List.replicate k us).flatten
 | 0=>.nil
 | k+1=>by
  rw[zbw3,zbw3,List.flatten_cons,List.flatten_cons]
  exact Vals.append h (Vals.rep h k)
theorem zah9 (its:List Value):∀ (k:Nat) (acc:List Value),
  List.foldl (fun x1 x2=>x1++x2) acc.toArray (List.replicate k its.toArray)=(acc++(List.replicate k its).flatten).toArray
 | 0,acc=>by simp
 | k+1,acc=>by
  have e:acc.toArray++its.toArray=(acc++its).toArray:=by simp
  have e2:(acc++its)++(List.replicate k its).flatten=acc++(List.replicate (k+1) its).flatten:=by
   rw[zbw3,List.flatten_cons,List.append_assoc]
  rw[← e2,← zah9 its k (acc++its),← e,zbw3,List.foldl_cons]
section
variable {X:Cx}{pins:List (Addr×Obj)}{σ:St}{H:Hp}{s:Shared}{l b:Addr}{xs ys zs:List V}
theorem Inv.lset {its its':List Value}{n:Nat}{f:Array Value->Array Value}{t':Nat}(I:Inv X pins σ H s) (hH:H l=some (.lst xs))
  (e:s.heap.get? l=some { cls:=.type "list",data:=.seq its.toArray n }) (hf:f its.toArray=its'.toArray) (hv:Vals ys its') (hz:ys.length<=sizeLine) :
  Inv X pins σ (upd H l (.lst ys)) { s with heap:=s.heap.update l (Obj.mapSeq f),toks:=t' }:=by
 have q:=PySem.IsL.update e f
 rw[hf] at q
 refine I.write (x:=l) (e:=l) (by rw[hH];exact trivial) (.inl rfl) (fun b' u hb hu=>(Heap.get?_update_other s.heap (Obj.mapSeq f) (Ne.symm hb)).trans hu) ⟨_,q⟩ ?_
 exact⟨hz,its',_,hv,q⟩
theorem Inv.lnew {its:List Value}{t':Nat}(I:Inv X pins σ H s) (hv:Vals ys its) (hz:ys.length<=sizeLine) :
  Inv X pins σ (upd H s.heap.objs.size (.lst ys)) { s with heap:=s.heap.push { cls:=.type "list",data:=.seq its.toArray },toks:=t' }:=
 I.laid (fun _ _ q=>zbq1 _ q) (zbq9 _) ⟨hz,its,0,hv,zbr8 _ rfl⟩
theorem Inv.fresh (I:Inv X pins σ H s):H s.heap.objs.size=none:=I.hok.fresh (zbq9 _)
theorem Inv.lstM (I:Inv X pins σ H s) (hH:H l=some (.lst xs)):xs.length<=sizeLine/\∃ (its:List Value) (n:Nat),Vals xs its/\xs.length=its.length/\s.heap.get? l=some { cls:=.type "list",data:=.seq its.toArray n }:=by
 obtain⟨z,its,n,r,e⟩:=I.hok l _ hH
 exact⟨z,its,n,r,r.length,e⟩
theorem zak9 {n:Nat}(h:n<=sizeLine):Builtin.List.listTooLong n=false:=by
 unfold Builtin.List.listTooLong
 exact decide_eq_false (by omega)
end
section
variable {X:Cx}
def zbj1:V->List V->Hp->VK->Prop:=fun x vs H Q=>∃ l xs y,x=.ref l/\vs=[y]/\H l=some (.lst xs)/\xs.length<sizeLine/\Q .non (upd H l (.lst (xs++[y])))
theorem zw4:MtM X "list.append" zbj1:=by
 intro pins s σ H x vs v us Q I rx rv h
 obtain⟨l,xs,y,rfl,rfl,hH,hz,q⟩:=h
 cases rx
 obtain⟨u,rfl,ru⟩:=rv.one
 obtain⟨z,its,n,r,hl,e⟩:=I.lstM hH
 refine call_meets F.slot_list_append ⟨_,e,rfl⟩ F.entry_list_append (F.args_list_append_2 _ _) (PySem.list_append l its.toArray n u (by rw[zbq3];omega)) ⟨e,?_⟩
 refine⟨.non,_,I.lset (its':=its++[u]) hH e (by simp) (r.append (.cons ru .nil)) ?_,rfl,q⟩
 rw[zbp9,zbs0]
 omega
def zbk5:V->List V->Hp->VK->Prop:=fun x vs H Q=>∃ l b xs zs,x=.ref l/\vs=[.ref b]/\H l=some (.lst xs)/\H b=some (.lst zs)/\xs.length+zs.length<=sizeLine/\Q .non (upd H l (.lst (xs++zs)))
theorem mt_extend:MtM X "list.extend" zbk5:=by
 intro pins s σ H x vs v us Q I rx rv h
 obtain⟨l,b,xs,zs,rfl,rfl,hH,hB,hz,q⟩:=h
 cases rx
 obtain⟨u,rfl,ru⟩:=rv.one
 cases ru
 obtain⟨z,its,n,r,hl,e⟩:=I.lstM hH
 obtain⟨z2,its2,n2,r2,hl2,e2⟩:=I.lstM hB
 have hsz:its.toArray.size+its2.toArray.size<=sizeLine:=by rw[zbq3,zbq3];omega
 have hlong:¬ (!its.toArray.isEmpty&&Builtin.List.listTooLong (its.toArray.size+its2.toArray.size))=true:=by
  rw[zak9 hsz,Bool.and_false]
  exact zbq6
 refine call_meets F.slot_list_extend ⟨_,e,rfl⟩ F.entry_list_extend (F.args_list_extend_2 _ _)
  (AutoSeq1.list_extend_list_list_0 l its.toArray n b its2.toArray n2 hlong (by rw[zbq3];omega) (by omega)) ⟨e,e2,?_⟩
 refine⟨.non,_,I.lset (its':=its++its2) hH e (by simp) (r.append r2) ?_,rfl,q⟩
 rw[zbp9]
 omega
def rCat:R2:=fun x y H Q=>∃ l b xs zs,x=.ref l/\y=.ref b/\H l=some (.lst xs)/\H b=some (.lst zs)/\xs.length+zs.length<=sizeLine/\∀ p,H p=none->Q (.ref p) (upd H p (.lst (xs++zs)))
theorem op_cat:OpR X (binaryOp .Add) rCat:=by
 intro pins s σ H x y v u Q I rx ry h
 obtain⟨l,b,xs,zs,rfl,rfl,hH,hB,hz,q⟩:=h
 cases rx
 cases ry
 obtain⟨z,its,n,r,hl,e⟩:=I.lstM hH
 obtain⟨z2,its2,n2,r2,hl2,e2⟩:=I.lstM hB
 refine PySem.P.add_list e e2 ?_ (by rw[zbq3,zbq3];omega)
 have ea:its.toArray++its2.toArray=(its++its2).toArray:=by simp
 rw[ea]
 exact⟨.ref _,_,I.lnew (t':=s.toks) (r.append r2) (by rw[zbp9];omega),rfl,q _ I.fresh⟩
def rRep:R2:=fun x y H Q=>∃ l k xs,x=.ref l/\y=.int k/\H l=some (.lst xs)/\-(2 ^ 63)<=k/\k<2 ^ 63/\xs.length*k.toNat<=sizeLine /\
 ∀ p,H p=none->Q (.ref p) (upd H p (.lst (List.replicate k.toNat xs).flatten))
theorem zbi2 {α:Type}(xs:List α) (k:Nat):(List.replicate k xs).flatten.length=k*xs.length:=by
 induction k with
 | zero=>simp
 | succ k ih=>rw[zbw3,List.flatten_cons,zbp9,ih,Nat.succ_mul,Nat.add_comm]
theorem op_rep:OpR X (binaryOp .Mult) rRep:=by
 intro pins s σ H x y v u Q I rx ry h
 obtain⟨l,k,xs,rfl,rfl,hH,h1,h2,hz,q⟩:=h
 cases rx
 obtain⟨t,rfl⟩:=ry
 obtain⟨z,its,n,r,hl,e⟩:=I.lstM hH
 have hlen:its.toArray.size*k.toNat<=sizeLine:=by rw[zbq3,← hl];exact hz
 have hcap:¬ its.toArray.size*k.toNat>(2 ^ 63 - 1) / 8:=by
  have:(sizeLine:Nat)<=(2 ^ 63 - 1) / 8:=by decide
  omega
 have hfit:¬ (!Builtin.List.listFitsIndex k)=true:=by
  rw[fitsIndex_both h1 h2]
  exact zbq6
 have hlong:¬ Builtin.List.listTooLong (its.toArray.size*k.toNat)=true:=by
  rw[zak9 hlen]
  exact zbq6
 have hnew:List.foldl (fun x1 x2=>x1++x2) #[] (List.replicate (if its.toArray.isEmpty=true then 0 else k.toNat) its.toArray)=(List.replicate k.toNat its).flatten.toArray:=by
  have f0:∀ m:Nat,List.foldl (fun x1 x2=>x1++x2) #[] (List.replicate m its.toArray)=(List.replicate m its).flatten.toArray:=fun m=>by
   have:=zah9 its m []
   rw[List.nil_append] at this
   exact this
  rw[f0]
  cases its with
  | nil=>simp
  | cons a r'=>rw[if_neg (by simp)]
 refine wpAny_binaryOp_repeat_ref (T:="list") (U:="int") (by decide) ⟨_,e,rfl⟩ (fun s'=>typeIs_int s' k t) noFill_list_mul F.fills_int_mul F.slot_int_rmul repeat_list F.slot_int_index.lookup
  (call_meets F.slot_int_rmul (typeIs_int s k t) F.entry_int_rmul (F.args_int_rmul_2 _ _) (int___rmul___int_list k t l its.toArray n)
   ⟨e,rfl,⟨_,e,rfl⟩,call_meets F.slot_list_mul ⟨_,e,rfl⟩ F.entry_list_mul (F.args_list_mul_2 _ _) (AutoListH.list___mul___list_int_3 l its.toArray n k t hfit hcap hlong) ⟨e,?_⟩⟩)
 rw[hnew]
 exact⟨.ref _,_,I.lnew (t':=s.toks) (r.rep k.toNat) (by rw[zbi2,Nat.mul_comm];exact hz),rfl,q _ I.fresh⟩
end
section
variable {prog:Program}{w:World}{A:Around}{E:Value->Shared->Prop}{s:Shared}
end
section
variable {X:Cx}
end
end L2
namespace Att
open PySem PySem.W PySem.Calls PyProof.Rows
theorem zw5 {P:Params}{h:Heap}:∀ (ns:List Int) (vs:List Value),WellAll P h vs (ns.map WData.int)->IntsAre vs ns:=by
 intro ns
 induction ns with
 | nil=>
  intro vs w
  rw[List.map_nil] at w
  cases w
  exact .nil
 | cons n ns ih=>
  intro vs w
  rw[zbt4] at w
  cases w with
  | cons a b=>
   cases a
   exact .cons _ _ (ih _ b)
theorem zay5 {l:OpenLaw}{n:Nat}(hn:l.most=some n) {P:Params}{h:Heap}{args:List WData}{vals:List Value}
  (hpre:l.row.toRowW.claim.pre args=true) (hwl:WellAll P h vals args) :
  ∃ a vs ns,vals=[Value.ref a]/\args=[WData.list (ns.map WData.int)]/\h.get? a=some { cls:=.type "list",data:=.seq vs.toArray }/\IntsAre vs ns/\ns.length<=n:=by
 have hsh:WShape.hasAll [] args [.list .int]=true:=(pre_splitW hpre).1
 have hc:l.pre.holds [] { args:=args }=true:=(pre_splitW hpre).2
 obtain⟨d,r,rfl,h1,h2⟩:=hasAllW_cons hsh
 obtain rfl:=hasAllW_nil h2
 obtain⟨xs,rfl,h3⟩:=hasW_list h1
 obtain⟨ns,rfl⟩:=items_int h3
 have hlen:ns.length<=n:=by
  unfold OpenLaw.pre at hc
  have h4:(WTm.not (.lt (.lit (.int (n:Int))) (.len (.arg 0)))).holds [] { args:=[.list (ns.map .int)] }=true:=by
   have h4:=(holds_andW hc).1
   rw[hn] at h4
   exact h4
  have h5:=condW_of h4 (w_not (w_lt w_lit (w_len_list (w_arg rfl))))
  rw[zbp5] at h5
  refine Nat.le_of_not_lt fun q=>?_
  have q':(n:Int)<((ns.length:Nat):Int):=by omega
  first
   | (rw[decide_eq_true q'] at h5;exact absurd h5 (by decide))
   | (simp at h5;omega)
 cases hwl with
 | cons w1 w2=>
  cases w2
  cases w1 with
  | list ho hall=>exact⟨_,_,ns,rfl,rfl,ho,zw5 ns _ hall,hlen⟩
theorem zav0 (l:OpenLaw) (args:List WData):l.row.toRowW.claim.post args (.bool true) args=true:=
 postW_of (r:=l.row.toRowW) (X:=(true==true))
  (show WShape.has [] (.bool true) .bool=true by first|rfl|decide|simp[WShape.has,WShape.arms,WShape.armsAll])
  (show (WTm.eq .res (.lit (.bool true))).value [] { args:=args,res:=some (.bool true),after:=args }=some (.bool (true==true)) from w_eq_bool (w_res rfl) w_lit) rfl
theorem attach_call {l:OpenLaw}{n:Nat}{q:Program}{loose:List Str}{XP:(Str->Option Value)->Heap->Prop}{YP:World->Heap->Prop}{d:DefRec}
  (hn:l.most=some n) (hdf:d.params.defaults=[])
  (call:∀ (w:World) (s₀ s₁:Shared) (mg mb:Str->Option Value) (fa:Addr) (o:Obj) (pm cd doc:Value) (a:Addr) (vs:List Value) (ns:List Int),
   Ground q loose [] XP w s₀ mg mb s₁.heap->YP w s₁.heap ->
   s₁.heap.get? fa=some o->o.data=.func (docDef d.name d.params d.body d.scope pm cd doc)->s₁.heap.CodeRec cd d.name->mg d.name=some (.ref fa) ->
   s₁.heap.get? a=some { cls:=.type "list",data:=.seq vs.toArray }->IntsAre vs ns->ns.length<=n->s₁.gens=#[] ->
   codeAny (model l.prog w) callerA (.call (.ref fa) ⟨[.ref a],[]⟩) (fun r s'=>r=.ok (.ret (.bool true))/\OldK s₁.heap s'.heap/\s'.os=s₁.os/\AllBare s'.gens) s₁) :
  WalkO q loose XP YP l.row.toRowW d [] (fun f vs=>PySem.call f vs):=by
 intro w s₀ s₁ mg mb G Y fa o pm cd doc dV kV ho hd hcd hD hmg hg args vals as hpre hlay hrd hwl hlo
 obtain rfl:dV=.none:=Dflts.none hD hdf
 obtain rfl:kV=.none:=Dflts.noKw hD
 obtain⟨a,vs,ns,rfl,rfl,hobj,hints,hlen⟩:=zay5 hn hpre hwl
 refine enter_call (codeAny_mono (call w s₀ s₁ mg mb fa o pm cd doc a vs ns G Y ho (fd_plain hd) hcd hmg hobj hints hlen hg) fun r s' hq=>?_)
 obtain⟨rfl,h2,h3,h4⟩:=hq
 exact⟨.inl ⟨.bool true,.bool true,[],rfl,fun _=>rfl,.bool true,zav0 l _,fun _=>⟨List.Pairwise.nil,fun _ hm=>(nomatch hm)⟩⟩,h2,h3,h4⟩
section
variable {prog:Program}{w:World}{A:Around}{E:Value->Shared->Prop}{s:Shared}{K:Frag}
def ledger (h:Heap) (L d:Addr):List (Addr×Obj):=(List.range h.objs.size).filterMap fun a=>if a=L∨a=d then none else (h.get? a).map fun o=>(a,o)
end
end Att
namespace L2
open PySem PySem.Spec PyProof.Rows
theorem zah5:∀ {vs:List Value}{ns:List Int},IntsAre vs ns->Vals (ns.map V.int) vs
 | _,_,.nil=>.nil
 | _,_,.cons n t h=>.cons ⟨t,rfl⟩ (zah5 h)
def Only (H:Hp):Prop:=∀ b,H b=none∨∃ o xs,H b=some (.frz o (.lst xs))
theorem zbd1 {P:Program}{w:World}{K:zbp7}{mg mb:Str->Option Value}{CX:CXT}{k:Nat}{fa a:Addr}{fd:FuncData}{x:Str}{sp:Sp}{s₁:Shared}{vs:List Value}{ns:List Int}
  (KX:K.In s₁.heap) (hns:s₁.heap.Ns mainGlobals mg) (hb:s₁.heap.Ns builtinsNs mb) (hbb:∀ x:Str,x≠"__name__"->mb x=bootBuiltins x) (hlim:s₁.heap.NoLimit) (hg:s₁.gens=#[])
  (ha:s₁.heap.get? a=some { cls:=.type "list",data:=.seq vs.toArray }) (hi:IntsAre vs ns) (hl:ns.length<=sizeLine) (hr:Room k callerA)
  (F:∀ base:Heap,K.In base->base.Ns mainGlobals mg->FnOk P w K mg base CX k fa fd [x] sp) (hbind:∀ (s:Shared) (u:Value),BindsTo s fd ⟨[u],[]⟩ [(x,u)])
  (hsp:∀ H:Hp,Only H->SqL K H a (ns.map V.int)->sp [.ref a] H (fun v _=>v=.bl true) fun _ _ _=>False)
  (hCX:∀ H e s',CX [] H s₁ (fun _ _ _=>False) e s'->False) :
  codeAny (model P w) callerA (.call (.ref fa) ⟨[.ref a],[]⟩) (fun r s'=>r=.ok (.ret (.bool true))/\OldK s₁.heap s'.heap/\s'.os=s₁.os/\AllBare s'.gens) s₁:=by
 have rv:=zah5 hi
 have lenV:=hi.length
 have core:∀ H:Hp,Only H->SqL K H a (ns.map V.int)->HOk P w H s₁.heap->(∀ b,H b≠none->b=a)->(H a≠none->K.lookup a=none) ->
   codeAny (model P w) callerA (.call (.ref fa) ⟨[.ref a],[]⟩) (fun r s'=>r=.ok (.ret (.bool true))/\OldK s₁.heap s'.heap/\s'.os=s₁.os/\AllBare s'.gens) s₁:=by
  intro H hO hS hok hA hK
  have base_of:∀ {b:Addr}{o:Obj},s₁.heap.get? b=some o->H b=none->(hidT s₁.heap H).get? b=some o:=fun e n=>zbe4 e n
  have noA:∀ {b:Addr}{o:Obj}{es:Array DictEntry}{ep:Nat},s₁.heap.get? b=some o->o.data=.dict es ep->H b=none:=fun {b o es ep} e d=>by
   cases q:H b with
   | none=>rfl
   | some u=>
    have e':b=a:=hA b (by rw[q];simp)
    subst e'
    rw[ha] at e;cases e
    have d':Data.seq vs.toArray _=Data.dict es ep:=d
    cases d'
  have nsK:∀ {b:Addr}{m:Str->Option Value},s₁.heap.Ns b m->(hidT s₁.heap H).Ns b m:=fun {b m} ⟨o,es,ep,e,d,r⟩=>⟨o,es,ep,base_of e (noA e d),d,r⟩
  have hKb:K.In (hidT s₁.heap H):=fun b o e=>base_of (KX b o e) (by
   cases q:H b with
   | none=>rfl
   | some u=>
    have e':b=a:=hA b (by rw[q];simp)
    subst e'
    rw[hK (by rw[q];simp)] at e;cases e)
  have hM:Mod K mg (hidT s₁.heap H):=⟨hKb,nsK hns,⟨mb,nsK hb,hbb⟩,let ⟨mc,h1,h2⟩:=hlim;⟨mc,nsK h1,h2⟩⟩
  have e0:Env0 P w K mg (hidT s₁.heap H) callerA [] s₁ H:=⟨rfl,hM,fun b o e=>zbj4 e,Nat.le_of_eq (zay4 _ _),trivial,fun b hb=>absurd (show b∈([]:List Addr) from hb) (by simp),hok,.of_eq hg⟩
  refine codeAny_mono ((F _ hKb (nsK hns)).run callerA [] s₁ H ⟨[.ref a],[]⟩ [.ref a] [.ref a] _ _ hr e0 (hbind s₁ (.ref a)) (.cons rfl .nil) (hsp H hO hS)) fun r s' h=>?_
  cases r with
  | error e=>exact (hCX H e s' h).elim
  | ok fl=>
   cases fl with
   | next=>exact False.elim h
   | brk=>exact False.elim h
   | cont=>exact False.elim h
   | ret u=>
    obtain⟨v,H',os,bare,un,hok',r',q⟩:=h
    have q':v=.bl true:=q
    subst q'
    obtain rfl:u=Value.bool true:=r'
    refine⟨rfl,OldK.of_keep fun b o e=>?_,os,bare⟩
    cases q:H b with
    | none=>exact un.keep b o e q (by intro z;exact absurd (show b∈([]:List Addr) from z) (by simp)) (by simp)
    | some u=>
     rcases hO b with z|⟨ob,xs,z⟩
     ·rw[q] at z;cases z
     ·have z2:=un.frzs b ob _ z
      obtain⟨e1,_⟩:=hok b _ z
      obtain⟨e2,_⟩:=hok' b _ z2
      rw[e] at e1;cases e1
      exact e2
 cases hk:K.lookup a with
 | some o=>
  have e:=KX a o hk
  rw[ha] at e
  cases e
  refine core (fun _=>none) (fun _=>.inl rfl) (.inr ⟨_,vs.toArray,_,hk,rfl,rfl,rfl,by rw[zbq3,lenV];exact hl,by simpa using rv⟩) (fun b u z=>by have z':(none:Option HO)=some u:=z;cases z') (fun b z=>absurd rfl z) fun z=>absurd rfl z
 | none=>
  refine core (fun b=>if b=a then some (.frz { cls:=.type "list",data:=.seq vs.toArray } (.lst (ns.map V.int))) else none) (fun b=>?_) (.inl (.inr ⟨{ cls:=.type "list",data:=.seq vs.toArray },if_pos rfl⟩)) (fun b u z=>?_) (fun b z=>?_) fun _=>hk
  ·by_cases hb:b=a
   ·exact .inr ⟨_,_,if_pos hb⟩
   ·exact .inl (if_neg hb)
  ·by_cases hb:b=a
   ·have z':=(if_pos hb).symm.trans z
    cases z'
    subst hb
    exact⟨ha,by rw[zbp5];exact hl,vs,_,rv,ha⟩
   ·have z':=(if_neg hb).symm.trans z
    cases z'
  ·by_cases hb:b=a
   ·exact hb
   ·exact absurd (if_neg hb) z
end L2
namespace L2
open PySem PySem.Spec PyProof.Rows
theorem walk_of {l:PySem.W.OpenLaw}{n k:Nat}{q:Program}{loose:List Str}{XP:(Str->Option Value)->Heap->Prop}{YP:World->Heap->Prop}{d:DefRec}{K:Params->zbp7}{CX:World->CXT}{sp:World->Sp}{x:Str}
  (hn:l.most=some n) (hn2:n<=sizeLine) (hdf:d.params.defaults=[]) (hr:Room k callerA)
  (hY:∀ (w:World) (h:Heap),YP w h->(K w.params).In h)
  (F:∀ (w:World) (mg:Str->Option Value) (fa:Addr) (h:Heap),(K w.params).In h->h.Ns mainGlobals mg->mg d.name=some (.ref fa) ->
   ∃ fd:FuncData,(∀ (s:Shared) (u:Value),BindsTo s fd ⟨[u],[]⟩ [(x,u)]) /\
    ∀ base:Heap,(K w.params).In base->base.Ns mainGlobals mg->FnOk l.prog w (K w.params) mg base (CX w) k fa fd [x] (sp w))
  (hsp:∀ (w:World) (H:Hp) (a:Addr) (ns:List Int),ns.length<=n->Only H->SqL (K w.params) H a (ns.map V.int)->sp w [.ref a] H (fun v _=>v=.bl true) fun _ _ _=>False)
  (hCX:∀ (w:World) (H:Hp) (s:Shared) (e:Value) (s':Shared),CX w [] H s (fun _ _ _=>False) e s'->False) :
  PySem.W.WalkO q loose XP YP l.row.toRowW d [] (fun f vs=>PySem.call f vs):=by
 refine Att.attach_call hn hdf fun w s₀ s₁ mg mb fa o pm cd doc a vs ns G Y ho hd hcd hmg hobj hints hlen hg=>?_
 have KX:=hY w _ Y
 obtain⟨fd,hb,hF⟩:=F w mg fa _ KX G.T.g hmg
 exact zbd1 KX G.T.g G.T.b G.T.builtins G.T.nolimit hg hobj hints (zbt7 hlen hn2) hr hF hb (fun H hO hS=>hsp w H a ns hlen hO hS) fun H e s'=>hCX w H s₁ e s'
end L2
namespace L2
open PySem PySem.Spec PyProof.Rows
def zc3 (s:Stmt):Arguments:=match s with
 | .FunctionDef _ a _ _ _ _ _ _ _ _=>a
 | _=>{ posonlyargs:=[],args:=[],vararg:=none,kwonlyargs:=[],kw_defaults:=[],kwarg:=none,defaults:=[] }
def zc0 (s:Stmt):List Stmt:=match s with
 | .FunctionDef _ _ b _ _ _ _ _ _ _=>b
 | _=>[]
def za7 (s:Stmt):Scope:=match s with
 | .FunctionDef _ _ _ _ _ _ sc _ _ _=>sc
 | _=>{ kind:=.function,names:=[],isGenerator:=false,isCoroutine:=false }
abbrev CX0:CXT:=fun _ _ _ _ _ _=>False
abbrev E0:XK:=fun _ _ _=>False
theorem zd5 {X:Cx}:zal9 CX0 X E0:=fun _ _ _ _ _ _ _ h=>h.elim
structure Fun (K:zbp7) (x qual:Str) (st:Stmt) (f:Addr) (fd:FuncData):Prop where
 ex:∃ (oc:Value) (od:Option Addr) (kV doc pm:Value) (an:Option Addr) (cdv ct:Value) (osl:Array (Option Value)),
  fd=zbs6 x qual (zc3 st) (zc0 st) (za7 st) .none kV doc pm an cdv ct/\K.lookup f=some ⟨oc,od,.func fd,osl⟩/\zbs2 K cdv qual=true
 kp:zbr9 K (.ref f)=true
section
variable {P:Program}{w:World}{K:zbp7}{mg:Str->Option Value}{base:Heap}
theorem Fun.ok {x qual:Str}{st:Stmt}{f:Addr}{fd:FuncData}{N ps:List Str}{k:Nat}{sp:Sp}(F:Fun K x qual st f fd) (S:zc8 N ps (za7 st)) (len:∀ vs H Q E,sp vs H Q E->vs.length=ps.length)
  (hbody:∀ (cdv:Value) (A:Around) (outer:List Env) (s:Shared) (H:Hp) (vs:List V) (Q:VK) (E:XK),Room k (A.deeper (envOfC qual (za7 st) s.heap.objs.size f cdv))->sp vs H Q E ->
   ∃ t,PSs (cxOf CX0 P w K mg base N qual (za7 st) f cdv A outer s H E).nox (zc0 st) t/\t { nx:=fun _ H'=>Q .non H',rt:=Q } (zag2 N vs) H):FnOk P w K mg base CX0 (k+1) f fd ps sp:=by
 obtain⟨oc,od,kV,doc,pm,an,cdv,ct,osl,rfl,lk,hcd⟩:=F.ex
 refine fn_of lk hcd S len fun A outer s H vs Q E hr hsp=>?_
 obtain⟨t,h,q⟩:=hbody cdv A outer s H vs Q E hr hsp
 exact⟨t,h.nox,q⟩
theorem Fun.binds {x qual:Str}{st:Stmt}{f:Addr}{fd:FuncData}{ps:List Str}(F:Fun K x qual st f fd)
  (h:∀ (kV doc pm:Value) (an:Option Addr) (cdv ct:Value) (us:List Value),us.length=ps.length->bindArgs (zbs6 x qual (zc3 st) (zc0 st) (za7 st) .none kV doc pm an cdv ct) ⟨us,[]⟩=pure (ps.zip us)):zap7 K fd ps []:=by
 obtain⟨oc,od,kV,doc,pm,an,cdv,ct,osl,rfl,lk,hcd⟩:=F.ex
 exact .all (h kV doc pm an cdv ct)
theorem zg0 {x qual:Str}{st:Stmt}{f:Addr}{oc:Value}{od an:Option Addr}{osl:Array (Option Value)}{kV doc pm cdv ct:Value}(l:K.lookup f=some ⟨oc,od,.func (zbs6 x qual (zc3 st) (zc0 st) (za7 st) .none kV doc pm an cdv ct),osl⟩)
  (c:zbs2 K cdv qual=true) (k:zbr9 K (.ref f)=true):Fun K x qual st f (zbs6 x qual (zc3 st) (zc0 st) (za7 st) .none kV doc pm an cdv ct):=⟨⟨oc,od,kV,doc,pm,an,cdv,ct,osl,rfl,l,c⟩,k⟩
end
section
variable {X:Cx}
end
theorem iteF {A B:Prop}(h:B):if false=true then A else B:=by
 rw[if_neg zbq6]
 exact h
theorem iteT {A B:Prop}(h:A):if true=true then A else B:=by
 rw[if_pos rfl]
 exact h
def Same (H H':Hp):Prop:=∀ b o,H b=some o->H' b=some o
theorem Same.refl (H:Hp):Same H H:=fun _ _ h=>h
theorem Same.trans {H H1 H2:Hp}(a:Same H H1) (b:Same H1 H2):Same H H2:=fun c o h=>b c o (a c o h)
theorem Same.free {H H':Hp}(e:Same H H') {l:Addr}(h:H' l=Option.none):H l=Option.none:=by
 cases q:H l with
 | none=>rfl
 | some o=>
  rw[e l o q] at h
  cases h
theorem Same.seq {K:zbp7}{H H':Hp}{a:Addr}{xs:List V}(e:Same H H') (h:SqL K H a xs):SqL K H' a xs:=by
 rcases h with (h|⟨o,h⟩)|h
 ·exact .inl (.inl (e _ _ h))
 ·exact .inl (.inr ⟨o,e _ _ h⟩)
 ·exact .inr h
end L2
set_option maxHeartbeats 1000000
namespace L2
open PySem PySem.Spec PyProof.Rows
@[irreducible] def br (c:Bool) (A B:Prop):Prop:=if c=true then A else B
section
variable {A B p:Prop}{c:Bool}
theorem zw1:br c A B=(if c=true then A else B):=by unfold br;rfl
theorem br_T (h:A):br true A B:=by unfold br;exact iteT h
theorem br_F (h:B):br false A B:=by unfold br;exact iteF h
theorem br_any (h1:c=true->A) (h2:c=false->B):br c A B:=by
 cases c with
 | true=>exact br_T (h1 rfl)
 | false=>exact br_F (h2 rfl)
theorem zd3 [Decidable p] (h1:p->A) (h2:¬ p->B):br (decide p) A B:=br_any (fun h=>h1 (of_decide_eq_true h)) fun h=>h2 (of_decide_eq_false h)
theorem br_dT [Decidable p] (hp:p) (h:A):br (decide p) A B:=zd3 (fun _=>h) fun n=>absurd hp n
theorem br_dF [Decidable p] (hp:¬ p) (h:B):br (decide p) A B:=zd3 (fun n=>absurd n hp) fun _=>h
theorem zc9 (h:br c B A):br (!c) A B:=by
 cases c with
 | true=>unfold br at h ⊢;simpa using h
 | false=>unfold br at h ⊢;simpa using h
end
def Chg (a:Addr) (H H':Hp):Prop:=∀ b o,b≠a->H b=some o->H' b=some o
theorem Chg.upd {H:Hp}{a:Addr}{o:HO}:Chg a H (upd H a o):=fun b u hb e=>by rw[ze8 hb];exact e
theorem Same.upd {H:Hp}{a:Addr}{o:HO}(h:H a=none):Same H (L2.upd H a o):=fun b u e=>by rw[ze8 (za5 e h)];exact e
theorem Same.chg {H0 H H':Hp}{a:Addr}(s:Same H0 H) (n:H0 a=none) (c:Chg a H H'):Same H0 H':=fun b o e=>c b o (za5 e n) (s b o e)
theorem Chg.refl (a:Addr) (H:Hp):Chg a H H:=fun _ _ _ e=>e
theorem Chg.trans {H H1 H2:Hp}{a:Addr}(x:Chg a H H1) (y:Chg a H1 H2):Chg a H H2:=fun b o h e=>y b o h (x b o h e)
theorem Chg.same {H H1 H2:Hp}{a:Addr}(x:Chg a H H1) (y:Same H1 H2):Chg a H H2:=fun b o h e=>y b o (x b o h e)
theorem Same.toChg {H H1:Hp}{a:Addr}(x:Same H H1):Chg a H H1:=fun b o _ e=>x b o e
theorem Same.at {H H':Hp}{b:Addr}{o:HO}(s:Same H H') (e:H b=some o):H' b=some o:=s b o e
theorem Chg.at {H H':Hp}{a b:Addr}{o:HO}(s:Chg a H H') (e:H b=some o) (n:b≠a):H' b=some o:=s b o n e
def qV (i:Nat):TE:=fun σ H Q=>match σ[i]? with
 | some (some v)=>Q v H
 | _=>False
section
variable {X:Cx}
theorem pq (i:Nat) {x:Str}{pos:Pos}(hN:X.N[i]?=some x:=by rfl) (hv:Vis X.env.scope x:=by first|exact Or.inl rfl|exact Or.inr (Or.inl rfl)|exact Or.inr (Or.inr rfl)) (hd:(x==("__debug__":Str))=false:=by decide)
  (hcd:(x==("__classdict__":Str))=false:=by decide):PE X (.Name x pos) (qV i):=fun pins s σ H Q I h=>by
 refine pe_var hN hv hd hcd pins s σ H Q I ?_
 unfold qV at h
 split at h
 ·rename_i v e
  exact⟨v,e,h⟩
 ·exact h.elim
@[irreducible] def zap6 (i j:Int) (H:Hp) (Q:VK):Prop:=IntMulOk i j/\Q (.int (i*j)) H
@[irreducible] def rDivI (i j:Int) (H:Hp) (Q:VK):Prop:=(j≠0/\j.natAbs.log2<9000)/\Q (.int (i.fdiv j)) H
@[irreducible] def zav4 (i j:Int) (H:Hp) (Q:VK):Prop:=j≠0/\Q (.int (i.fmod j)) H
@[irreducible] def rPowI (i j:Int) (H:Hp) (Q:VK):Prop:=CPow i j/\Q (.int (i ^ j.toNat)) H
@[irreducible] def rCatL (a b:Addr) (H:Hp) (Q:VK):Prop:=∃ xs zs,H a=some (.lst xs)/\H b=some (.lst zs)/\xs.length+zs.length<=sizeLine /\
 ∀ p H',H p=none->Same H H'->H' p=some (.lst (xs++zs))->Q (.ref p) H'
@[irreducible] def rRepL (a:Addr) (k:Int) (H:Hp) (Q:VK):Prop:=∃ xs,H a=some (.lst xs)/\-(2 ^ 63)<=k/\k<2 ^ 63/\xs.length*k.toNat<=sizeLine /\
 ∀ p H',H p=none->Same H H'->H' p=some (.lst (List.replicate k.toNat xs).flatten)->Q (.ref p) H'
def rAddM:R2:=fun x y H Q=>match x,y with
 | .int i,.int j=>Q (.int (i+j)) H
 | .ref a,.ref b=>rCatL a b H Q
 | .str a,.str b=>a.length+b.length<=sizeLine/\Q (.str (a++b)) H
 | _,_=>False
def rSubM:R2:=fun x y H Q=>match x,y with
 | .int i,.int j=>Q (.int (i - j)) H
 | _,_=>False
def rMulM:R2:=fun x y H Q=>match x,y with
 | .int i,.int j=>zap6 i j H Q
 | .ref a,.int k=>rRepL a k H Q
 | _,_=>False
def rDivM:R2:=fun x y H Q=>match x,y with
 | .int i,.int j=>rDivI i j H Q
 | _,_=>False
def rModM:R2:=fun x y H Q=>match x,y with
 | .int i,.int j=>zav4 i j H Q
 | _,_=>False
def rPowM:R2:=fun x y H Q=>match x,y with
 | .int i,.int j=>rPowI i j H Q
 | _,_=>False
theorem oAdd:OpR X (binaryOp .Add) rAddM:=by
 intro pins s σ H x y v u Q I rx ry h
 unfold rAddM at h
 split at h
 ·exact op_add pins s σ H _ _ v u Q I rx ry ⟨_,_,rfl,rfl,h⟩
 ·unfold rCatL at h
  obtain⟨xs,zs,h1,h2,h3,h4⟩:=h
  exact op_cat pins s σ H _ _ v u Q I rx ry ⟨_,_,xs,zs,rfl,rfl,h1,h2,h3,fun p hp=>h4 p _ hp (Same.upd hp) zb7⟩
 ·exact zaq9 pins s σ H _ _ v u Q I rx ry ⟨_,_,rfl,rfl,h.1,h.2⟩
 ·exact h.elim
theorem oSub:OpR X (binaryOp .Sub) rSubM:=by
 intro pins s σ H x y v u Q I rx ry h
 unfold rSubM at h
 split at h
 ·exact op_sub pins s σ H _ _ v u Q I rx ry ⟨_,_,rfl,rfl,h⟩
 ·exact h.elim
theorem oMul:OpR X (binaryOp .Mult) rMulM:=by
 intro pins s σ H x y v u Q I rx ry h
 unfold rMulM at h
 split at h
 ·unfold zap6 at h
  obtain⟨t,rfl⟩:=rx
  obtain⟨t',rfl⟩:=ry
  exact mul_int ⟨.int _,H,I.tok _,⟨_,rfl⟩,h.2⟩ h.1
 ·unfold rRepL at h
  obtain⟨xs,h1,h2,h3,h4,h5⟩:=h
  exact op_rep pins s σ H _ _ v u Q I rx ry ⟨_,_,xs,rfl,rfl,h1,h2,h3,h4,fun p hp=>h5 p _ hp (Same.upd hp) zb7⟩
 ·exact h.elim
theorem oDiv:OpR X (binaryOp .FloorDiv) rDivM:=by
 intro pins s σ H x y v u Q I rx ry h
 unfold rDivM at h
 split at h
 ·unfold rDivI at h
  obtain⟨⟨h1,h2⟩,h3⟩:=h
  obtain⟨t,rfl⟩:=rx
  obtain⟨t',rfl⟩:=ry
  exact floordiv_int h1 ⟨.int _,H,I.tok _,⟨_,rfl⟩,h3⟩ (.inl (PyProof.noPylong_of_log2 h2))
 ·exact h.elim
theorem oMod:OpR X (binaryOp .Mod) rModM:=by
 intro pins s σ H x y v u Q I rx ry h
 unfold rModM at h
 split at h
 ·unfold zav4 at h
  exact zbm4 pins s σ H _ _ v u Q I rx ry ⟨_,_,rfl,rfl,h.1,h.2⟩
 ·exact h.elim
theorem oPow:OpR X (binaryOp .Pow) rPowM:=by
 intro pins s σ H x y v u Q I rx ry h
 unfold rPowM at h
 split at h
 ·unfold rPowI at h
  exact op_pow pins s σ H _ _ v u Q I rx ry ⟨_,_,rfl,rfl,h.1,h.2⟩
 ·exact h.elim
def rNegM:V->Hp->VK->Prop:=fun x H Q=>match x with
 | .int i=>Q (.int (-i)) H
 | _=>False
theorem uNeg:UnR X (unaryOp .USub) rNegM:=by
 intro pins s σ H x v Q I rx h
 unfold rNegM at h
 split at h
 ·exact un_neg pins s σ H _ v Q I rx ⟨_,rfl,h⟩
 ·exact h.elim
section
variable {i j:Int}{H:Hp}{Q:VK}
theorem zbh6 (h:IntMulOk i j) (q:Q (.int (i*j)) H):zap6 i j H Q:=by unfold zap6;exact⟨h,q⟩
theorem log2_lt {n k:Nat}(h:n<2 ^ k) (hk:0<k):n.log2<k:=by
 by_cases h0:n=0
 ·subst h0;simpa using hk
 ·exact (Nat.log2_lt h0).mpr h
theorem zbj7 {j:Int}(h1:-(10 ^ 240)<j) (h2:j<10 ^ 240):j.natAbs<2 ^ 2000:=by
 have e:(10:Int) ^ 240=((10 ^ 240:Nat):Int):=by norm_cast
 have e2:(10:Nat) ^ 240<2 ^ 2000:=by decide +kernel
 rw[e] at h1 h2
 generalize hN:(10:Nat) ^ 240=N at h1 h2 e2
 generalize hM:(2:Nat) ^ 2000=M at e2
 omega
theorem div_rd (h1:0<j) (h2:j<10 ^ 240) (q:Q (.int (i / j)) H):rDivI i j H Q:=by
 unfold rDivI
 refine⟨⟨by omega,?_⟩,?_⟩
 ·have h:=log2_lt (zbj7 (j:=j) (by have:(0:Int)<10 ^ 240:=(by decide +kernel);generalize (10:Int) ^ 240=N at this;omega) h2) (by decide)
  omega
 ·rw[Int.fdiv_eq_ediv_of_nonneg _ (by omega)];exact q
theorem mod_rd (h1:0<j) (q:Q (.int (i % j)) H):zav4 i j H Q:=by
 unfold zav4
 refine⟨by omega,?_⟩
 rw[Int.fmod_eq_emod_of_nonneg _ (by omega)];exact q
theorem zbf4 (h:CPow i j) (q:Q (.int (i ^ j.toNat)) H):rPowI i j H Q:=by unfold rPowI;exact⟨h,q⟩
theorem zi9 {a b:Addr}{xs zs:List V}(h1:H a=some (.lst xs)) (h2:H b=some (.lst zs)) (h3:xs.length+zs.length<=sizeLine)
  (q:∀ p H',H p=none->Same H H'->H' p=some (.lst (xs++zs))->Q (.ref p) H'):rCatL a b H Q:=by unfold rCatL;exact⟨xs,zs,h1,h2,h3,q⟩
end
def rLeM:R2:=fun x y H Q=>match x,y with
 | .int i,.int j=>Q (.bl (decide (i<=j))) H
 | _,_=>False
def rGtM:R2:=fun x y H Q=>match x,y with
 | .int i,.int j=>Q (.bl (decide (j<i))) H
 | _,_=>False
theorem oLe:OpR X (compareOp .LtE) rLeM:=by
 intro pins s σ H x y v u Q I rx ry h
 unfold rLeM at h
 split at h
 ·exact op_le pins s σ H _ _ v u Q I rx ry ⟨_,_,rfl,rfl,h⟩
 ·exact h.elim
theorem oGt:OpR X (compareOp .Gt) rGtM:=by
 intro pins s σ H x y v u Q I rx ry h
 unfold rGtM at h
 split at h
 ·exact op_gt pins s σ H _ _ v u Q I rx ry ⟨_,_,rfl,rfl,h⟩
 ·exact h.elim
inductive EqR (K:zbp7) (H:Hp):Nat->V->V->Bool->Prop where
 | flat {n:Nat}{x y:V}(fx:zba7 x=true) (fy:zba7 y=true):EqR K H n x y (eqV x y)
 | tup {n:Nat}{a b:Addr}{xs ys:List V}(e:Nat->Bool) (ha:SqT K H a xs) (hb:SqT K H b ys) (h:∀ (j:Nat) (x y:V),xs[j]?=some x->ys[j]?=some y->EqR K H n x y (e j)) :
   EqR K H (n+1) (.ref a) (.ref b) ((List.range (min xs.length ys.length)).all e&&xs.length==ys.length)
 | lst {n:Nat}{a b:Addr}{xs ys:List V}(e:Nat->Bool) (ha:SqL K H a xs) (hb:SqL K H b ys) (hl:xs.length=ys.length) (h:∀ (j:Nat) (x y:V),xs[j]?=some x->ys[j]?=some y->EqR K H n x y (e j)) :
   EqR K H (n+1) (.ref a) (.ref b) ((List.range xs.length).all e)
 | lstN {n:Nat}{a b:Addr}{xs ys:List V}(ha:SqL K H a xs) (hb:SqL K H b ys) (hl:xs.length≠ys.length):EqR K H (n+1) (.ref a) (.ref b) false
theorem zbe8 {x:V}(f:zba7 x=true):eqV x x=true:=by
 cases x<;>first|rfl|(simp[eqV];done)|exact absurd (show false=true from f) zbq6
section
variable {pins:List (Addr×Obj)}{σ:St}{H:Hp}{s:Shared}
theorem EqR.self (I:Inv X pins σ H s) {n:Nat}{x y:V}{b:Bool}(h:EqR X.K H n x y b):x=y->b=true:=by
 induction h with
 | flat fx fy=>rintro rfl;exact zbe8 fx
 | tup e ha hb h ih=>
  intro q
  cases q
  have q:=I.tuple_inj ha hb
  subst q
  rw[Nat.min_self,zbr3]
  refine⟨zbr0.mpr fun j hj=>?_,by simp⟩
  have hj:=zbs1.mp hj
  exact ih j _ _ (zbp6 hj) (zbp6 hj) rfl
 | lst e ha hb hl h ih=>
  intro q
  cases q
  have q:=I.list_inj ha hb
  subst q
  refine zbr0.mpr fun j hj=>?_
  have hj:=zbs1.mp hj
  exact ih j _ _ (zbp6 hj) (zbp6 hj) rfl
 | lstN ha hb hl=>
  intro q
  cases q
  exact absurd (congrArg List.length (I.list_inj ha hb)) hl
theorem zk7 (A:Around):A.in1.units=A.units+1:=rfl
mutual
theorem EqR.at (I:Inv X pins σ H s):∀ {n:Nat}{x y:V}{b:Bool},EqR X.K H n x y b->∀ {u v:Value}{A:Around},RelV x u->RelV y v->A.units+n<cLine->SeqAt.EqAt A s u v b
 | _,_,_,_,.flat fx fy,u,v,A,rx,ry,_=>zbh3 rx ry fx fy
 | _,.ref a,.ref b,_,h,u,v,A,rx,ry,hu=>by
  cases rx
  cases ry
  by_cases e:a=b
  ·subst e
   rw[h.self I rfl]
   exact SeqAt.EqAt.same _
  ·exact SeqAt.EqAt.of_refs e (EqR.rc I h hu)
theorem EqR.rc (I:Inv X pins σ H s):∀ {n:Nat}{a b:Addr}{c:Bool},EqR X.K H n (.ref a) (.ref b) c->∀ {A:Around},A.units+n<cLine->SeqAt.RcAt A s (.ref a) (.ref b) c
 | _,_,_,_,.flat fx _,_,_=>absurd (show false=true from fx) zbq6
 | _,a,b,_,.tup (xs:=xs) (ys:=ys) e ha hb h,A,hu=>by
  obtain⟨its,r1,t1,z1⟩:=I.tuple ha
  obtain⟨its2,r2,t2,z2⟩:=I.tuple hb
  have l1:its.toArray.size=xs.length:=by rw[zbq3];exact r1.length.symm
  have l2:its2.toArray.size=ys.length:=by rw[zbq3];exact r2.length.symm
  have q:=SeqAt.RcAt.tuples (A:=A) (e:=e) t1 t2 (by omega) fun j h1 h2=>by
   rw[l1] at h1
   rw[l2] at h2
   obtain⟨u1,e1,q1⟩:=r1.get (zbp6 h1)
   obtain⟨u2,e2,q2⟩:=r2.get (zbp6 h2)
   have i1:its.toArray[j]=u1:=by
    have:=(zbp8.mp e1).2
    simpa using this
   have i2:its2.toArray[j]=u2:=by
    have:=(zbp8.mp e2).2
    simpa using this
   rw[i1,i2]
   exact EqR.at I (h j _ _ (zbp6 h1) (zbp6 h2)) q1 q2 (by rw[zk7];omega)
  rw[l1,l2] at q
  exact q
 | _,a,b,_,.lst (xs:=xs) (ys:=ys) e ha hb hl h,A,hu=>by
  obtain⟨its,r1,t1,z1⟩:=I.list ha
  obtain⟨its2,r2,t2,z2⟩:=I.list hb
  have l1:its.toArray.size=xs.length:=by rw[zbq3];exact r1.length.symm
  have l2:its2.toArray.size=ys.length:=by rw[zbq3];exact r2.length.symm
  have q:=SeqAt.RcAt.lists (A:=A) (e:=e) t1.isList t2.isList (by rw[l1,l2];exact hl) (by omega) fun j h1 h2=>by
   rw[l1] at h1
   rw[l2] at h2
   obtain⟨u1,e1,q1⟩:=r1.get (zbp6 h1)
   obtain⟨u2,e2,q2⟩:=r2.get (zbp6 h2)
   have i1:its.toArray[j]=u1:=by
    have:=(zbp8.mp e1).2
    simpa using this
   have i2:its2.toArray[j]=u2:=by
    have:=(zbp8.mp e2).2
    simpa using this
   rw[i1,i2]
   exact EqR.at I (h j _ _ (zbp6 h1) (zbp6 h2)) q1 q2 (by rw[zk7];omega)
  rw[l1] at q
  exact q
 | _,a,b,_,.lstN (xs:=xs) (ys:=ys) ha hb hl,A,hu=>by
  obtain⟨its,r1,t1,z1⟩:=I.list ha
  obtain⟨its2,r2,t2,z2⟩:=I.list hb
  have l1:its.toArray.size=xs.length:=by rw[zbq3];exact r1.length.symm
  have l2:its2.toArray.size=ys.length:=by rw[zbq3];exact r2.length.symm
  exact SeqAt.RcAt.lists_lengths t1.isList t2.isList (by rw[l1,l2];simpa using hl) (by omega)
end
theorem EqR.rcNe (I:Inv X pins σ H s):∀ {n:Nat}{a b:Addr}{c:Bool},EqR X.K H n (.ref a) (.ref b) c->∀ {A:Around},A.units+n<cLine->SeqAt.RcNeAt A s (.ref a) (.ref b) (!c)
 | _,_,_,_,.flat fx _,_,_=>absurd (show false=true from fx) zbq6
 | _,a,b,_,.tup (xs:=xs) (ys:=ys) e ha hb h,A,hu=>by
  obtain⟨its,r1,t1,z1⟩:=I.tuple ha
  obtain⟨its2,r2,t2,z2⟩:=I.tuple hb
  have l1:its.toArray.size=xs.length:=by rw[zbq3];exact r1.length.symm
  have l2:its2.toArray.size=ys.length:=by rw[zbq3];exact r2.length.symm
  have q:=SeqAt.RcNeAt.tuples (A:=A) (e:=e) t1 t2 (by omega) fun j h1 h2=>by
   rw[l1] at h1
   rw[l2] at h2
   obtain⟨u1,e1,q1⟩:=r1.get (zbp6 h1)
   obtain⟨u2,e2,q2⟩:=r2.get (zbp6 h2)
   have i1:its.toArray[j]=u1:=by
    have:=(zbp8.mp e1).2
    simpa using this
   have i2:its2.toArray[j]=u2:=by
    have:=(zbp8.mp e2).2
    simpa using this
   rw[i1,i2]
   exact EqR.at I (h j _ _ (zbp6 h1) (zbp6 h2)) q1 q2 (by rw[zk7];omega)
  rw[l1,l2] at q
  exact q
 | _,a,b,_,.lst (xs:=xs) (ys:=ys) e ha hb hl h,A,hu=>by
  obtain⟨its,r1,t1,z1⟩:=I.list ha
  obtain⟨its2,r2,t2,z2⟩:=I.list hb
  have l1:its.toArray.size=xs.length:=by rw[zbq3];exact r1.length.symm
  have l2:its2.toArray.size=ys.length:=by rw[zbq3];exact r2.length.symm
  have q:=SeqAt.RcNeAt.lists (A:=A) (e:=e) t1.isList t2.isList (by rw[l1,l2];exact hl) (by omega) fun j h1 h2=>by
   rw[l1] at h1
   rw[l2] at h2
   obtain⟨u1,e1,q1⟩:=r1.get (zbp6 h1)
   obtain⟨u2,e2,q2⟩:=r2.get (zbp6 h2)
   have i1:its.toArray[j]=u1:=by
    have:=(zbp8.mp e1).2
    simpa using this
   have i2:its2.toArray[j]=u2:=by
    have:=(zbp8.mp e2).2
    simpa using this
   rw[i1,i2]
   exact EqR.at I (h j _ _ (zbp6 h1) (zbp6 h2)) q1 q2 (by rw[zk7];omega)
  rw[l1] at q
  exact q
 | _,a,b,_,.lstN (xs:=xs) (ys:=ys) ha hb hl,A,hu=>by
  obtain⟨its,r1,t1,z1⟩:=I.list ha
  obtain⟨its2,r2,t2,z2⟩:=I.list hb
  have l1:its.toArray.size=xs.length:=by rw[zbq3];exact r1.length.symm
  have l2:its2.toArray.size=ys.length:=by rw[zbq3];exact r2.length.symm
  exact SeqAt.RcNeAt.lists_lengths t1.isList t2.isList (by rw[l1,l2];simpa using hl) (by omega)
end
@[irreducible] def rEqO (K:zbp7) (a b:Addr) (H:Hp) (Q:VK):Prop:=∃ n c,n<=40/\EqR K H n (.ref a) (.ref b) c/\Q (.bl c) H
def rEqM (K:zbp7):R2:=fun x y H Q=>match x,y with
 | .int i,.int j=>Q (.bl (decide (i=j))) H
 | .bl i,.bl j=>Q (.bl (decide (i=j))) H
 | .str i,.str j=>Q (.bl (decide (i=j))) H
 | .ref a,.ref b=>rEqO K a b H Q
 | x,y=>scal x y=true/\Q (.bl (decide (x=y))) H
def rNeM (K:zbp7):R2:=fun x y H Q=>rEqM K x y H fun v H'=>match v with
 | .bl b=>Q (.bl (!b)) H'
 | _=>False
theorem zt4 {α β:Type}[DecidableEq α] [DecidableEq β] {f:α->β}(hf:∀ a b,f a=f b->a=b) (a b:α):decide (f a=f b)=decide (a=b):=by
 by_cases h:a=b
 ·subst h;simp
 ·rw[decide_eq_false h,decide_eq_false fun e=>h (hf _ _ e)]
section
variable {K:zbp7}{H:Hp}{Q:VK}{a b:Addr}{c:Bool}{n:Nat}
end
def qB (t:TE):TT:=fun σ H Q=>t σ H fun x H1=>match x with
 | .bl c=>Q c H1
 | .int i=>Q (!decide (i=0)) H1
 | _=>False
theorem ptV {e:Expr}{t:TE}(h:PE X e t) (he:∀ whole,isTrue e X.env whole=(do let v ← whole;standAt e.pos;holding [v] (truthy v)):=by intro _;rfl):PT X e (qB t):=fun pins s σ H Q I hw=>by
 refine isTrue_plain (thn (h pins s σ H _ I hw) fun v s1 ⟨x,H1,I1,r1,q1⟩=>?_) (he _)
 dsimp only at q1
 split at q1
 ·exact zay3 pins s1 σ H1 _ v Q I1 r1 ⟨_,rfl,q1⟩
 ·rename_i i
  refine zay3 pins s1 σ H1 _ v Q I1 r1 ⟨_,rfl,?_⟩
  have e:(i != 0)=!decide (i=0):=by by_cases h:i=0<;>simp[h]
  rw[e];exact q1
 ·exact q1.elim
theorem ptC {a b:Expr}{ta tb:TE}{pos:Pos}{op:CmpOp}{r:R2}(ho:OpR X (compareOp op) r) (ha:PE X a ta) (hb:PE X b tb) (hm:behindInMarks op b=false:=by first|exact zbh8 _|with_unfolding_all rfl):PT X (.Compare a [op] [b] pos) (qB (tOp r ta tb)):=by
 intro pins s σ H Q I h
 refine wpAny_isTrue_Compare1 (thn (ha pins s σ H _ I h) fun v s1 ⟨x,H1,I1,r1,q1⟩=>thn (hb pins s1 σ H1 _ I1 q1) fun u s2 ⟨y,H2,I2,r2,q2⟩=>
  thn (ho pins s2 σ H2 x y v u _ I2 r1 r2 q2) fun c s3 ⟨z,H3,I3,r3,q3⟩=>?_) hm
 dsimp only at q3
 split at q3
 ·cases r3
  exact wpAny_truthy_bool ⟨H3,I3,q3⟩
 ·rename_i i
  refine zay3 pins s3 σ H3 _ c Q I3 r3 ⟨_,rfl,?_⟩
  have e:(i != 0)=!decide (i=0):=by by_cases h:i=0<;>simp[h]
  rw[e];exact q3
 ·exact q3.elim
theorem peC {a b:Expr}{ta tb:TE}{pos:Pos}{op:CmpOp}{r:R2}(ho:OpR X (compareOp op) r) (ha:PE X a ta) (hb:PE X b tb) (hm:behindInMarks op b=false:=by first|exact zbh8 _|with_unfolding_all rfl):PE X (.Compare a [op] [b] pos) (tOp r ta tb):=
 zbi6 ho ha hb hm
variable {a b:Expr}{rest:List Expr}{tA tB':TT}{ta tb:TE}{pos:Pos}
def qAnd (t u:TT):TT:=fun σ H Q=>t σ H fun c H1=>br c (u σ H1 Q) (Q false H1)
def qOr (t u:TT):TT:=fun σ H Q=>t σ H fun c H1=>br c (Q true H1) (u σ H1 Q)
theorem pwAnd (ha:PT X a tA) (hb:PW X (.BoolOp .And (b :: rest) pos) tB'):PW X (.BoolOp .And (a :: b :: rest) pos) (qAnd tA tB'):=fun wh pins s σ H Q I h=>
 pw_and ha hb wh pins s σ H Q I (by unfold qAnd at h;simp only[zw1] at h;exact h)
theorem pwOr (ha:PT X a tA) (hb:PW X (.BoolOp .Or (b :: rest) pos) tB'):PW X (.BoolOp .Or (a :: b :: rest) pos) (qOr tA tB'):=fun wh pins s σ H Q I h=>
 pw_or ha hb wh pins s σ H Q I (by unfold qOr at h;simp only[zw1] at h;exact h)
def qAndV (ta tb:TE):TE:=fun σ H Q=>ta σ H fun x H1=>match x with
 | .bl c=>br c (tb σ H1 Q) (Q (.bl false) H1)
 | _=>False
def qNotV (ta:TE):TE:=fun σ H Q=>ta σ H fun x H1=>match x with
 | .bl c=>Q (.bl (!c)) H1
 | _=>False
theorem zu2 (ha:PE X a ta) (hb:PE X (.BoolOp .And (b :: rest) pos) tb):PE X (.BoolOp .And (a :: b :: rest) pos) (qAndV ta tb):=by
 intro pins s σ H Q I h
 refine BoolOp_and (thn (ha pins s σ H _ I h) fun v s1 ⟨x,H1,I1,r1,q1⟩=>?_)
 dsimp only at q1
 split at q1
 ·rename_i c
  cases r1
  refine wpAny_truthy_bool ?_
  rw[zw1] at q1
  cases c with
  | true=>exact hb pins s1 σ H1 Q I1 (by simpa using q1)
  | false=>exact⟨.bl false,H1,I1,rfl,by simpa using q1⟩
 ·exact q1.elim
theorem peNot (ha:PE X a ta):PE X (.UnaryOp .Not a pos) (qNotV ta):=by
 intro pins s σ H Q I h
 refine UnaryOp_ (thn (ha pins s σ H _ I h) fun v s1 ⟨x,H1,I1,r1,q1⟩=>?_)
 dsimp only at q1
 split at q1
 ·rename_i c
  cases r1
  exact not_of (wpAny_truthy_bool ⟨.bl (!c),H1,I1,rfl,q1⟩)
 ·exact q1.elim
def qIf (t:TT) (ta tb:TE):TE:=fun σ H Q=>t σ H fun c H1=>br c (ta σ H1 Q) (tb σ H1 Q)
theorem peIf {c:Expr}(hc:PT X c tA) (ha:PE X a ta) (hb:PE X b tb):PE X (.IfExp c a b pos) (qIf tA ta tb):=fun pins s σ H Q I h=>
 zbd0 hc ha hb pins s σ H Q I (by unfold qIf at h;simp only[zw1] at h;exact h)
variable {st:Stmt}{t u:TS}{e:Expr}{te:TE}
def qIfS (c:TT) (t u:TS):TS:=fun D σ H=>c σ H fun b H1=>br b (t D σ H1) (u D σ H1)
theorem psIf {c:Expr}{a b:List Stmt}{tc:TT}(hc:PT X c tc) (ha:PSs X a t) (hb:PSs X b u):PS X (.If c a b pos) (qIfS tc t u):=fun pins s σ H D I h=>
 ps_if hc ha hb pins s σ H D I (by unfold qIfS at h;simp only[zw1] at h;exact h)
@[irreducible] def zar7 (J:It) (g:TG) (tb:TS) (D:Ends) (σ:St) (H1:Hp):Prop:=∃ W:Nat->Nat->St->Hp->Prop,(∃ m,W 0 m σ H1)/\∀ i m σ H,W i m σ H ->
 (J.stop i H/\D.nx σ H)∨(J.go i H/\∃ N:St->Hp->Prop,(∀ σ' H',N σ' H'->∃ m',m'<m/\W (i+1) m' σ' H')/\∀ x H',J.yld i H x H'->g x σ H' fun σ2 H2=>tb { D with nx:=N,ct:=N,bk:=D.nx } σ2 H2)
def qFor (wi:TI) (g:TG) (tb:TS):TS:=fun D σ H=>wi σ H fun J H1=>zar7 J g tb D σ H1
theorem zu5 {iter tg:Expr}{body:List Stmt}{wi:TI}{g:TG}{tb:TS}{pos:Pos}(hp:PassesOwn (model X.prog X.w) X.A X.env X.xe) (hc:X.calm=true) (hi:PI X tg iter wi) (hg:PG X tg g) (hb:PSs X body tb)
  (hs:∀ x,foldedSetIterable iter X.env x=pure x:=by intro _;rfl):PS X (.For tg iter body [] pos) (qFor wi g tb):=fun pins s σ H D I h=>
 ps_for hp hc hi hg hb hs pins s σ H D I (by unfold qFor at h;unfold zar7 at h;exact h)
@[irreducible] def zaq1 (K:zbp7) (a:Addr) (H:Hp) (R:It->Hp->Prop):Prop:=((∃ xs,SqL K H a xs)/\R (Itl K a) H)∨((∃ xs,SqT K H a xs)/\R (Itt K a) H)
def qiSeq (K:zbp7) (tl:TE):TI:=fun σ H R=>tl σ H fun x H1=>match x with
 | .ref a=>zaq1 K a H1 R
 | _=>False
theorem piSeq {tg l:Expr}{tl:TE}(hl:PE X l tl):PI X tg l (qiSeq X.K tl):=by
 intro pins s σ H R I h
 refine thn (hl pins s σ H _ I h) fun v s1 ⟨x,H1,I1,r1,q1⟩=>?_
 dsimp only at q1
 split at q1
 ·rename_i a
  unfold zaq1 at q1
  cases r1
  have fp:∀ b∈[s1.heap.objs.size],FpOk X pins H1 b:=fun b hb=>by
   have e:b=s1.heap.objs.size:=by simpa using hb
   subst e
   exact I1.fpOk (zbq9 _) (I1.hok.fresh (zbq9 _))
  rcases q1 with ⟨⟨xs,hq⟩,q⟩|⟨⟨xs,hq⟩,q⟩
  ·obtain⟨its,rv,p,hz⟩:=I1.list hq
   refine wpAny_pyIter_list p.isList ?_
   exact⟨s1.heap.objs.size,[s1.heap.objs.size],_,_,H1,rfl,I1.kept (t':=s1.toks) fun b o e=>zbq1 _ e,zau8 a _,⟨_,zbr8 _ rfl,rfl,rfl⟩,fp,q⟩
  ·obtain⟨its,rv,p,hz⟩:=I1.tuple hq
   refine wpAny_pyIter_tuple (show s1.heap.IsTuple a its.toArray from p) ?_
   exact⟨s1.heap.objs.size,[s1.heap.objs.size],_,_,H1,rfl,I1.kept (t':=s1.toks) fun b o e=>zbq1 _ e,zas0 a _,⟨_,zbr8 _ rfl,rfl,rfl⟩,fp,q⟩
 ·exact q1.elim
@[irreducible] def zaa4 (i j:Int) (H:Hp) (R:It->Hp->Prop):Prop:=(-(2 ^ 62)<=i/\i<2 ^ 62/\-(2 ^ 62)<=j/\j<2 ^ 62)/\R (Itr i (j - i).toNat) H
def qiRng (ta:TA):TI:=fun σ H R=>ta σ H fun vs H1=>match vs with
 | [.int j]=>zaa4 0 j H1 R
 | [.int i,.int j]=>zaa4 i j H1 R
 | _=>False
theorem zae0 {tg a:Expr}{ta:TA}{p pos:Pos}(hm:X.mg "range"=none) (ha:PA X [a] ta) (hg:Gl X "range":=by rfl) (hs:starEach [a] X.env=[(false,eval a X.env)]:=by rfl):PI X tg (.Call (.Name "range" p) [a] [] pos) (qiRng ta):=by
 intro pins s σ H R I h
 refine Call_ (zx3 I hg hm boot_range (PyProof.Rows.callWith_type1 (thn (ha pos pins s σ H _ I h) fun us s1 ⟨vs,H1,I1,r1,q1⟩=>?_) hs rfl))
 dsimp only at q1
 split at q1
 ·unfold zaa4 at q1
  obtain⟨⟨a1,a2,a3,a4⟩,q⟩:=q1
  cases r1 with
  | cons r rr=>
   cases rr
   obtain⟨t,rfl⟩:=r
   exact call_range_1 (zal2 I1 a1 a2 a3 a4 q)
 ·unfold zaa4 at q1
  cases r1 with
  | cons r rr=>
   cases rr with
   | cons r' rr=>
    cases rr
    obtain⟨t,rfl⟩:=r
    obtain⟨t',rfl⟩:=r'
    obtain⟨⟨a1,a2,a3,a4⟩,q⟩:=q1
    exact call_range_2 (zal2 I1 a1 a2 a3 a4 q)
 ·exact q1.elim
section
variable {K:zbp7}{g:TG}{tb:TS}{D:Ends}{σ:St}{H:Hp}{R:It->Hp->Prop}
theorem zd6 {a:Addr}{xs:List V}(h:H a=some (.lst xs)) (q:R (Itl K a) H):zaq1 K a H R:=by unfold zaq1;exact .inl ⟨⟨xs,SqL.of h⟩,q⟩
theorem zbe2 {a:Addr}{xs:List V}(h:H a=some (.tup xs)) (q:R (Itt K a) H):zaq1 K a H R:=by unfold zaq1;exact .inr ⟨⟨xs,SqT.of h⟩,q⟩
theorem zr3 {i j:Int}(h1:-(2 ^ 62)<=i) (h2:i<2 ^ 62) (h3:-(2 ^ 62)<=j) (h4:j<2 ^ 62) (q:R (Itr i (j - i).toNat) H):zaa4 i j H R:=by unfold zaa4;exact⟨⟨h1,h2,h3,h4⟩,q⟩
theorem zk5 {a:Addr}{xs:List V}(Pv:Nat->St->Hp->Prop) (h0:Pv 0 σ H) (hl:∀ i σ H,i<=xs.length->Pv i σ H->SqL K H a xs)
  (hs:∀ i x σ H,xs[i]?=some x->Pv i σ H->g x σ H fun σ2 H2=>tb { D with nx:=Pv (i+1),ct:=Pv (i+1),bk:=D.nx } σ2 H2) (hd:∀ σ H,Pv xs.length σ H->D.nx σ H):zar7 (Itl K a) g tb D σ H:=by
 unfold zar7;exact zbd6 Pv h0 hl hs hd
theorem zn4 {lo:Int}{n:Nat}(Pv:Nat->St->Hp->Prop) (h0:Pv 0 σ H)
  (hs:∀ i σ H,i<n->Pv i σ H->g (.int (lo+i)) σ H fun σ2 H2=>tb { D with nx:=Pv (i+1),ct:=Pv (i+1),bk:=D.nx } σ2 H2) (hd:∀ σ H,Pv n σ H->D.nx σ H):zar7 (Itr lo n) g tb D σ H:=by
 unfold zar7;exact zas8 Pv h0 hs hd
end
section
variable {c:TT}{tb:TS}{D:Ends}{σ:St}{H H1:Hp}{W:Nat->St->Hp->Prop}{m:Nat}{p:Prop}
end
@[irreducible] def rNewT (xs:List V) (H:Hp) (Q:VK):Prop:=xs.length<=sizeLine/\∀ p H',H p=none->Same H H'->H' p=some (.tup xs)->Q (.ref p) H'
@[irreducible] def rNewL (xs:List V) (H:Hp) (Q:VK):Prop:=xs.length<=sizeLine/\∀ p H',H p=none->Same H H'->H' p=some (.lst xs)->Q (.ref p) H'
def qTup (t:TA):TE:=fun σ H Q=>t σ H fun xs H1=>rNewT xs H1 Q
def qLst (t:TA):TE:=fun σ H Q=>t σ H fun xs H1=>rNewL xs H1 Q
theorem zx7 {es:List Expr}{x1} {t:TA}(h:PA X es t):PE X (.Tuple es x1 pos) (qTup t):=by
 intro pins s σ H Q I hq
 refine wpAny_Tuple_spliced (thn (h pos pins s σ H _ I hq) fun us s1 ⟨xs,H1,I1,r,z⟩=>?_)
 unfold rNewT at z
 obtain⟨z,q⟩:=z
 refine⟨by rw[← r.length];exact z,?_⟩
 have hf:H1 s1.heap.objs.size=none:=I1.hok.fresh (zbq9 _)
 refine⟨.ref s1.heap.objs.size,upd H1 s1.heap.objs.size (.tup xs),I1.laid (t':=s1.toks) (fun b u e=>zbq1 _ e) (zbq9 _) ?_,rfl,q _ _ hf (Same.upd hf) zb7⟩
 exact⟨z,us,r,⟨_,zbr8 _ rfl,rfl,_,rfl⟩⟩
theorem zp0 {es:List Expr}{t:TA}(h:PA X es t):PE X (.List es pos) (qLst t):=by
 intro pins s σ H Q I hq
 refine wpAny_List_spliced (thn (h pos pins s σ H _ I hq) fun us s1 ⟨xs,H1,I1,r,z⟩=>?_)
 unfold rNewL at z
 obtain⟨z,q⟩:=z
 refine⟨by rw[← r.length];exact z,?_⟩
 have hf:H1 s1.heap.objs.size=none:=I1.hok.fresh (zbq9 _)
 refine⟨.ref s1.heap.objs.size,upd H1 s1.heap.objs.size (.lst xs),I1.laid (t':=s1.toks) (fun b u e=>zbq1 _ e) (zbq9 _) ?_,rfl,q _ _ hf (Same.upd hf) zb7⟩
 exact⟨z,us,0,r,zbr8 _ rfl⟩
@[irreducible] def rIxA (K:zbp7) (p:Addr) (i:Int) (H:Hp) (Q:VK):Prop:=∃ xs v,(SqL K H p xs∨SqT K H p xs)/\atI xs i=some v/\Q v H
def rIxM (K:zbp7):R2:=fun x y H Q=>match x,y with
 | .ref p,.int i=>rIxA K p i H Q
 | .str z,.int i=>∃ c,z.length<=sizeLine/\atI z.cps.toList i=some c/\Q (.str ⟨#[c]⟩) H
 | _,_=>False
theorem ixM:IxR X (rIxM X.K):=by
 intro value slice pins s σ H x y v u Q I rx ry h hs
 unfold rIxM at h
 split at h
 ·unfold rIxA at h
  obtain⟨xs,z,h1,h2,q⟩:=h
  rcases h1 with h1|h1
  ·exact zbk3 value slice pins s σ H _ _ v u Q I rx ry ⟨_,xs,_,z,rfl,rfl,h1,h2,q⟩ hs
  ·exact ix_tup value slice pins s σ H _ _ v u Q I rx ry ⟨_,xs,_,z,rfl,rfl,h1,h2,q⟩ hs
 ·obtain⟨c,h1,h2,q⟩:=h
  exact ix_str value slice pins s σ H _ _ v u Q I rx ry ⟨_,_,c,rfl,rfl,h1,h2,q⟩ hs
 ·exact h.elim
theorem peIx (ha:PE X a ta) (hb:PE X b tb) (hs:zac6 b:=by exact fun _ _=>rfl):PE X (.Subscript a b pos) (tOp (rIxM X.K) ta tb):=pe_ix ixM ha hb hs
@[irreducible] def rSetA (p:Addr) (k:Int) (v:V) (H:Hp) (Q:Hp->Prop):Prop:=∃ xs j,H p=some (.lst xs)/\ixN xs.length k=some j/\∀ H',Chg p H H'->H' p=some (.lst (xs.set j v))->Q H'
def rSetM:TSet:=fun o i v H Q=>match o,i with
 | .ref p,.int k=>rSetA p k v H Q
 | _,_=>False
theorem setM:PSet X rSetM:=by
 intro pins s σ H o i v ov iv u Q I ro ri rv h
 unfold rSetM at h
 split at h
 ·unfold rSetA at h
  obtain⟨xs,j,h1,h2,q⟩:=h
  exact zbc4 pins s σ H _ _ v ov iv u Q I ro ri rv ⟨_,xs,_,j,rfl,rfl,h1,h2,q _ Chg.upd zb7⟩
 ·exact h.elim
def qPart (t:TE):TO:=fun σ H Q=>t σ H fun x H1=>match x with
 | .int i=>Q (some i) H1
 | _=>False
theorem ze1 (h:PE X e te):PO X (some e) (qPart te):=by
 intro pins s σ H Q I hw
 rw[evalPart_some]
 refine thn (h pins s σ H _ I hw) fun u s1 ⟨x,H1,I1,r1,q1⟩=>?_
 dsimp only at q1
 split at q1
 ·rename_i i
  obtain⟨t,rfl⟩:=r1
  exact⟨some i,H1,I1,.int i t,q1⟩
 ·exact q1.elim
section
variable {K:zbp7}{H:Hp}{Q:VK}{p:Addr}{xs:List V}{v:V}{i:Int}
theorem zb8 (q:∀ p H',H p=none->Same H H'->H' p=some (.tup xs)->Q (.ref p) H') (h:xs.length<=sizeLine:=by first|assumption|(simp only[zbq5,zbr1,Nat.zero_add,Nat.reduceAdd];decide)):rNewT xs H Q:=by unfold rNewT;exact⟨h,q⟩
theorem zc4 (q:∀ p H',H p=none->Same H H'->H' p=some (.lst xs)->Q (.ref p) H') (h:xs.length<=sizeLine:=by first|assumption|(simp only[zbq5,zbr1,Nat.zero_add,Nat.reduceAdd];decide)):rNewL xs H Q:=by unfold rNewL;exact⟨h,q⟩
theorem zh4 (h:H p=some (.tup xs)) (e:atI xs i=some v) (q:Q v H):rIxA K p i H Q:=by unfold rIxA;exact⟨xs,v,.inr (SqT.of h),e,q⟩
theorem zd4 (h:H p=some (.lst xs)) (e:atI xs i=some v) (q:Q v H):rIxA K p i H Q:=by unfold rIxA;exact⟨xs,v,.inl (SqL.of h),e,q⟩
theorem zag0 {R:Hp->Prop}{j:Nat}(h:H p=some (.lst xs)) (e:ixN xs.length i=some j) (q:∀ H',Chg p H H'->H' p=some (.lst (xs.set j v))->R H'):rSetA p i v H R:=by unfold rSetA;exact⟨xs,j,h,e,q⟩
end
def qgNil:TGs:=fun vs σ H Q=>match vs with
 | []=>Q σ H
 | _=>False
def zbf9 (t:TG) (u:TGs):TGs:=fun vs σ H Q=>match vs with
 | v :: r=>t v σ H fun σ' H'=>u r σ' H' Q
 | _=>False
theorem zo5:PGs X [] qgNil:=fun pins s σ H vs us Q I r h=>by
 unfold qgNil at h
 split at h
 ·exact zbi3 pins s σ H _ us Q I r ⟨rfl,h⟩
 ·exact h.elim
theorem zc6 {e:Expr}{es:List Expr}{t:TG}{u:TGs}(h1:PG X e t) (h2:PGs X es u)
  (hs:(assignEach (e :: es) X.env).map (·.2)=assign e X.env :: (assignEach es X.env).map (·.2):=by rfl):PGs X (e :: es) (zbf9 t u):=fun pins s σ H vs us Q I r h=>by
 unfold zbf9 at h
 split at h
 ·exact zbb3 h1 h2 hs pins s σ H _ us Q I r ⟨_,_,rfl,h⟩
 ·exact h.elim
end
end L2
set_option maxHeartbeats 1000000
namespace L2
open PySem PySem.Spec PyProof.Rows
section
variable {X:Cx}
def rAbsM:List V->Hp->VK->Prop:=fun xs H Q=>match xs with
 | [.int i]=>Q (.int (i.natAbs:Int)) H
 | _=>False
@[irreducible] def zar3 (K:zbp7) (p:Addr) (H:Hp) (Q:VK):Prop:=∃ ys,(SqL K H p ys∨SqT K H p ys)/\Q (.int ys.length) H
def rLenM (K:zbp7):List V->Hp->VK->Prop:=fun xs H Q=>match xs with
 | [.ref p]=>zar3 K p H Q
 | [.str z]=>z.length<=sizeLine/\Q (.int z.length) H
 | _=>False
theorem cLen:zl0 X (.builtin "len") (rLenM X.K):=fun pins s σ H xs us Q I r h=>by
 unfold rLenM at h
 split at h
 ·unfold zar3 at h
  obtain⟨ys,h1,h2⟩:=h
  exact zad7 pins s σ H _ us Q I r ⟨_,ys,rfl,h1,h2⟩
 ·exact zah7 pins s σ H _ us Q I r ⟨_,rfl,h.1,h.2⟩
 ·exact h.elim
@[irreducible] def zq9 (K:zbp7) (x c:V) (H:Hp) (Q:VK):Prop:=∃ t b,TyOf K H x t/\(∀ cv,RelV c cv->zbv9 K t cv=some b)/\Q (.bl b) H
def rIsiM (K:zbp7):List V->Hp->VK->Prop:=fun xs H Q=>match xs with
 | [x,c]=>zq9 K x c H Q
 | _=>False
theorem cIsi:zl0 X (.builtin "isinstance") (rIsiM X.K):=fun pins s σ H xs us Q I r h=>by
 unfold rIsiM at h
 split at h
 ·unfold zq9 at h
  obtain⟨t,b,h1,h2,h3⟩:=h
  obtain⟨u,w,rfl,r1,r2⟩:=zaq8 r
  exact zav9 I r1 h1 (h2 _ r2) fun tk=>⟨.bl b,H,I.tok _,rfl,h3⟩
 ·exact h.elim
section
variable {K:zbp7}{H:Hp}{Q:VK}{p:Addr}{xs:List V}
theorem zg3 (h:H p=some (.lst xs)) (q:Q (.int xs.length) H):zar3 K p H Q:=by unfold zar3;exact⟨xs,.inl (SqL.of h),q⟩
theorem zai6 (h:H p=some (.tup xs)) (q:Q (.int xs.length) H):zar3 K p H Q:=by unfold zar3;exact⟨xs,.inr (SqT.of h),q⟩
theorem zab4 {i:Int}{n:String}{b:Bool}(q:Q (.bl b) H) (e:zbv9 K (.type "int") (.type n)=some b:=by rfl):zq9 K (.int i) (.ty n) H Q:=by
 unfold zq9;exact⟨_,b,.int i,fun cv r=>by cases r;exact e,q⟩
theorem zx8 {i:Bool}{n:String}{b:Bool}(q:Q (.bl b) H) (e:zbv9 K (.type "bool") (.type n)=some b:=by rfl):zq9 K (.bl i) (.ty n) H Q:=by
 unfold zq9;exact⟨_,b,.bl i,fun cv r=>by cases r;exact e,q⟩
theorem zbm9 {n:String}{b:Bool}(q:Q (.bl b) H) (e:zbv9 K (.type "NoneType") (.type n)=some b:=by rfl):zq9 K .non (.ty n) H Q:=by
 unfold zq9;exact⟨_,b,.non,fun cv r=>by cases r;exact e,q⟩
theorem zbi9 {x:Str}{n:String}{b:Bool}(q:Q (.bl b) H) (e:zbv9 K (.type "str") (.type n)=some b:=by rfl):zq9 K (.str x) (.ty n) H Q:=by
 unfold zq9;exact⟨_,b,.str x,fun cv r=>by cases r;exact e,q⟩
theorem zat3 {n:String}{b:Bool}(h:H p=some (.tup xs)) (q:Q (.bl b) H) (e:zbv9 K (.type "tuple") (.type n)=some b:=by rfl):zq9 K (.ref p) (.ty n) H Q:=by
 unfold zq9;exact⟨_,b,.tup h,fun cv r=>by cases r;exact e,q⟩
theorem zaw2 {n:String}{b:Bool}(h:H p=some (.lst xs)) (q:Q (.bl b) H) (e:zbv9 K (.type "list") (.type n)=some b:=by rfl):zq9 K (.ref p) (.ty n) H Q:=by
 unfold zq9;exact⟨_,b,.lst h,fun cv r=>by cases r;exact e,q⟩
end
theorem zbf3:bootBuiltins "max"=some (.builtin "max"):=by decide +kernel
theorem zbh4:bootBuiltins "min"=some (.builtin "min"):=by decide +kernel
theorem zi6:bootBuiltins "len"=some (.builtin "len"):=by decide +kernel
theorem zbi1:bootBuiltins "sum"=some (.builtin "sum"):=by decide +kernel
theorem zaa1:bootBuiltins "all"=some (.builtin "all"):=by decide +kernel
theorem zb5:bootBuiltins "isinstance"=some (.builtin "isinstance"):=by decide +kernel
theorem zs0:bootBuiltins "sorted"=some (.builtin "sorted"):=by decide +kernel
theorem zbg2:bootBuiltins "int"=some (.type "int"):=by decide +kernel
theorem zaj4:bootBuiltins "bool"=some (.type "bool"):=by decide +kernel
theorem zm6:bootBuiltins "list"=some (.type "list"):=by decide +kernel
theorem zu9:bootBuiltins "tuple"=some (.type "tuple"):=by decide +kernel
theorem pTy {x:Str}{n:String}{pos:Pos}(hm:X.mg x=none) (hv:bootBuiltins x=some (.type n)) (hg:Gl X x:=by rfl) (hn:x≠"__name__":=by decide) (hd:(x==("__debug__":Str))=false:=by decide):PE X (.Name x pos) (tC (.ty n)):=
 zbk8 hg hm hv rfl hn hd
theorem pB {x:Str}{p pos:Pos}{e:Expr}{es:List Expr}{t:TA}{id:String}{r:List V->Hp->VK->Prop}(hc:zl0 X (.builtin id) r) (hm:X.mg x=none) (hv:bootBuiltins x=some (.builtin id)) (ha:PA X (e :: es) t) (hg:Gl X x:=by rfl) (hn:x≠"__name__":=by decide) (hdb:(x==("__debug__":Str))=false:=by decide)
  (he:starEach (e :: es) X.env=(false,eval e X.env) :: starEach es X.env:=by rfl) (hpl:(backTo pos (starEach es X.env)).any (·.1)=false:=by rfl):PE X (.Call (.Name x p) (e :: es) [] pos) (tCB r t):=zbf0 hc hg hm hv ha hn hdb he hpl
theorem pT {x:Str}{p pos:Pos}{e:Expr}{es:List Expr}{t:TA}{id:String}{r:List V->Hp->VK->Prop}(hc:zl0 X (.type id) r) (hm:X.mg x=none) (hv:bootBuiltins x=some (.type id)) (ha:PA X (e :: es) t) (hg:Gl X x:=by rfl) (hn:x≠"__name__":=by decide) (hdb:(x==("__debug__":Str))=false:=by decide)
  (he:starEach (e :: es) X.env=(false,eval e X.env) :: starEach es X.env:=by rfl) (hpl:(backTo pos (starEach es X.env)).any (·.1)=false:=by rfl):PE X (.Call (.Name x p) (e :: es) [] pos) (tCB r t):=zba3 hc hg hm hv ha hn hdb he hpl
structure Def (P:Program) (w:World) (K:zbp7) (mg:Str->Option Value) (base:Heap) (CX:CXT) (k:Nat) (x:Str) (ps:List Str) (sp:Sp):Prop where
 ex:∃ (f:Addr) (fd:FuncData),FnOk P w K mg base CX k f fd ps sp/\mg x=some (.ref f)/\zbr9 K (.ref f)=true/\zap7 K fd ps []
def qCall (sp:Sp) (E:XK) (t:TA):TE:=fun σ H Q=>t σ H fun vs H1=>sp vs H1 Q E
theorem pD {CX:CXT}{k j:Nat}{x:Str}{ps:List Str}{sp:Sp}{E:XK}{p pos:Pos}{e:Expr}{es:List Expr}{t:TA}(F:Def X.prog X.w X.K X.mg X.base CX k x ps sp) (hr:Room j X.A) (hx:zal9 CX X E) (ha:PA X (e :: es) t) (hk:k<=j:=by decide) (hg:Gl X x:=by rfl)
  (hdb:(x==("__debug__":Str))=false:=by decide) (he:starEach (e :: es) X.env=(false,eval e X.env) :: starEach es X.env:=by rfl) (hpl:(backTo pos (starEach es X.env)).any (·.1)=false:=by rfl) :
  PE X (.Call (.Name x p) (e :: es) [] pos) (qCall sp E t):=by
 obtain⟨f,fd,F1,F2,F3,F4⟩:=F.ex
 intro pins s σ H Q I h
 refine zbk7 F1 (hr.mono hk) hg F2 F3 F4 .nil hx ha hdb he hpl pins s σ H Q I ?_
 unfold tCall
 simp only[List.append_nil]
 exact h
theorem psS {i:Nat}{x:Str}{e:Expr}{te:TE}{pos' pos:Pos}(hN:X.N.Nodup) (he:PE X e te) (hi:X.N[i]?=some x:=by rfl) (hx:Loc X.env.scope x:=by first|exact Or.inl rfl|exact Or.inr rfl) (hs:swapsWith e (some (.Name x pos')) pos.line X.env=pure false:=by rfl) (hf:X.fn x=true∨X.env.scope.names.lookup x=some .local:=by first|exact .inl rfl|exact .inr rfl|assumption) :
  PS X (.Assign [.Name x pos'] e pos) (tAsg te (zaw7 i)):=zbf8 hN hi hx he hs hf
section
variable {K:zbp7}{H:Hp}{Q:VK}{p:Addr}{xs:List V}{i j:Int}
theorem zai7 (h1:-18446744073709551616<i) (h2:i<18446744073709551616) (q:Q (.int (i*j)) H):zap6 i j H Q:=zbh6 (.of_left (intBits_le_64 (by simpa using h1) (by simpa using h2))) q
theorem zbl8 (h1:-18446744073709551616<j) (h2:j<18446744073709551616) (q:Q (.int (i*j)) H):zap6 i j H Q:=zbh6 (.of_right (intBits_le_64 (by simpa using h1) (by simpa using h2))) q
theorem zq5 (h:0<j) (q:∀ r:Int,0<=r->r<j->Q (.int r) H):zav4 i j H Q:=mod_rd h (q _ (Int.emod_nonneg _ (by omega)) (Int.emod_lt_of_pos _ h))
theorem zl4 (h:H p=some (.lst xs)) (h0:0<=i) (h1:i<xs.length) (q:∀ v,v∈xs->Q v H):rIxA K p i H Q:=by
 have hl:i.toNat<xs.length:=by omega
 refine zd4 h (v:=xs[i.toNat]) ?_ (q _ (List.getElem_mem hl))
 have e:((i.toNat:Nat):Int)=i:=by omega
 have z:=zm2 (zbp6 hl)
 rw[e] at z
 exact z
theorem hu40 {A:Around}{k:Nat}(hr:Room k A):A.units+40<cLine:=by have:=hr.units;omega
end
@[irreducible] def qCut (t:TS):TS:=fun D σ H=>∃ R:St->Hp->Prop,t { D with nx:=R } σ H/\∀ σ' H',R σ' H'->D.nx σ' H'
theorem psCut {st:Stmt}{t:TS}(h:PS X st t):PS X st (qCut t):=fun pins s σ H D I hq=>by
 unfold qCut at hq
 obtain⟨R,h1,h2⟩:=hq
 refine thn (h pins s σ H _ I h1) fun f s' q=>?_
 cases f with
 | next=>obtain⟨σ',H',I',z⟩:=q;exact⟨σ',H',I',h2 _ _ z⟩
 | brk=>exact q
 | cont=>exact q
 | ret u=>exact q
theorem zbi0 {t:TS}{D:Ends}{σ:St}{H:Hp}(R:St->Hp->Prop) (h1:t { D with nx:=R } σ H) (h2:∀ σ' H',R σ' H'->D.nx σ' H'):qCut t D σ H:=by unfold qCut;exact⟨R,h1,h2⟩
theorem EqR.ints2 {K:zbp7}{H:Hp}{a b:Addr}{t u x y:Int}(ha:H a=some (.tup [.int t,.int u])) (hb:H b=some (.tup [.int x,.int y])):EqR K H 1 (.ref a) (.ref b) (decide (t=x/\u=y)):=by
 have h:=EqR.tup (K:=K) (H:=H) (n:=0) (fun j=>match j with|0=>decide (t=x)|1=>decide (u=y)|_=>true) (SqT.of ha) (SqT.of hb) (fun j p q hp hq=>by
  have fl:∀ (i k:Int),EqR K H 0 (.int i) (.int k) (decide (i=k)):=fun i k=>by
   have:=EqR.flat (K:=K) (H:=H) (n:=0) (x:=.int i) (y:=.int k) rfl rfl
   have e:eqV (.int i) (.int k)=decide (i=k):=by
    by_cases z:i=k
    ·subst z;simp[eqV]
    ·simp[eqV,z]
   rw[e] at this;exact this
  match j with
  | 0=>simp at hp hq;subst hp hq;exact fl t x
  | 1=>simp at hp hq;subst hp hq;exact fl u y
  | j+2=>simp at hp)
 have e:((List.range (min [V.int t,V.int u].length [V.int x,V.int y].length)).all (fun j=>match j with|0=>decide (t=x)|1=>decide (u=y)|_=>true)&&([V.int t,V.int u].length==[V.int x,V.int y].length))=decide (t=x/\u=y):=by
  show ((decide (t=x)&&(decide (u=y)&&true))&&true)=_
  rw[Bool.and_true,Bool.and_true,Bool.decide_and]
 rw[e] at h
 exact h
end
end L2
set_option maxHeartbeats 2000000
namespace L2
open PySem PySem.Spec PyProof.Rows
theorem zs7 {env:Env}:∀ (names:List (Str×NameKind)) (acc:List (Str×Addr)),(∀ x∈names,x.2=.free->∃ c,env.cells.lookup x.1=some c) ->
  ∃ acc',(forIn (m:=Sem) names acc (fun (x:Str×NameKind) (r:List (Str×Addr))=>if (x.2==.free)=true then (do let c ← cellOf env x.1;pure (ForInStep.yield ((x.1,c) :: r))) else pure (ForInStep.yield r)))=pure acc' /\
   (∀ x c,acc'.lookup x=some c->acc.lookup x=some c∨env.cells.lookup x=some c)/\(∀ x c,acc.lookup x=some c->∃ c',acc'.lookup x=some c')/\∀ x∈names,x.2=.free->∃ c,acc'.lookup x.1=some c
 | [],acc,_=>⟨acc,rfl,fun _ _ h=>.inl h,fun _ c h=>⟨c,h⟩,fun _ h=>by cases h⟩
 | (n,k) :: r,acc,h=>by
  by_cases hk:k=.free
  ·subst hk
   obtain⟨c,hc⟩:=h (n,.free) zbv0 rfl
   obtain⟨acc',e,h1,h2,h3⟩:=zs7 r ((n,c) :: acc) fun x hx=>h x (zbt8 _ hx)
   have hco:cellOf env n=pure c:=by unfold cellOf;rw[hc]
   refine⟨acc',?_,fun x d hd=>?_,fun x d hd=>?_,fun x hx hf=>?_⟩
   ·rw[List.forIn_cons]
    simp only[hco]
    exact e
   ·rcases h1 x d hd with q|q
    ·rw[zbs7] at q
     split at q
     ·rename_i hx
      have hx:x=n:=by simpa using hx
      subst hx
      cases q
      exact .inr hc
     ·exact .inl q
    ·exact .inr q
   ·by_cases hx:x=n
    ·subst hx
     exact h2 x c (by simp[zbs7])
    ·refine h2 x d ?_
     rw[zbs7]
     have:(x==n)=false:=by simpa using hx
     rw[this];exact hd
   ·rcases zbq8.mp hx with rfl|hx
    ·exact h2 n c (by simp[zbs7])
    ·exact h3 x hx hf
  ·obtain⟨acc',e,h1,h2,h3⟩:=zs7 r acc fun x hx=>h x (zbt8 _ hx)
   refine⟨acc',?_,h1,h2,fun x hx hf=>?_⟩
   ·rw[List.forIn_cons]
    have:(k==NameKind.free)=false:=by simpa using hk
    simp only[this]
    exact e
   ·rcases zbq8.mp hx with rfl|hx
    ·exact absurd hf hk
    ·exact h3 x hx hf
theorem zs9 {scope:Scope}{env:Env}(h:∀ x∈scope.names,x.2=.free->∃ c,env.cells.lookup x.1=some c) :
  ∃ cl,closureFor scope env=pure cl/\(∀ x c,cl.lookup x=some c->env.cells.lookup x=some c)/\∀ x∈scope.names,x.2=.free->∃ c,cl.lookup x.1=some c:=by
 obtain⟨cl,e,h1,_,h3⟩:=zs7 (env:=env) scope.names [] h
 refine⟨cl,?_,fun x c hc=>(h1 x c hc).elim (fun q=>by cases q) id,h3⟩
 unfold closureFor
 show (forIn (m:=Sem) scope.names ([]:List (Str×Addr)) _ >>= fun r=>pure r)=_
 rw[e]
 rfl
theorem zp3 {env:Env}:∀ {names:List (Str×NameKind)}{x:Str},names.lookup x=some .free ->
  (names.map fun (n,k)=>if (k==NameKind.free&&env.scope.kind==.function&&env.kindOf n==some .cell) then (n,NameKind.cell) else (n,k)).lookup x=some .cell ∨
  (names.map fun (n,k)=>if (k==NameKind.free&&env.scope.kind==.function&&env.kindOf n==some .cell) then (n,NameKind.cell) else (n,k)).lookup x=some .free
 | [],_,h=>by simp at h
 | (n,k) :: r,x,h=>by
  have ih:=@zp3 env r x
  show List.lookup x ((if (k==NameKind.free&&env.scope.kind==.function&&env.kindOf n==some .cell)=true then (n,NameKind.cell) else (n,k)) :: _)=_∨List.lookup x ((if (k==NameKind.free&&env.scope.kind==.function&&env.kindOf n==some .cell)=true then (n,NameKind.cell) else (n,k)) :: _)=_
  cases hx:x==n with
  | true=>
   simp only[zbs7,hx] at h
   cases h
   by_cases hc:(NameKind.free==NameKind.free&&env.scope.kind==.function&&env.kindOf n==some .cell)=true
   ·left;rw[if_pos hc];simp only[zbs7,hx]
   ·right;rw[if_neg hc];simp only[zbs7,hx]
  | false=>
   simp only[zbs7,hx] at h
   by_cases hc:(k==NameKind.free&&env.scope.kind==.function&&env.kindOf n==some .cell)=true
   ·rw[if_pos hc];simp only[zbs7,hx];exact ih h
   ·rw[if_neg hc];simp only[zbs7,hx];exact ih h
theorem zo7 {env:Env}:∀ {names:List (Str×NameKind)}{x:Str}{k':NameKind},(∀ y∈names,y.2≠.cell)->(k'=.cell∨k'=.free) ->
  (names.map fun (n,k)=>if (k==NameKind.free&&env.scope.kind==.function&&env.kindOf n==some .cell) then (n,NameKind.cell) else (n,k)).lookup x=some k'->∃ y∈names,y.1=x/\y.2=.free
 | [],_,_,_,_,h=>by simp at h
 | (n,k) :: r,x,k',hn,hk,h=>by
  have ih:=@zo7 env r x k' (fun y hy=>hn y (zbt8 _ hy)) hk
  replace h:List.lookup x ((if (k==NameKind.free&&env.scope.kind==.function&&env.kindOf n==some .cell)=true then (n,NameKind.cell) else (n,k)) :: List.map (fun (n,k)=>if (k==NameKind.free&&env.scope.kind==.function&&env.kindOf n==some .cell) then (n,NameKind.cell) else (n,k)) r)=some k':=h
  cases hx:x==n with
  | true=>
   have hx':x=n:=by simpa using hx
   by_cases hf:k=.free
   ·exact⟨(n,k),zbv0,hx'.symm,hf⟩
   ·have hc:¬ (k==NameKind.free&&env.scope.kind==.function&&env.kindOf n==some .cell)=true:=by
     have:(k==NameKind.free)=false:=by simpa using hf
     rw[this];simp
    rw[if_neg hc] at h
    simp only[zbs7,hx] at h
    have:k=k':=Option.some.inj h
    subst this
    rcases hk with hk|hk
    ·exact absurd hk (hn (n,k) zbv0)
    ·exact absurd hk hf
  | false=>
   have h':List.lookup x (List.map (fun (n,k)=>if (k==NameKind.free&&env.scope.kind==.function&&env.kindOf n==some .cell) then (n,NameKind.cell) else (n,k)) r)=some k':=by
    by_cases hc:(k==NameKind.free&&env.scope.kind==.function&&env.kindOf n==some .cell)=true
    ·rw[if_pos hc] at h;simp only[zbs7,hx] at h;exact h
    ·rw[if_neg hc] at h;simp only[zbs7,hx] at h;exact h
   obtain⟨y,hy,h1,h2⟩:=ih h'
   exact⟨y,zbt8 _ hy,h1,h2⟩
def blk (X:Cx) (N:List Str) (scope:Scope) (cl:List (Str×Addr)) (C:Addr) (s3:Shared) (H3:Hp) (fp:List Addr):Cx:=
 { X with N:=N,s₀:=s3,H₀:=H3,env:=compEnvC scope cl C X.env,outer:=X.stack,ex:=fp,fn:=fun _=>false,pn:=[],xe:=fun _ _=>False }
def PTs (X:Cx) (ifs:List Expr) (t:TT):Prop:=
 ∀ (pins:List (Addr×Obj)) (s:Shared) (σ:St) (H:Hp) (Q:Bool->Hp->Prop),Inv X pins σ H s->t σ H Q ->
  wpAny (model X.prog X.w) X.A (forIn ifs true fun c r=>if r=true then do let ok ← isTrue c X.env (eval c X.env);pure (ForInStep.yield ok) else pure (ForInStep.yield r)) (TP X pins σ Q) X.xe s
theorem zj3 {X:Cx}:PTs X [] (fun _ H Q=>Q true H):=fun _ _ _ H _ I h=>wpAny_tests_nil ⟨H,I,h⟩
theorem zbj5 {X:Cx}{c:Expr}{t:TT}(h:PT X c t):PTs X [c] t:=fun pins s σ H Q I hq=>wpAny_tests_one (h pins s σ H Q I hq)
@[irreducible] def cPut (W:Nat->Nat->List V->St->Hp->Prop) (acc:Addr) (ys:List V) (i m:Nat) (σ2:St) (v:V) (H5:Hp):Prop:=
 H5 acc=some (.lst ys)/\∀ H6,Chg acc H5 H6->H6 acc=some (.lst (ys++[v]))->∃ m',m'<m/\W (i+1) m' (ys++[v]) σ2 H6
@[irreducible] def zag3 (W:Nat->Nat->List V->St->Hp->Prop) (ys:List V) (i m:Nat) (σ2:St) (H4:Hp):Prop:=∃ m',m'<m/\W (i+1) m' ys σ2 H4
@[irreducible] def zw0 (J:It) (g:TG) (tt:TT) (te:TE) (σ0:St) (H1:Hp) (Q:VK):Prop:=
 ∀ acc H2,H1 acc=none->Same H1 H2->H2 acc=some (.lst [])->∃ W:Nat->Nat->List V->St->Hp->Prop,(∃ m,W 0 m [] σ0 H2)/\∀ i m ys σ H,W i m ys σ H->H acc=some (.lst ys)/\ys.length<sizeLine /\
  ((J.stop i H/\Q (.ref acc) H)∨(J.go i H/\∀ x H',J.yld i H x H'->g x σ H' fun σ2 H3=>tt σ2 H3 fun b H4=>
   br b (te σ2 H4 fun v H5=>cPut W acc ys i m σ2 v H5) (zag3 W ys i m σ2 H4)))
section
variable {X:Cx}{pins:List (Addr×Obj)}{σ:St}{H:Hp}{s2:Shared}
theorem zbm2 {N:List Str}{scope:Scope}{cl:List (Str×Addr)}{C:Addr}{s3 s4:Shared}{H3:Hp}{fp:List Addr}{σc:St}(I:Inv X pins σ H3 s3)
  (hcl1:∀ x c,cl.lookup x=some c->X.env.cells.lookup x=some c) (hcl2:∀ x∈scope.names,x.2=.free->∃ c,cl.lookup x.1=some c) (hkind:scope.kind=.function) (hcell:∀ y∈scope.names,y.2≠.cell)
  (hcap:∀ (i:Nat) (x:Str) (v:V),N[i]?=some x->σc[i]?=some (some v)->∃ j:Nat,X.N[j]?=some x/\σ[j]?=some (some v)/\scope.names.lookup x=some .free/\(X.env.kindOf x=some .cell∨X.env.kindOf x=some .free))
  (hlen:σc.length=N.length) (hC:s3.heap.objs.size=C) (hfp:∀ b∈fp,FpOk X pins H3 b) (hfpl:∀ b∈fp,b<C) (hex:∀ b o,X.base.get? b=some o->b ∉ fp) (hns:∃ m,s4.heap.Ns C m) (hk:∀ b o,s3.heap.get? b=some o->s4.heap.get? b=some o) (h4:s4.os=s3.os) (h5:s4.gens=s3.gens) :
  Inv (blk X N scope cl C s3 H3 fp) [] σc H3 s4:=by
 subst hC
 have look:∀ x,(blk X N scope cl s3.heap.objs.size s3 H3 fp).env.kindOf x=(relabel scope X.env).names.lookup x:=fun x=>rfl
 have cne:∀ x c,cl.lookup x=some c->c<s3.heap.objs.size:=fun x c h=>by
  obtain⟨v,o,ho,_⟩:=I.cell x c (hcl1 x c h)
  exact zbr4 ho
 refine⟨⟨I.ok.mod,?_,I.ok.glob,I.ok.blt,zbq9 _,fun x y c h1 h2=>I.ok.inj x y c (hcl1 _ _ h1) (hcl1 _ _ h2),fun x hx=>?_,fun x c h=>?_,I.ok.hd,I.ok.frames,.inl rfl,fun b hb=>⟨zbs3 (hfpl b hb),fun x c h=>?_⟩,fun b o e=>I.bs b o e,zbt7 I.ok.bsz I.sz,fun b o e=>hex b o e,fun b hb=>?_,I.stack,I.stkFree⟩,
  h4,by rw[h5];exact I.bare,Un.kept hk,?_,fun x c h=>?_,I.hok.fresh (zbq9 _),fun x c h=>I.freeC x c (hcl1 _ _ h),fun p hp=>(by cases hp),I.hok.kept hk,hlen⟩
 ·exact hkind
 ·have hx':(relabel scope X.env).names.lookup x=some .cell∨(relabel scope X.env).names.lookup x=some .free:=hx
  have hz:∃ y∈scope.names,y.1=x/\y.2=.free:=by
   rcases hx' with q|q
   ·exact zo7 hcell (.inl rfl) q
   ·exact zo7 hcell (.inr rfl) q
  obtain⟨y,hy,rfl,hf⟩:=hz
  exact hcl2 y hy hf
 ·exact absurd (show false=true from h) zbq6
 ·exact (hfp b hb).2.2.2.2.1 x c (hcl1 x c h)
 ·have:=(hfp b hb).1
  intro hz
  obtain⟨f0,f1,f2,_⟩:=hfp b hb
  have hz:b∈frs X.stack:=hz
  rcases zbq8.mp (I.stkSub b hz) with q|q
  ·exact f1 q
  ·exact f2 q
 ·obtain⟨m,hm⟩:=hns
  refine⟨m,hm,fun i x v h1 h2 h3=>?_⟩
  obtain⟨j,e1,e2,e3,e4⟩:=hcap i x v h1 h2
  obtain⟨mX,_,hl⟩:=I.loc
  obtain⟨u,r,q⟩:=hl j x v e1 e2 (by rcases e4 with e4|e4;exact .inr (.inl e4);exact .inr (.inr e4))
  refine⟨u,r,.inr ⟨zp3 e3,?_⟩⟩
  obtain⟨c,hc⟩:=hcl2 (x,.free) (PySem.mem_of_lookup e3) rfl
  refine⟨c,hc,?_⟩
  have hc':=hcl1 x c hc
  rcases q with ⟨k,_⟩|⟨_,c2,e5,o,ho,hd⟩
  ·rcases e4 with e4|e4<;>rw[e4] at k<;>cases k
  ·rw[hc'] at e5
   cases e5
   exact⟨o,hk _ _ ho,hd⟩
 ·obtain⟨v,o,ho,hd⟩:=I.cell x c (hcl1 x c h)
  exact⟨v,o,hk _ _ ho,hd⟩
theorem zah0 {prog:Program}{w:World}{A:Around}{R:Result->Shared->Prop}{s:Shared}{elt target iter:Expr}{ifs:List Expr}{scope:Scope}{pos:Pos}{it acc:Value}{env:Env}(I:Nat->Shared->Prop)
  (turn:∀ n s,I n s->wpAny (model prog w) A (pyNext it) (fun r s₁=>match r with
   | none=>R (.ok .next) s₁
   | some v=>wpAny (model prog w) A (letOwnedTupleGo target it v) (fun _ s₁'=>wpAny (model prog w) A (assign target env v) (fun _ s₂=>
     wpAny (model prog w) A (forIn ifs true fun c r=>if r=true then do let ok ← isTrue c env (eval c env);pure (ForInStep.yield ok) else pure (ForInStep.yield r)) (fun ok s₃=>
      if ok=true then wpAny (model prog w) A (eval elt env) (fun x s₄=>
       wpAny (model prog w) A (call (.builtin "list.append") [acc,x]) (fun _ s₅=>∃ m,m<n/\I m s₅) (fun _ _=>False) s₄) (fun _ _=>False) s₃
      else ∃ m,m<n/\I m s₃) (fun _ _=>False) s₂) (fun _ _=>False) s₁') (fun _ _=>False) s₁) (fun _ _=>False) s)
  (n:Nat) (h:I n s):codeAny (model prog w) A (.compLoop (.ListComp elt [⟨target,iter,ifs,0⟩] scope pos) 0 it acc env) R s:=by
 refine codeAny_loop rfl I (fun n s hI=>?_) n h
 show wpAny _ A ((compTurn (.ListComp elt [⟨target,iter,ifs,0⟩] scope pos) 0 it acc env).onRaise (fun x=>do noteFrame x env;theTreesLotGoes x)) _ _ s
 refine wpAny_noted ?_
 rw[compTurn_list]
 refine wpAny_bind (wpAny_standAt (wpAny_bind (wpAny_mono (turn n s hI) (fun r s₁ h₁=>?_) fun _ _ h'=>h'.elim)))
 cases r with
 | none=>exact wpAny_pure h₁
 | some v=>
  refine wpAny_bind (wpAny_mono h₁ (fun _ s₁' h₁'=>?_) fun _ _ h'=>h'.elim)
  refine wpAny_bind (wpAny_mono h₁' (fun _ s₂ h₂=>wpAny_bind (wpAny_mono h₂ (fun ok s₃ h₃=>?_) fun _ _ h'=>h'.elim)) fun _ _ h'=>h'.elim)
  cases ok with
  | false=>exact wpAny_pure ⟨rfl,h₃⟩
  | true=>
   exact wpAny_bind (wpAny_bind (wpAny_mono h₃ (fun x s₄ h₄=>wpAny_bind (wpAny_mono h₄ (fun _ s₅ h₅=>wpAny_pure (wpAny_pure ⟨rfl,h₅⟩)) fun _ _ h'=>h'.elim)) fun _ _ h'=>h'.elim))
theorem zag8 {E:Value->Shared->Prop}{elt tg iter:Expr}{ifs:List Expr}{scope:Scope}{pos:Pos}{cl:List (Str×Addr)}{N:List Str}{σc:St}{J:It}{fp:List Addr}{it:Addr}{tn:Nat->Heap->Prop}{g:TG}{tt:TT}{te:TE}{Q:VK}
  {RR:Value->Addr->Result->Shared->Prop}
  (hcl1:∀ x c,cl.lookup x=some c->X.env.cells.lookup x=some c) (hcl2:∀ x∈scope.names,x.2=.free->∃ c,cl.lookup x.1=some c) (hkind:scope.kind=.function) (hcell:∀ y∈scope.names,y.2≠.cell)
  (hcap:∀ (i:Nat) (x:Str) (v:V),N[i]?=some x->σc[i]?=some (some v)->∃ j:Nat,X.N[j]?=some x/\σ[j]?=some (some v)/\scope.names.lookup x=some .free/\(X.env.kindOf x=some .cell∨X.env.kindOf x=some .free))
  (hlen:σc.length=N.length) (hc:X.calm=true) (I:Inv X pins σ H s2) (T:Turn X.prog X.w X.K tg J fp it tn) (st:tn 0 s2.heap) (fpok:∀ b∈fp,FpOk X pins H b)
  (hg:∀ C s3 H3 fp,PG (blk X N scope cl C s3 H3 fp) tg g) (ht:∀ C s3 H3 fp,PTs (blk X N scope cl C s3 H3 fp) ifs tt) (he:∀ C s3 H3 fp,PE (blk X N scope cl C s3 H3 fp) elt te)
  (h:zw0 J g tt te σc H Q)
  (hRR:∀ (acc C:Addr) (H':Hp) (s':Shared),Inv X pins σ H' s'->FpOk X pins H' C->(∃ m,s'.heap.Ns C m)->Q (.ref acc) H'->RR (.ref acc) C (.ok .next) s') :
  wpAny (model X.prog X.w) X.A (newList []) (fun acc s₃=>wpAny (model X.prog X.w) X.A (newFunctionEnv scope X.env.globals cl [] X.env.qual none .none (some X.env)) (fun cenv s₄=>
   codeAny (model X.prog X.w) X.A (.compStart (.ListComp elt [⟨tg,iter,ifs,0⟩] scope pos) 0 (.ref it) acc { cenv with scope:=relabel scope X.env }) (RR acc cenv.locals) s₄) E s₃) E s2:=by
 refine wpAny_newObj_type (wpAny_newFunctionEnv hcell (by intro y hy;simp at hy) (fun h₁ hns₁ hsb₁=>?_) hkind)
 dsimp only at hns₁ hsb₁ ⊢
 have hf:H s2.heap.objs.size=none:=I.fresh
 have I3:Inv X pins σ (upd H s2.heap.objs.size (.lst [])) { s2 with heap:=s2.heap.push { cls:=.type "list",data:=.seq ([]:List Value).toArray } }:=I.lnew (t':=s2.toks) (its:=[]) .nil (zbs4 _)
 generalize hs3:({ s2 with heap:=s2.heap.push { cls:=.type "list",data:=.seq ([]:List Value).toArray } }:Shared)=s3 at I3
 have hH:s2.heap.push { cls:=.type "list",dict:=none,data:=.seq ([]:List Value).toArray }=s3.heap:=by rw[← hs3]
 rw[hH] at hns₁ hsb₁ ⊢
 have hsz:s3.heap.objs.size=s2.heap.objs.size+1:=by rw[← hH,Heap.size_push]
 have old23:∀ b o,s2.heap.get? b=some o->s3.heap.get? b=some o:=fun b o e=>by rw[← hH];exact zbq1 _ e
 have fplt:∀ b∈fp,b<s2.heap.objs.size:=fun b hb=>by
  obtain⟨o,e,_⟩:=T.obj 0 _ st b hb
  exact zbr4 e
 have fp3:∀ b∈fp,FpOk X pins (upd H s2.heap.objs.size (.lst [])) b:=fun b hb=>by
  obtain⟨f0,f1⟩:=fpok b hb
  refine⟨?_,f1⟩
  rw[ze8 (zbs3 (fplt b hb))]
  exact f0
 have old34:∀ b o,s3.heap.get? b=some o->h₁.get? b=some o:=fun b o e=>hsb₁.extBut b o (zbs3 (zbr4 e)) (zbq1 _ e)
 have nob:∀ b o,X.base.get? b=some o->b ∉ fp:=fun b o e hb=>by
  obtain⟨_,_,_,f3,_,_⟩:=fpok b hb
  rcases f3 with f3|f3
  ·exact I.ok.noex b o e f3
  ·exact absurd (zbr6 (zbr4 e) I.ok.bsz) (Nat.not_lt.mpr f3)
 have hs4e:({ s2 with heap:=h₁,toks:=s2.toks+([]:List (Str×Value)).length }:Shared).os=s3.os:=by rw[← hs3]
 have hs4g:({ s2 with heap:=h₁,toks:=s2.toks+([]:List (Str×Value)).length }:Shared).gens=s3.gens:=by rw[← hs3]
 have I4:Inv (blk X N scope cl s3.heap.objs.size s3 (upd H s2.heap.objs.size (.lst [])) fp) [] σc (upd H s2.heap.objs.size (.lst [])) { s2 with heap:=h₁,toks:=s2.toks+([]:List (Str×Value)).length }:=
  zbm2 (s4:={ s2 with heap:=h₁,toks:=s2.toks+([]:List (Str×Value)).length }) I3 hcl1 hcl2 hkind hcell hcap hlen rfl fp3 (fun b hb=>zbr6 (fplt b hb) (by rw[hsz];exact zbw8 _)) nob ⟨_,hns₁⟩ old34 hs4e hs4g
 have st4:tn 0 h₁:=T.keep _ _ _ st fun b hb o e=>old34 b o (old23 b o e)
 unfold zw0 at h
 obtain⟨W,⟨m0,w0⟩,turn⟩:=h s2.heap.objs.size _ hf (Same.upd hf) zb7
 have loop:codeAny (model X.prog X.w) X.A (.compLoop (.ListComp elt [⟨tg,iter,ifs,0⟩] scope pos) 0 (.ref it) (.ref s2.heap.objs.size) (blk X N scope cl s3.heap.objs.size s3 (upd H s2.heap.objs.size (.lst [])) fp).env)
   (RR (.ref s2.heap.objs.size) s3.heap.objs.size) { s2 with heap:=h₁,toks:=s2.toks+([]:List (Str×Value)).length }:=by
  refine zah0 (fun n s'=>∃ i ys σ' H',Inv (blk X N scope cl s3.heap.objs.size s3 (upd H s2.heap.objs.size (.lst [])) fp) [] σ' H' s'/\tn i s'.heap/\(∀ b∈fp,H' b=none)/\W i n ys σ' H') ?_ m0 ⟨0,[],σc,_,I4,st4,fun b hb=>(fp3 b hb).1,w0⟩
  rintro n s5 ⟨i,ys,σ5,H5,I5,st5,fr5,w5⟩
  obtain⟨hacc,hl5,hcase⟩:=turn i n ys σ5 H5 w5
  have stat:∀ {H':Hp},(∀ b∈fp,H' b=none)->∀ b∈fp,FpOk (blk X N scope cl s3.heap.objs.size s3 (upd H s2.heap.objs.size (.lst [])) fp) [] H' b:=fun hn b hb=>by
   obtain⟨_,f1,f2,f3,f4,_⟩:=fpok b hb
   refine⟨hn b hb,zbs3 (zbr6 (fplt b hb) (by rw[hsz];exact zbw8 _)),fun hz=>?_,.inl hb,fun x c hx=>f4 x c (hcl1 x c hx),fun p hp=>by cases hp⟩
   rcases zbq8.mp (I.stkSub b hz) with q|q
   ·exact f1 q
   ·exact f2 q
  rcases hcase with ⟨stop,hq⟩|⟨go,step⟩
  ·refine thn (T.done (blk X N scope cl s3.heap.objs.size s3 (upd H s2.heap.objs.size (.lst [])) fp) rfl rfl rfl hc i [] s5 σ5 H5 (fun _ _=>False) I5 (stat fr5) st5 stop) fun r s6 ⟨hr,I6⟩=>?_
   subst hr
   have u1:Un (frs X.stack) fp H (upd H s2.heap.objs.size (.lst [])) s2.heap s3.heap:=Un.laid old23 (zbq9 _) hf
   have u2:Un (frs X.stack) fp (upd H s2.heap.objs.size (.lst [])) H5 s3.heap s6.heap:=I6.base
   have hC:H5 s3.heap.objs.size=none:=I6.free
   obtain⟨m6,hm6,_⟩:=I6.loc
   have hos:s6.os=s2.os:=by rw[I6.os];show s3.os=s2.os;rw[← hs3]
   have hok6:=I6.hok
   have bare6:=I6.bare
   obtain⟨hh,gg,dd,tt',os'⟩:=s6
   obtain rfl:os'=s2.os:=hos
   exact hRR _ _ H5 _ (I.call (h':=hh) (g':=gg) (d':=dd) (t':=tt') (ch:=fp) (u1.trans u2) hok6 bare6 fun b hb=>⟨(fpok b hb).2.2.2.1,(fpok b hb).2.1,(fpok b hb).2.2.2.2.1,(fpok b hb).2.2.2.2.2⟩)
    (I.fpOk (by rw[hsz];exact zbw8 _) hC) ⟨m6,hm6⟩ hq
  ·refine thn (T.item (blk X N scope cl s3.heap.objs.size s3 (upd H s2.heap.objs.size (.lst [])) fp) rfl rfl rfl hc i [] s5 σ5 H5 (fun _ _=>False) I5 (stat fr5) st5 go) fun r s6 ⟨u,hr,h6⟩=>?_
   subst hr
   refine thn h6 fun _ s7 ⟨x,H7,I7,r7,y7,st7,fr7⟩=>?_
   have I7':=I7.pinned (stat fr7) (T.obj _ _ st7)
   refine thn (hg _ _ _ _ _ s7 σ5 H7 x u _ I7' r7 (step x H7 y7)) fun _ s8 ⟨σ8,H8,I8,q8⟩=>?_
   refine thn (ht _ _ _ _ _ s8 σ8 H8 _ I8 q8) fun ok s9 ⟨H9,I9,q9⟩=>?_
   have again:∀ {s10:Shared}{σ10:St}{H10:Hp}{zs:List V},Inv (blk X N scope cl s3.heap.objs.size s3 (upd H s2.heap.objs.size (.lst [])) fp) ([]++zaa7 fp s7.heap) σ10 H10 s10->(∃ m',m'<n/\W (i+1) m' zs σ10 H10) ->
     ∃ m,m<n/\∃ i ys σ' H',Inv (blk X N scope cl s3.heap.objs.size s3 (upd H s2.heap.objs.size (.lst [])) fp) [] σ' H' s10/\tn i s10.heap/\(∀ b∈fp,H' b=none)/\W i m ys σ' H':=fun {s10 σ10 H10 zs} I10 ⟨m',hm,w10⟩=>by
    refine⟨m',hm,i+1,zs,σ10,H10,I10.unpinned,T.keep _ _ _ st7 fun b hb o e=>(I10.pin (b,o) (zbs9 _ (zbs9 _ (zl6 hb e)))).1,fun b hb=>?_,w10⟩
    obtain⟨o,e,d⟩:=T.obj _ _ st7 b hb
    exact (I10.pin (b,o) (zbs9 _ (zbs9 _ (zl6 hb e)))).2.1
   dsimp only at q9
   rw[zw1] at q9
   cases ok with
   | false=>
    have q9:∃ m',m'<n/\W (i+1) m' ys σ8 H9:=by rw[if_neg zbq6] at q9;unfold zag3 at q9;exact q9
    exact again I9 q9
   | true=>
    have q9:=(if_pos rfl▸q9:te σ8 H9 _)
    refine thn (he _ _ _ _ _ s9 σ8 H9 _ I9 q9) fun v s10 ⟨y,H10,I10,r10,q10⟩=>?_
    unfold cPut at q10
    obtain⟨e10,q10⟩:=q10
    refine thn (zw4 _ s10 σ8 H10 (.ref s2.heap.objs.size) [y] (.ref s2.heap.objs.size) [v] (fun _ H11=>∃ m',m'<n/\W (i+1) m' (ys++[y]) σ8 H11) I10 rfl (.cons r10 .nil) ⟨_,ys,y,rfl,rfl,e10,hl5,q10 _ Chg.upd zb7⟩) fun _ s11 ⟨z,H11,I11,_,q11⟩=>?_
    exact again I11 q11
 exact codeAny_compStart_list loop (T.self _ 0 _ _ _ st4 loop)
def capS (ks:List (Option Nat)) (σ:St):St:=ks.map fun k=>match k with
 | none=>none
 | some j=>(σ[j]?).join
inductive zu4 (X:Cx) (scope:Scope):List Str->List (Option Nat)->Prop where
 | nil:zu4 X scope [] []
 | skip {x:Str}{N:List Str}{ks:List (Option Nat)}(t:zu4 X scope N ks):zu4 X scope (x :: N) (none :: ks)
 | take {x:Str}{N:List Str}{ks:List (Option Nat)}{j:Nat}(h1:X.N[j]?=some x) (h2:scope.names.lookup x=some .free) (h3:X.env.kindOf x=some .cell∨X.env.kindOf x=some .free) (t:zu4 X scope N ks):zu4 X scope (x :: N) (some j :: ks)
theorem zu4.cap {scope:Scope}{N:List Str}{ks:List (Option Nat)}(h:zu4 X scope N ks) (σ:St):∀ (i:Nat) (x:Str) (v:V),N[i]?=some x->(capS ks σ)[i]?=some (some v)->∃ j:Nat,X.N[j]?=some x/\σ[j]?=some (some v)/\scope.names.lookup x=some .free/\(X.env.kindOf x=some .cell∨X.env.kindOf x=some .free):=by
 induction h with
 | nil=>intro i x v h;simp at h
 | skip t ih=>
  intro i x v h1 h2
  cases i with
  | zero=>simp[capS] at h2
  | succ i=>exact ih i x v (by simpa using h1) (by simpa [capS] using h2)
 | take a b c t ih=>
  intro i x v h1 h2
  cases i with
  | zero=>
   simp only[List.getElem?_cons_zero,Option.some.injEq] at h1
   subst h1
   refine⟨_,a,?_,b,c⟩
   simpa [capS,Option.join_eq_some_iff] using h2
  | succ i=>exact ih i x v (by simpa using h1) (by simpa [capS] using h2)
theorem zu4.len {scope:Scope}{N:List Str}{ks:List (Option Nat)}(h:zu4 X scope N ks) (σ:St):(capS ks σ).length=N.length:=by
 have:ks.length=N.length:=by
  induction h with
  | nil=>rfl
  | skip t ih=>simp[ih]
  | take a b c t ih=>simp[ih]
 simp[capS,this]
def qComp (ks:List (Option Nat)) (wi:TI) (g:TG) (tt:TT) (te:TE):TE:=fun σ H Q=>wi σ H fun J H1=>zw0 J g tt te (capS ks σ) H1 Q
def freeB (scope:Scope) (f:Str->Option NameKind):Bool:=scope.names.all fun x=>x.2 != .free || (f x.1==some .cell || f x.1==some .free)
def zal0 (scope:Scope):Bool:=scope.names.all (fun x=>x.2 != .cell)&&scope.names.all fun x=>x.2 != .local || scope.names.lookup x.1==some .local
theorem zac8 {scope:Scope}{f:Str->Option NameKind}(h:freeB scope f=true):∀ x∈scope.names,x.2=.free->f x.1=some .cell∨f x.1=some .free:=fun x hx hf=>by
 have:=zbr0.mp h x hx
 simpa [hf] using this
theorem zaf9 {scope:Scope}(h:zal0 scope=true):(∀ y∈scope.names,y.2≠.cell)/\∀ x∈scope.names,x.2=.local->scope.names.lookup x.1=some .local:=by
 unfold zal0 at h
 rw[zbr3] at h
 refine⟨fun y hy=>?_,fun x hx hl=>?_⟩
 ·have:=zbr0.mp h.1 y hy
  simpa using this
 ·have:=zbr0.mp h.2 x hx
  simpa [hl] using this
theorem zo4 {elt tg iter:Expr}{ifs:List Expr}{scope:Scope}{pos:Pos}{N:List Str}{ks:List (Option Nat)}{wi:TI}{g:TG}{tt:TT}{te:TE}(hi:PI X tg iter wi)
  (hg:∀ cl C s3 H3 fp,PG (blk X N scope cl C s3 H3 fp) tg g) (ht:∀ cl C s3 H3 fp,PTs (blk X N scope cl C s3 H3 fp) ifs tt) (he:∀ cl C s3 H3 fp,PE (blk X N scope cl C s3 H3 fp) elt te) (hcap:zu4 X scope N ks)
  (hc:X.calm=true:=by rfl) (hkind:scope.kind=.function:=by rfl) (hb:freeB scope X.env.kindOf=true:=by rfl) (hn:zal0 scope=true:=by rfl) (hs:∀ x,foldedSetIterable iter X.env x=pure x:=by intro _;rfl) :
  PE X (.ListComp elt [⟨tg,iter,ifs,0⟩] scope pos) (qComp ks wi g tt te):=by
 intro pins s σ H Q I h
 obtain⟨hcell,hnames⟩:=zaf9 hn
 obtain⟨cl,hcl,hcl1,hcl2⟩:=zs9 (scope:=scope) (env:=X.env) fun x hx hf=>I.ok.has x.1 (zac8 hb x hx hf)
 rw[eval_ListComp]
 refine wpAny_comprehension_free (use:=none) rfl hs hcl hkind hnames ?_
 show wpAny _ _ (eval iter X.env) _ _ s
 refine thn (hi pins s σ H _ I h) fun v s1 h1=>thn h1 fun itv s2 h2=>?_
 obtain⟨it,fp,tn,J,H2,e,I2,T,st2,f2,q2⟩:=h2
 subst e
 refine zag8 (RR:=fun acc C=>compPost (model X.prog X.w) X.A X.xe none (EP X pins σ Q) acc C) hcl1 hcl2 hkind hcell (hcap.cap σ) (hcap.len σ) hc I2 T st2 f2 (hg cl) (ht cl) (he cl) q2 ?_
 rintro acc C H' s' I' hC ⟨m,hm⟩ hq
 refine⟨m,hm,fun h' hsb=>⟨.ref acc,H',?_,rfl,hq⟩⟩
 exact I'.turned (t':=s'.toks) (fun b o hb e=>hsb.extBut b o hb e) hC.1 hC.2.1 hC.2.2.2.1 hC.2.2.2.2.1 hC.2.2.2.2.2
theorem psC {i:Nat}{y:Str}{py spos:Pos}{elt tg iter:Expr}{ifs:List Expr}{scope:Scope}{pos:Pos}{N:List Str}{ks:List (Option Nat)}{wi:TI}{g:TG}{tt:TT}{te:TE}(hN:X.N.Nodup) (hi:PI X tg iter wi)
  (hg:∀ cl C s3 H3 fp,PG (blk X N scope cl C s3 H3 fp) tg g) (ht:∀ cl C s3 H3 fp,PTs (blk X N scope cl C s3 H3 fp) ifs tt) (he:∀ cl C s3 H3 fp,PE (blk X N scope cl C s3 H3 fp) elt te) (hcap:zu4 X scope N ks)
  (hy:X.N[i]?=some y:=by rfl) (hl:X.env.scope.names.lookup y=some .local:=by rfl) (hsw:swapsWith (.ListComp elt [⟨tg,iter,ifs,0⟩] scope pos) (some (.Name y py)) spos.line X.env=pure true:=by rfl)
  (hc:X.calm=true:=by rfl) (hkind:scope.kind=.function:=by rfl) (hb:freeB scope X.env.kindOf=true:=by rfl) (hn:zal0 scope=true:=by rfl) (hs:∀ x,foldedSetIterable iter X.env x=pure x:=by intro _;rfl) :
  PS X (.Assign [.Name y py] (.ListComp elt [⟨tg,iter,ifs,0⟩] scope pos) spos) (tAsg (qComp ks wi g tt te) (zaw7 i)):=by
 intro pins s σ H D I h
 obtain⟨hcell,hnames⟩:=zaf9 hn
 obtain⟨cl,hcl,hcl1,hcl2⟩:=zs9 (scope:=scope) (env:=X.env) fun x hx hf=>I.ok.has x.1 (zac8 hb x hx hf)
 rw[exec_Assign_Name_used _ _ _ _ hsw]
 refine wpAny_bind (wpAny_standAt (wpAny_bind ?_))
 show wpAny _ X.A (do let _ ← comprehension (.ListComp elt [⟨tg,iter,ifs,0⟩] scope pos) scope X.env _ (newList []) false (eval iter X.env) (some (assign (.Name y py) X.env))) _ _ s
 refine wpAny_bind (wpAny_mono (wpAny_comprehension_free (use:=some (assign (.Name y py) X.env)) (Q:=fun _ s'=>SP X pins D .next s') rfl hs hcl hkind hnames ?_) (fun _ s' hq=>wpAny_pure (wpAny_pure hq)) fun _ _ e=>e)
 refine thn (hi pins s σ H _ I h) fun v s1 h1=>thn h1 fun itv s2 h2=>?_
 obtain⟨it,fp,tn,J,H2,e,I2,T,st2,f2,q2⟩:=h2
 subst e
 refine zag8 (RR:=fun acc C=>compPost (model X.prog X.w) X.A X.xe (some (assign (.Name y py) X.env)) (fun _ s'=>SP X pins D .next s') acc C) hcl1 hcl2 hkind hcell (hcap.cap σ) (hcap.len σ) hc I2 T st2 f2 (hg cl) (ht cl) (he cl) q2 ?_
 rintro acc C H' s' I' hC ⟨m,hm⟩ hq
 show wpAny _ _ (assign (.Name y py) X.env (.ref acc)) _ _ _
 refine wpAny_assign_Name (zaf5 I' hN hy (.inl hl) (v:=.ref acc) rfl (fun s'' I'' hsb=>?_) (.inr hl))
 obtain⟨a,hsb,ha⟩:=hsb
 have hCa:C≠a:=by
  rcases ha with ha|ha
  ·rw[ha];exact hC.2.1
  ·exact (hC.2.2.2.2.1 y a ha).symm
 refine⟨m,hm.sameBut hsb hCa,fun h' hsb'=>⟨σ.set i (some (.ref acc)),H',?_,hq⟩⟩
 exact I''.turned (t':=s''.toks) (fun b o hb e=>hsb'.extBut b o hb e) hC.1 hC.2.1 hC.2.2.2.1 hC.2.2.2.2.1 hC.2.2.2.2.2
end
section
variable {K:zbp7}{g:TG}{tt:TT}{te:TE}{σ0:St}{H1:Hp}{Q:VK}
end
end L2
set_option maxHeartbeats 2000000
namespace L2
open PySem PySem.Spec PyProof.Rows
section
variable {X:Cx}
@[irreducible] def rSumA (K:zbp7) (p:Addr) (H:Hp) (Q:VK):Prop:=∃ ns:List Int,SqL K H p (ns.map V.int)/\Q (.int ns.sum) H
def rSumM (K:zbp7):List V->Hp->VK->Prop:=fun xs H Q=>match xs with
 | [.ref p]=>rSumA K p H Q
 | _=>False
theorem cSum (hc:X.calm=true):zl0 X (.builtin "sum") (rSumM X.K):=fun pins s σ H xs us Q I r h=>by
 unfold rSumM at h
 split at h
 ·unfold rSumA at h
  obtain⟨ns,h1,h2⟩:=h
  obtain⟨u,rfl,rx⟩:=zy4 r
  cases rx
  obtain⟨its,r',pl,hz⟩:=I.list h1
  have hi:=zs8 r'
  obtain⟨ys,hx⟩:=hi.allInts.items
  have hl':s.heap.IsList _ (intItems ys):=hx▸pl.isList
  refine sum_intListG (I.ok.hd hc) hl' fun h' tk t' hk=>?_
  have e1:ns=ys.toList.map (·.1):=by
   rw[← nums_intItems,← hx]
   exact (show numsOf its.toArray.toList=ns from hi.numsOf).symm
  have e2:preSum (numAt ys) ys.size=ns.sum:=by
   rw[preSum_eq,zbv6 (by simp),e1]
  rw[e2]
  exact⟨.int ns.sum,H,I.kept hk,⟨_,rfl⟩,h2⟩
 ·exact h.elim
theorem zbf2 {K:zbp7}{p:Addr}{H:Hp}{Q:VK}{ns:List Int}(h:H p=some (.lst (ns.map V.int))) (q:Q (.int ns.sum) H):rSumA K p H Q:=by unfold rSumA;exact⟨ns,SqL.of h,q⟩
theorem zv8:∀ {bs:List Bool}{us:List Value},Vals (bs.map V.bl) us->LSm.BoolsAre us bs
 | [],us,r=>by rw[List.map_nil] at r;cases r;exact .nil
 | b :: bs,us,r=>by
  rw[zbt4] at r
  cases r with
  | cons r1 r2=>
   cases r1
   exact .cons b (zv8 r2)
@[irreducible] def rAllA (K:zbp7) (p:Addr) (H:Hp) (Q:VK):Prop:=∃ bs:List Bool,SqL K H p (bs.map V.bl)/\Q (.bl (bs.all id)) H
def rAllM (K:zbp7):List V->Hp->VK->Prop:=fun xs H Q=>match xs with
 | [.ref p]=>rAllA K p H Q
 | _=>False
theorem cAll (hc:X.calm=true):zl0 X (.builtin "all") (rAllM X.K):=fun pins s σ H xs us Q I r h=>by
 unfold rAllM at h
 split at h
 ·rename_i p
  unfold rAllA at h
  obtain⟨bs,h1,h2⟩:=h
  obtain⟨u,rfl,rx⟩:=zy4 r
  cases rx
  obtain⟨its,r',pl,hz⟩:=I.list h1
  have hb:=zv8 r'
  have hlt:p<s.heap.objs.size:=by obtain⟨_,e,_⟩:=pl.isList;exact zbr4 e
  refine call_all_walk (wpAny_pyIter_list pl.isList ?_)
  refine⟨s.heap.objs.size,[s.heap.objs.size,_],[s.heap.objs.size],its.toArray.size,_,_,fun i=>(bs[i]?).getD true,rfl,Walks.list (A:=X.A.in1) (I.ok.hd hc) _ _ (zbs3 hlt) its.toArray,
   ⟨⟨_,zbr8 _ rfl,rfl,rfl⟩,pl.isList.push _⟩,fun i v s' Q' E' hP hQ=>?_,fun h' tk hk=>?_⟩
  ·obtain⟨b,e,rfl⟩:=hb.get i v (by simpa using hP)
   simp only[e,Option.getD_some] at hQ
   exact wpAny_truthy_bool hQ
  ·have e:((List.range its.toArray.size).all fun i=>(bs[i]?).getD true)=bs.all id:=by
    rw[zbq3,hb.length];exact LSm.range_all bs
   rw[e]
   exact⟨.bl _,H,I.kept (LSm.kept_iter hk),rfl,h2⟩
 ·exact h.elim
theorem zaa0 {K:zbp7}{p:Addr}{H:Hp}{Q:VK}{bs:List Bool}(h:H p=some (.lst (bs.map V.bl))) (q:Q (.bl (bs.all id)) H):rAllA K p H Q:=by unfold rAllA;exact⟨bs,SqL.of h,q⟩
@[irreducible] def zan7 (K:zbp7) (p:Addr) (H:Hp) (Q:VK):Prop:=∃ ys,(SqL K H p ys∨SqT K H p ys)/\∀ l H',H l=none->Same H H'->H' l=some (.lst ys)->Q (.ref l) H'
def zaw0 (K:zbp7):List V->Hp->VK->Prop:=fun xs H Q=>match xs with
 | [.ref p]=>zan7 K p H Q
 | _=>False
theorem cList:zl0 X (.type "list") (zaw0 X.K):=fun pins s σ H xs us Q I r h=>by
 unfold zaw0 at h
 split at h
 ·unfold zan7 at h
  obtain⟨ys,h1,h2⟩:=h
  exact zae9 pins s σ H _ us Q I r ⟨_,ys,rfl,h1,fun l hl=>h2 l _ hl (Same.upd hl) zb7⟩
 ·exact h.elim
theorem zv1 {K:zbp7}{p:Addr}{H:Hp}{Q:VK}{ys:List V}(h:SqL K H p ys) (q:∀ l H',H l=none->Same H H'->H' l=some (.lst ys)->Q (.ref l) H'):zan7 K p H Q:=by unfold zan7;exact⟨ys,.inl h,q⟩
@[irreducible] def zaf0 (K:zbp7) (p:Addr) (H:Hp) (R:Prop):Prop:=(∃ xs,SqL K H p xs)/\R
def qBM (K:zbp7) (r:Addr->List V->Hp->VK->Prop) (to:TE) (t:TA):TE:=fun σ H Q=>to σ H fun x H1=>match x with
 | .ref p=>zaf0 K p H1 (t σ H1 fun xs H2=>r p xs H2 Q)
 | _=>False
theorem zae3 {K:zbp7}{p:Addr}{H:Hp}{R:Prop}{xs:List V}(h:H p=some (.lst xs)) (q:R):zaf0 K p H R:=by unfold zaf0;exact⟨⟨xs,SqL.of h⟩,q⟩
def MtA (X:Cx) (id:String) (r:Addr->List V->Hp->VK->Prop):Prop:=
 ∀ (pins:List (Addr×Obj)) (s:Shared) (σ:St) (H:Hp) (p:Addr) (xs:List V) (us:List Value) (Q:VK),Inv X pins σ H s->Vals xs us->r p xs H Q ->
  wpAny (model X.prog X.w) X.A (call (.builtin id) (.ref p :: us)) (EP X pins σ Q) X.xe s
theorem peBM {o e:Expr}{es:List Expr}{to:TE}{t:TA}{name:Str}{apos cpos:Pos}{id:String}{r:Addr->List V->Hp->VK->Prop}(slot:Slot "list" name id) (hty:typeOf (.builtin id)=pure (.type "method_descriptor")) (hm:MtA X id r) (ho:PE X o to) (ha:PA X (e :: es) t)
  (hbase:attributeBase o name X.env (eval o X.env)=eval o X.env:=by rfl)
  (hfew:((backTo cpos (starEach (e :: es) X.env)).all (fun x=>!x.1)&&(backToKw cpos (keywordEach [] X.env)).all (fun x=>x.1.isSome)
   && decide ((e :: es).length+([]:List Keyword).length+(if ([]:List Keyword).isEmpty then 0 else 1)<30))=true:=by rfl)
  (hline:(apos.endLine==cpos.line)=true:=by rfl) (hs:starEach (e :: es) X.env=(false,eval e X.env) :: starEach es X.env:=by rfl) (hplain:(backTo cpos (starEach es X.env)).any (·.1)=false:=by rfl) :
  PE X (.Call (.Attribute o name apos) (e :: es) [] cpos) (qBM X.K r to t):=by
 intro pins s σ H Q I h
 refine wpAny_Call_method_late hbase hfew hline rfl (thn (ho pins s σ H _ I h) fun v s1 ⟨x,H1,I1,r1,q1⟩=>?_)
 dsimp only at q1
 split at q1
 ·rename_i p
  unfold zaf0 at q1
  obtain⟨hq,q1⟩:=q1
  obtain⟨h1,h2⟩:=tyV_is (T:="list") I1 r1 (.inl ⟨rfl,hq⟩)
  refine⟨"list",id,PySem.F.plainAttrs_list,slot,hty,h1,h2,?_⟩
  have hA:=ha cpos pins s1 σ H1 _ I1 q1
  rw[hs] at hA ⊢
  refine Calls.callWith_builtin (by show (false || (backTo cpos (starEach es X.env)).any (·.1))=false;rw[hplain]<;>rfl) (Calls.evalArgs_plain ?_)
  cases r1
  exact thn hA fun us s2 ⟨vs,H2,I2,r2,q2⟩=>hm pins s2 σ H2 p vs us Q I2 r2 q2
 ·exact q1.elim
@[irreducible] def rAppA (p:Addr) (v:V) (H:Hp) (Q:VK):Prop:=∃ xs,H p=some (.lst xs)/\xs.length<sizeLine/\∀ H',Chg p H H'->H' p=some (.lst (xs++[v]))->Q .non H'
def rAppM:Addr->List V->Hp->VK->Prop:=fun p vs H Q=>match vs with
 | [v]=>rAppA p v H Q
 | _=>False
theorem zbk9:MtA X "list.append" rAppM:=fun pins s σ H p xs us Q I r h=>by
 unfold rAppM at h
 split at h
 ·unfold rAppA at h
  obtain⟨ys,h1,h2,h3⟩:=h
  exact zw4 pins s σ H (.ref p) _ (.ref p) us Q I rfl r ⟨p,ys,_,rfl,rfl,h1,h2,h3 _ Chg.upd zb7⟩
 ·exact h.elim
theorem zah3 {p:Addr}{v:V}{H:Hp}{Q:VK}{xs:List V}(h:H p=some (.lst xs)) (hz:xs.length<sizeLine) (q:∀ H',Chg p H H'->H' p=some (.lst (xs++[v]))->Q .non H'):rAppA p v H Q:=by unfold rAppA;exact⟨xs,h,hz,q⟩
theorem zq1 {o e:Expr}{to:TE}{t:TA}{apos cpos:Pos}(ho:PE X o to) (ha:PA X [e] t) (hbase:attributeBase o "append" X.env (eval o X.env)=eval o X.env:=by rfl)
  (hfew:((backTo cpos (starEach [e] X.env)).all (fun x=>!x.1)&&(backToKw cpos (keywordEach [] X.env)).all (fun x=>x.1.isSome)
   && decide ([e].length+([]:List Keyword).length+(if ([]:List Keyword).isEmpty then 0 else 1)<30))=true:=by rfl)
  (hline:(apos.endLine==cpos.line)=true:=by rfl) (hs:starEach [e] X.env=(false,eval e X.env) :: starEach [] X.env:=by rfl) (hplain:(backTo cpos (starEach [] X.env)).any (·.1)=false:=by rfl):PE X (.Call (.Attribute o "append" apos) [e] [] cpos) (qBM X.K rAppM to t):=
 peBM PySem.F.slot_list_append PySem.F.type_list_append zbk9 ho ha hbase hfew hline hs hplain
section
variable {prog:Program}{w:World}{A:Around}{E:Value->Shared->Prop}{s:Shared}
theorem zae6 {it t:Addr}{items:Array Value}(hne:t≠it):∀ (n i:Nat) (s:Shared) (Q:List Value->Shared->Prop),s.heap.IsListIter it t i->s.heap.IsList t items->i+n<=items.size ->
  (∀ h',h'.IsListIter it t (i+n)->Heap.SameBut it s.heap h'->Q ((items.toList.drop i).take n) { s with heap:=h' })->wpAny (model prog w) A (draw (.ref it) n) Q E s
 | 0,i,s,Q,hit,_,_,hQ=>by
  show wpAny _ _ (pure []) Q E s
  exact wpAny_pure (by simpa using hQ s.heap hit (Heap.SameBut.refl ..))
 | n+1,i,s,Q,hit,ht,hle,hQ=>by
  have hlt:i<items.size:=by omega
  show wpAny _ _ (pyNext (.ref it) >>= _) Q E s
  refine wpAny_bind (wpAny_pyNext_list_item hit ht (x:=items[i]) (by simp[hlt]) fun h₁ hit₁ hs₁=>?_)
  refine wpAny_bind (wpAny_holding (zae6 hne n (i+1) _ _ hit₁ (ht.extBut hs₁.extBut hne) (by omega) fun h₂ hit₂ hs₂=>wpAny_pure ?_))
  have hd:items.toList.drop i=items[i] :: items.toList.drop (i+1):=by simp[List.drop_eq_getElem_cons,hlt]
  have:=hQ h₂ (by rw[show i+(n+1)=i+1+n by omega];exact hit₂) (hs₁.trans hs₂)
  rw[hd,List.take_succ_cons] at this
  exact this
theorem zt3 {env:Env}{elts:List Expr}{x1} {pos:Pos}{t:Addr}{items:Array Value}{Q:Unit->Shared->Prop}(hh:A.handled=none) (ht:s.heap.IsList t items)
  (hn:(assignEach elts env).length=items.size) (hstar:(assignEach elts env).findIdx? (·.1)=none)
  (h:∀ h',Heap.ExtBut s.heap.objs.size s.heap h'->wpAny (model prog w) A (assignInOrder ((assignEach elts env).map (·.2)) items.toList) Q E { s with heap:=h' }) :
  wpAny (model prog w) A (assign (.Tuple elts x1 pos) env (.ref t)) Q E s:=by
 rw[assign_Tuple]
 refine wpAny_bind (wpAny_standAt ?_)
 unfold unpack
 rw[hn,hstar]
 refine wpAny_bind (wpAny_holding ?_)
 have hlt:t≠s.heap.objs.size:=by obtain⟨o,ho,_⟩:=ht;exact zbs3 (zbr4 ho)
 unfold unpackItems
 refine wpAny_bind ?_
 unfold notIterableAtAll
 refine wpAny_bind (wpAny_specialOf ht.typeIs F.slot_list_iter.lookup ?_)
 refine wpAny_pure ?_
 simp only[zbv8,if_false]
 refine wpAny_bind (wpAny_holding (wpAny_pyIter_list ht ?_))
 refine wpAny_bind (wpAny_holding (zae6 hlt items.size 0 _ _ ⟨_,zbr8 _ rfl,rfl,rfl⟩ (ht.push _) (by omega) fun h₁ hit₁ hs₁=>?_))
 have hall:List.take items.size (List.drop 0 items.toList)=items.toList:=by
  rw[List.drop_zero];exact zbv6 (by simp)
 rw[hall]
 rw[if_neg (by simp)]
 have ht₁:h₁.IsList t items:=(ht.push _).extBut hs₁.extBut hlt
 refine wpAny_bind (wpAny_holding (wpAny_pyNext_list_end hh hit₁ ht₁ (by simp) fun h₂ he₂=>?_))
 simp only[Option.isSome_none,zbv8,if_false]
 exact wpAny_pure (h h₂ fun b o hb e=>he₂ b o hb (hs₁.extBut b o hb (zbq1 _ e)))
end
@[irreducible] def rUnpA (K:zbp7) (a:Addr) (n:Nat) (t:TGs) (σ:St) (H:Hp) (Q:St->Hp->Prop):Prop:=∃ xs,(SqT K H a xs∨SqL K H a xs)/\xs.length=n/\t xs σ H Q
def qgAny (K:zbp7) (n:Nat) (t:TGs):TG:=fun v σ H Q=>match v with
 | .ref a=>rUnpA K a n t σ H Q
 | _=>False
theorem pgAny {pos:Pos}{es:List Expr}{k:Nat}{t:TGs}{n:Nat}(hc:X.calm=true) (h:PGs X es t)
  (hn:(assignEach es X.env).length=n:=by rfl) (hst:(assignEach es X.env).findIdx? (·.1)=none:=by rfl):PG X (.Tuple es k pos) (qgAny X.K n t):=fun pins s σ H v u Q I r hq=>by
 unfold qgAny at hq
 split at hq
 ·unfold rUnpA at hq
  obtain⟨xs,a1,a2,a3⟩:=hq
  rcases a1 with a1|a1
  ·exact pg_tup hc h hn hst pins s σ H _ u Q I r ⟨_,xs,rfl,a1,a2,a3⟩
  ·cases r
   obtain⟨its,rv,pl,hz⟩:=I.list a1
   refine zt3 (I.ok.hd hc) pl.isList (by simp[hn,← a2,rv.length]) hst fun h' hx=>?_
   have I1:Inv X pins σ H { s with heap:=h' }:=I.kept (t':=s.toks) fun b o e=>hx b o (zbs3 (zbr4 e)) e
   exact h pins _ σ H xs _ Q I1 (by simpa using rv) a3
 ·exact hq.elim
theorem zk8 {K:zbp7}{a:Addr}{n:Nat}{t:TGs}{σ:St}{H:Hp}{Q:St->Hp->Prop}{xs:List V}(h:H a=some (.tup xs)) (q:t xs σ H Q) (e:xs.length=n:=by rfl):rUnpA K a n t σ H Q:=by
 unfold rUnpA;exact⟨xs,.inl (SqT.of h),e,q⟩
end
def Chg2 (a c:Addr) (H H':Hp):Prop:=∀ b o,b≠a->b≠c->H b=some o->H' b=some o
theorem Chg2.refl (a c:Addr) (H:Hp):Chg2 a c H H:=fun _ _ _ _ e=>e
theorem Chg2.at {a c b:Addr}{o:HO}{H H':Hp}(x:Chg2 a c H H') (e:H b=some o) (h1:b≠a) (h2:b≠c):H' b=some o:=x b o h1 h2 e
section
variable {K:zbp7}{g:TG}{tt:TT}{te:TE}{σ0:St}{H1:Hp}{Q:VK}
end
section
variable {X:Cx}{K:zbp7}
theorem zd1 {a b:Expr}{ta tb:TE}{pos:Pos}(hK:X.K=K) (ha:PE X a ta) (hb:PE X b tb) (hs:zac6 b:=by exact fun _ _=>rfl):PE X (.Subscript a b pos) (tOp (rIxM K) ta tb):=by subst hK;exact peIx ha hb hs
theorem zo1 (hK:X.K=K):zl0 X (.builtin "len") (rLenM K):=by subst hK;exact cLen
theorem zt6 (hK:X.K=K):zl0 X (.builtin "isinstance") (rIsiM K):=by subst hK;exact cIsi
theorem cSumK (hK:X.K=K) (hc:X.calm=true):zl0 X (.builtin "sum") (rSumM K):=by subst hK;exact cSum hc
theorem zar0 (hK:X.K=K) (hc:X.calm=true):zl0 X (.builtin "all") (rAllM K):=by subst hK;exact cAll hc
theorem zan9 (hK:X.K=K):zl0 X (.type "list") (zaw0 K):=by subst hK;exact cList
theorem zi7 {tg l:Expr}{tl:TE}(hK:X.K=K) (hl:PE X l tl):PI X tg l (qiSeq K tl):=by subst hK;exact piSeq hl
theorem zo9 {pos:Pos}{es:List Expr}{k:Nat}{t:TGs}{n:Nat}(hK:X.K=K) (hc:X.calm=true) (h:PGs X es t)
  (hn:(assignEach es X.env).length=n:=by rfl) (hst:(assignEach es X.env).findIdx? (·.1)=none:=by rfl):PG X (.Tuple es k pos) (qgAny K n t):=by subst hK;exact pgAny hc h hn hst
end
end L2
set_option maxHeartbeats 2000000
namespace L2
open PySem PySem.Spec PyProof.Rows
section
variable {X:Cx}{K:zbp7}
end
section
variable {K:zbp7}{g:TG}{tb:TS}{D:Ends}{σ:St}{H:Hp}{R:It->Hp->Prop}
end
section
variable {K:zbp7}{g:TG}{tt:TT}{te:TE}{σ0:St}{H1:Hp}{Q:VK}
end
section
variable {X:Cx}{K:zbp7}
end
end L2
set_option maxHeartbeats 2000000
namespace L2
open PySem PySem.Spec PyProof.Rows
theorem zp8 {xs:List V}{k:Int}(h:0<=k):cutV xs (some k) none=xs.drop k.toNat:=by
 show List.take (xs.length - (if k<0 then (k+(xs.length:Int)).toNat else min k.toNat xs.length)) (List.drop (if k<0 then (k+(xs.length:Int)).toNat else min k.toNat xs.length) xs)=_
 rw[if_neg (by omega)]
 by_cases hk:k.toNat<=xs.length
 ·rw[Nat.min_eq_left hk,zbv6 (by rw[zbu1];omega)]
 ·rw[Nat.min_eq_right (by omega),zbw5 (by omega),zbw5 (by omega),List.take_nil]
theorem zo8 {xs:List V}{k:Int}(h:0<=k):cutV xs none (some k)=xs.take k.toNat:=by
 show List.take ((if k<0 then (k+(xs.length:Int)).toNat else min k.toNat xs.length) - 0) (List.drop 0 xs)=_
 rw[if_neg (by omega),List.drop_zero,Nat.sub_zero]
 by_cases hk:k.toNat<=xs.length
 ·rw[Nat.min_eq_left hk]
 ·rw[Nat.min_eq_right (by omega),zbv6 (zbq9 _),zbv6 (by omega)]
def rowV (n:Nat) (r:Nat->Int):List V:=(List.range n).map fun t=>V.int (r t)
theorem zbc9 {n:Nat}{r s:Nat->Int}(h:∀ t,t<n->r t=s t):rowV n r=rowV n s:=by
 unfold rowV
 refine zbu0 fun t ht=>?_
 rw[h t (zbs1.mp ht)]
theorem ref_at {ps:List Addr}{i:Int}{p:Addr}(h0:0<=i) (h:ps[i.toNat]?=some p):atI (ps.map V.ref) i=some (.ref p):=by
 have:=zm2 (xs:=ps.map V.ref) (j:=i.toNat) (v:=.ref p) (by rw[zbq2,h];rfl)
 rw[show ((i.toNat:Nat):Int)=i by omega] at this
 exact this
theorem int_at {ns:List Int}{i:Int}{n:Int}(h0:0<=i) (h:ns[i.toNat]?=some n):atI (ns.map V.int) i=some (.int n):=by
 have:=zm2 (xs:=ns.map V.int) (j:=i.toNat) (v:=.int n) (by rw[zbq2,h];rfl)
 rw[show ((i.toNat:Nat):Int)=i by omega] at this
 exact this
theorem zaz0 {xs:List V}{v:V}{n:Nat}(h:xs.length=n+1) (e:xs[n]?=some v):atI xs (-1)=some v:=by
 unfold atI ixN
 rw[if_neg (by decide),if_pos (by omega)]
 show xs[((-1:Int)+xs.length).toNat]?=_
 rw[show ((-1:Int)+xs.length).toNat=n by omega];exact e
theorem zaw1 {n:Nat}{i:Int}(h0:0<=i) (h1:i<n):ixN n i=some i.toNat:=by unfold ixN;rw[if_pos h0,if_pos h1]
structure zae4 (H:Hp) (a:Addr) (ps:List Addr) (n h:Nat) (g:Nat->Nat->Int):Prop where
 out:H a=some (.lst (ps.map V.ref))
 len:ps.length=n
 row:∀ (i:Nat) (p:Addr),ps[i]?=some p->H p=some (.lst (rowV h (g i)))
theorem zae4.ext {H:Hp}{a:Addr}{ps:List Addr}{n h:Nat}{g g':Nat->Nat->Int}(G:zae4 H a ps n h g) (e:∀ i t,i<n->t<h->g i t=g' i t):zae4 H a ps n h g':=
 ⟨G.out,G.len,fun i p q=>by rw[G.row i p q];rw[zbc9 fun t ht=>e i t (by have:=(zbp8.mp q).1;have:=G.len;omega) ht]⟩
theorem zae4.some {H:Hp}{a:Addr}{ps:List Addr}{n h:Nat}{g:Nat->Nat->Int}(G:zae4 H a ps n h g) {i:Nat}(hi:i<n):∃ p,ps[i]?=.some p/\H p=.some (.lst (rowV h (g i))):=by
 have hl:i<ps.length:=by rw[G.len];exact hi
 exact⟨ps[i],zbp6 hl,G.row i _ (zbp6 hl)⟩
structure Wk (J:It) (n:Nat) (H1:Hp) (X:Nat->V->Hp->Prop):Prop where
 go:∀ i H,Same H1 H->i<n->J.go i H
 stop:∀ H,Same H1 H->J.stop n H
 yld:∀ i H x H',Same H1 H->i<n->J.yld i H x H'->Same H H'/\X i x H'
theorem Wk.range {lo:Int}{n:Nat}{H1:Hp}:Wk (Itr lo n) n H1 fun i x _=>x=.int (lo+i):=
 ⟨fun i H _ h=>h,fun H _=>zbq9 _,fun i H x H' _ _ y=>by obtain⟨rfl,rfl⟩:=y;exact⟨Same.refl _,rfl⟩⟩
theorem Wk.list {K:zbp7}{a:Addr}{xs:List V}{H1:Hp}(h:SqL K H1 a xs):Wk (Itl K a) xs.length H1 fun i x _=>xs[i]?=some x:=
 ⟨fun i H s hi=>⟨xs,xs[i],s.seq h,by simp[hi]⟩,fun H s=>⟨xs,s.seq h,zbq9 _⟩,fun i H x H' s _ y=>by
  obtain⟨e,y⟩:=y
  subst e
  exact⟨Same.refl _,y xs (s.seq h)⟩⟩
structure zam8 (H1 H:Hp) (acc:Addr) (ps:List Addr) (n:Nat) (f:Nat->HO):Prop where
 facc:H1 acc=none
 same:Same H1 H
 out:H acc=some (.lst (ps.map V.ref))
 len:ps.length=n
 nd:ps.Nodup
 nin:acc ∉ ps
 row:∀ i p,ps[i]?=some p->H1 p=none/\H p=some (f i)
theorem zam8.some {H1 H:Hp}{acc:Addr}{ps:List Addr}{n:Nat}{f:Nat->HO}(F:zam8 H1 H acc ps n f) {i:Nat}(hi:i<n):∃ p,ps[i]?=.some p/\H p=.some (f i):=by
 have hl:i<ps.length:=by rw[F.len];exact hi
 exact⟨ps[i],zbp6 hl,(F.row i _ (zbp6 hl)).2⟩
section
variable {K:zbp7}{g:TG}{tt:TT}{te:TE}{σ0:St}{H1:Hp}{Q:VK}{J:It}{n:Nat}{X:Nat->V->Hp->Prop}
theorem zaf7 (w:Wk J n H1 X) (hn:n<sizeLine) (f:Nat->HO) (Ps:Nat->St->Prop) (h0:Ps 0 σ0)
  (turn:∀ i x σ H (R:St->V->Hp->Prop) (S:St->Hp->Prop),i<n->Same H1 H->X i x H->Ps i σ->(∀ σ2 p H5,H p=none->Same H H5->H5 p=some (f i)->Ps (i+1) σ2->R σ2 (.ref p) H5)->g x σ H fun σ2 H3=>tt σ2 H3 fun b H4=>br b (te σ2 H4 fun v H5=>R σ2 v H5) (S σ2 H4))
  (fin:∀ acc ps H,zam8 H1 H acc ps n f->Q (.ref acc) H):zw0 J g tt te σ0 H1 Q:=by
 unfold zw0
 intro acc H2 hf hs ha
 refine⟨fun i m ys σ H=>m=n - i/\i<=n/\∃ ps:List Addr,ys=ps.map V.ref/\zam8 H1 H acc ps i f/\Ps i σ,⟨n,by simp,zbs4 _,[],rfl,⟨hf,hs,ha,rfl,List.nodup_nil,by simp,fun i p e=>by simp at e⟩,h0⟩,?_⟩
 rintro i m ys σ H ⟨rfl,hi,ps,rfl,F,P⟩
 refine⟨F.out,by rw[zbp5,F.len];omega,?_⟩
 by_cases hlt:i<n
 ·refine .inr ⟨w.go i H F.same hlt,fun x H' y=>?_⟩
  obtain⟨s1,x1⟩:=w.yld i H x H' F.same hlt y
  refine turn i x σ H' (fun σ2 v H5=>cPut _ acc (ps.map V.ref) i (n - i) σ2 v H5) (fun σ2 H4=>zag3 _ (ps.map V.ref) i (n - i) σ2 H4) hlt (F.same.trans s1) x1 P ?_
  intro σ2 p H5 fp s5 hp P2
  have fp0:H p=none:=s1.free fp
  have s15:=s1.trans s5
  have na:p≠acc:=Ne.symm (za5 F.out fp0)
  unfold cPut
  refine⟨s15 _ _ F.out,fun H6 c6 h6=>⟨n - (i+1),by omega,rfl,hlt,ps++[p],by rw[zbt3];rfl,⟨F.facc,(F.same.trans s15).chg F.facc c6,by rw[zbt3];exact h6,by rw[zbp9,F.len];rfl,?_,?_,?_⟩,P2⟩⟩
  ·rw[List.nodup_append]
   refine⟨F.nd,by simp,fun a ha b hb=>?_⟩
   have:b=p:=by simpa using hb
   subst this
   obtain⟨k,hk⟩:=zbs8 ha
   exact za5 (F.row k a hk).2 fp0
  ·intro hz
   rcases zbr2.mp hz with hz|hz
   ·exact F.nin hz
   ·exact na (by simpa using hz:acc=p).symm
  ·intro k q e
   by_cases hk:k<ps.length
   ·rw[zbt9 hk] at e
    obtain⟨z1,z2⟩:=F.row k q e
    exact⟨z1,c6 _ _ (fun z=>F.nin (z▸zbq0 e)) (s15 _ _ z2)⟩
   ·rw[zbt5 (by omega)] at e
    have hk2:k - ps.length=0:=by
     have:=(zbp8.mp e).1
     simp at this;omega
    rw[hk2] at e
    have:p=q:=by simpa using e
    subst this
    have:k=i:=by have:=F.len;omega
    subst this
    exact⟨F.same.free fp0,c6 _ _ na hp⟩
 ·have e:i=n:=by omega
  subst e
  exact .inl ⟨w.stop H F.same,fin acc ps H F⟩
theorem zy6 (w:Wk J n H1 X) (hn:n<sizeLine) (f:Nat->V) (p:Nat->Bool) (Ps:Nat->St->Prop) (h0:Ps 0 σ0)
  (turn:∀ i x σ H (R:St->V->Hp->Prop) (S:St->Hp->Prop),i<n->Same H1 H->X i x H->Ps i σ->(p i=true->∀ σ2 H5,Same H H5->Ps (i+1) σ2->R σ2 (f i) H5)->(p i=false->∀ σ2 H5,Same H H5->Ps (i+1) σ2->S σ2 H5) ->
   g x σ H fun σ2 H3=>tt σ2 H3 fun b H4=>br b (te σ2 H4 fun v H5=>R σ2 v H5) (S σ2 H4))
  (fin:∀ acc H,H1 acc=none->Same H1 H->H acc=some (.lst (((List.range n).filter p).map f))->Q (.ref acc) H):zw0 J g tt te σ0 H1 Q:=by
 unfold zw0
 intro acc H2 hf hs ha
 refine⟨fun i m ys σ H=>m=n - i/\i<=n/\ys=((List.range i).filter p).map f/\Same H1 H/\H acc=some (.lst ys)/\Ps i σ,⟨n,by simp,zbs4 _,rfl,hs,ha,h0⟩,?_⟩
 rintro i m ys σ H ⟨rfl,hi,rfl,s,hy,P⟩
 have hlen:(((List.range i).filter p).map f).length<=i:=by
  rw[zbp5]
  have:=List.length_filter_le p (List.range i)
  rwa [zbv4] at this
 refine⟨hy,by omega,?_⟩
 by_cases hlt:i<n
 ·refine .inr ⟨w.go i H s hlt,fun x H' y=>?_⟩
  obtain⟨s1,x1⟩:=w.yld i H x H' s hlt y
  refine turn i x σ H' (fun σ2 v H5=>cPut _ acc _ i (n - i) σ2 v H5) (fun σ2 H4=>zag3 _ _ i (n - i) σ2 H4) hlt (s.trans s1) x1 P ?_ ?_
  ·intro hp σ2 H5 s5 P2
   unfold cPut
   refine⟨s5 _ _ (s1 _ _ hy),fun H6 c6 h6=>⟨n - (i+1),by omega,rfl,hlt,?_,((s.trans s1).trans s5).chg hf c6,h6,P2⟩⟩
   rw[List.range_succ,List.filter_append,zbt3]
   congr 1
   simp[hp]
  ·intro hp σ2 H5 s5 P2
   unfold zag3
   refine⟨n - (i+1),by omega,rfl,hlt,?_,(s.trans s1).trans s5,s5 _ _ (s1 _ _ hy),P2⟩
   rw[List.range_succ,List.filter_append,zbt3]
   simp[hp]
 ·have e:i=n:=by omega
  subst e
  exact .inl ⟨w.stop H s,fin acc H hf s hy⟩
theorem zq2 (n:Nat):(List.range n).filter (fun _=>true)=List.range n:=by simp
end
def ChgS (ps:List Addr) (H H':Hp):Prop:=∀ b o,b ∉ ps->H b=some o->H' b=some o
theorem ChgS.refl (ps:List Addr) (H:Hp):ChgS ps H H:=fun _ _ _ e=>e
theorem EqR.intL {K:zbp7}{H:Hp}{a b:Addr}{xs ys:List Int}(ha:SqL K H a (xs.map V.int)) (hb:SqL K H b (ys.map V.int)):EqR K H 1 (.ref a) (.ref b) (decide (xs=ys)):=by
 by_cases hl:xs.length=ys.length
 ·have h:=EqR.lst (K:=K) (H:=H) (n:=0) (fun j=>decide (xs[j]?=ys[j]?)) ha hb (by simpa using hl) (fun j x y hx hy=>by
   rw[zbq2] at hx hy
   obtain⟨i,e1,rfl⟩:=zbq7.mp hx
   obtain⟨k,e2,rfl⟩:=zbq7.mp hy
   have e:eqV (.int i) (.int k)=decide (xs[j]?=ys[j]?):=by
    rw[e1,e2]
    by_cases z:i=k
    ·subst z;simp[eqV]
    ·simp[eqV,z]
   rw[← e]
   exact EqR.flat rfl rfl)
  have e:(List.range (xs.map V.int).length).all (fun j=>decide (xs[j]?=ys[j]?))=decide (xs=ys):=by
   rw[zbu4,zbr0,decide_eq_true_iff]
   constructor
   ·intro q
    apply List.ext_getElem?
    intro j
    by_cases hj:j<xs.length
    ·exact of_decide_eq_true (q j (zbs1.mpr (by simpa using hj)))
    ·rw[zbu7 (by omega),zbu7 (by omega)]
   ·rintro rfl j _
    exact decide_eq_true rfl
  rw[e] at h
  exact h
 ·have:decide (xs=ys)=false:=decide_eq_false fun e=>hl (by rw[e])
  rw[this]
  exact EqR.lstN ha hb (by simpa using hl)
end L2
set_option maxHeartbeats 2000000
namespace L2
open PySem PySem.Spec PyProof.Rows
def Itd (hi:Int) (n:Nat):It:=⟨fun i _=>i<n,fun i H x H'=>H'=H/\x=.int (hi - i),fun i _=>n<=i⟩
section
variable {X:Cx}{tg:Expr}
@[irreducible] def zbj9 (i j:Int) (H:Hp) (R:It->Hp->Prop):Prop:=(-(2 ^ 62)<=i/\i<2 ^ 62/\-(2 ^ 62)<=j/\j<2 ^ 62)/\R (Itd i (i - j).toNat) H
def qiRngD (ta:TA):TI:=fun σ H R=>ta σ H fun vs H1=>match vs with
 | [.int i,.int j,.int (-1)]=>zbj9 i j H1 R
 | _=>False
end
section
variable {K:zbp7}{g:TG}{tb:TS}{D:Ends}{σ:St}{H:Hp}{R:It->Hp->Prop}
end
section
variable {X:Cx}{K:zbp7}
def qBM0 (K:zbp7) (r:Addr->List V->Hp->VK->Prop) (to:TE):TE:=fun σ H Q=>to σ H fun x H1=>match x with
 | .ref p=>zaf0 K p H1 (r p [] H1 Q)
 | _=>False
theorem zao6 {α β:Type}{f g:α->Option β}:∀ {l:List α},(∀ a∈l,f a=g a)->l.filterMap f=l.filterMap g
 | [],_=>rfl
 | a :: l,h=>by
  rw[zbw2,zbw2,h a zbv0,zao6 fun b hb=>h b (zbt8 _ hb)]
theorem zab2 (its:List Value):slicePick its.toArray none none (some (-1))=its.reverse.toArray:=by
 unfold slicePick sliceBounds sliceRange
 simp only[Option.getD_some,show ¬ (-1:Int)>0 by decide,if_false,zbq3]
 by_cases h0:its.length=0
 ·have:its=[]:=List.length_eq_zero_iff.mp h0
  subst this
  rfl
 ·have hgt:((its.length:Int) - 1) > -1:=by omega
  simp only[hgt,if_true]
  have e1:(((its.length:Int) - 1 - -1 - -1 - 1) / (- -1)).toNat=its.length:=by
   rw[show -(-1:Int)=1 by decide,Int.ediv_one];omega
  rw[e1]
  congr 1
  rw[List.filterMap_map]
  have hk:∀ k∈List.range its.length,((fun x=>its.toArray[x]?)∘fun k:Nat=>((its.length:Int) - 1+-1*(k:Int)).toNat) k=(some∘fun k=>its.getD (its.length - 1 - k) .none) k:=fun k hk=>by
   have hk:=zbs1.mp hk
   show its.toArray[((its.length:Int) - 1+-1*(k:Int)).toNat]?=some (its.getD (its.length - 1 - k) .none)
   rw[show ((its.length:Int) - 1+-1*(k:Int)).toNat=its.length - 1 - k by omega,List.getElem?_toArray,zbq4,zbp6 (by omega)]
   rfl
  rw[zao6 hk,List.filterMap_eq_map]
  apply List.ext_getElem?
  intro i
  by_cases hi:i<its.length
  ·rw[zbq2,List.getElem?_range hi,List.getElem?_reverse hi,zbp6 (by omega)]
   show some (its.getD (its.length - 1 - i) .none)=_
   rw[zbq4,zbp6 (by omega)]
   rfl
  ·rw[zbu7 (by simp;omega),zbu7 (by simp;omega)]
@[irreducible] def rRvA (K:zbp7) (a:Addr) (H:Hp) (Q:VK):Prop:=∃ xs,SqL K H a xs/\∀ p H',H p=none->Same H H'->H' p=some (.lst xs.reverse)->Q (.ref p) H'
def qRv (K:zbp7) (te:TE):TE:=fun σ H Q=>te σ H fun x H1=>match x with
 | .ref a=>rRvA K a H1 Q
 | _=>False
theorem peRv {e:Expr}{te:TE}{p1 p2 p3 pos:Pos}(hK:X.K=K) (he:PE X e te):PE X (.Subscript e (.Slice none none (some (.UnaryOp .USub (.Constant (.int 1) 0 p1) p3)) p2) pos) (qRv K te):=by
 subst hK
 intro pins s σ H Q I h
 refine Subscript_ (thn (he pins s σ H _ I h) fun v s1 ⟨x,H1,I1,r1,q1⟩=>?_)
 dsimp only at q1
 split at q1
 case h_2=>exact q1.elim
 rename_i a
 unfold rRvA at q1
 obtain⟨xs,hx,q⟩:=q1
 refine wpAny_Slice ?_
 rw[evalPart_none]
 refine wpAny_pure (wpAny_pure ?_)
 rw[evalPart_some]
 refine thn (zaj6 (X:=X) uNeg za2 pins s1 σ H1 (fun y H2=>y=.int (-1)/\H2=H1) I1 ⟨rfl,rfl⟩) fun u s2 ⟨y,H2,I2,r2,q2⟩=>?_
 obtain⟨rfl,rfl⟩:=q2
 obtain⟨t,rfl⟩:=r2
 cases r1
 have I4:Inv X pins σ H2 { s2 with heap:=s2.heap.push { cls:=.type "slice",data:=.fields #[.none,.none,.int (-1) t] } }:=I2.kept (t':=s2.toks) fun b ob q=>zbq1 _ q
 obtain⟨its,r,ht,hz⟩:=I4.list hx
 have hlen:=r.length
 refine tail_any (ops:=[.ref a,.ref s2.heap.objs.size]) ht.isList.typeIs F.slot_list_getitem.lookup ?_ (by with_unfolding_all rfl)
 refine wpAny_getItem_list_slice ht.isList (Heap.IsSliceOf.new ..) .none .none (.int (-1) t) (by simp) ?_ (by rw[zbq3]<;>omega)
 rw[zab2]
 have hf:=I4.hok.fresh (zbq9 _)
 refine⟨.ref _,_,I4.laid (t':=s2.toks) (o:=.lst xs.reverse) (fun b ob q=>zbq1 _ q) (zbq9 _) ?_,rfl,q _ _ hf (Same.upd hf) zb7⟩
 exact⟨by rw[zbu8];exact hz,_,0,r.reverse,zbr8 _ rfl⟩
theorem rv_rd {a:Addr}{H:Hp}{Q:VK}{xs:List V}(h:SqL K H a xs) (q:∀ p H',H p=none->Same H H'->H' p=some (.lst xs.reverse)->Q (.ref p) H'):rRvA K a H Q:=by unfold rRvA;exact⟨xs,h,q⟩
@[irreducible] def rMinL (K:zbp7) (p:Addr) (H:Hp) (Q:VK):Prop:=∃ ns:List Int,SqL K H p (ns.map V.int)/\0<ns.length/\∀ M:Int,M∈ns->(∀ a∈ns,M<=a)->Q (.int M) H
def zbg1 (K:zbp7):List V->Hp->VK->Prop:=fun xs H Q=>match xs with
 | [.ref p]=>rMinL K p H Q
 | [.int i,.int j]=>Q (.int (if j<i then j else i)) H
 | _=>False
theorem cMinK (hK:X.K=K) (hc:X.calm=true):zl0 X (.builtin "min") (zbg1 K):=by
 subst hK
 intro pins s σ H xs us Q I r h
 unfold zbg1 at h
 split at h
 ·unfold rMinL at h
  obtain⟨ns,h1,h2,h3⟩:=h
  obtain⟨u,rfl,rx⟩:=zy4 r
  cases rx
  obtain⟨its,r',pl,hz⟩:=I.list h1
  have hi:=zs8 r'
  obtain⟨ys,hx⟩:=hi.allInts.items
  have e1:ns=ys.toList.map (·.1):=by
   rw[← nums_intItems,← hx]
   exact (show numsOf its.toArray.toList=ns from hi.numsOf).symm
  have hs:0<ys.size:=by
   have z:ns.length=ys.size:=by
    conv=>lhs;rw[e1]
    rw[zbp5,Array.length_toList]
   omega
  have hl':s.heap.IsList _ (intItems ys):=hx▸pl.isList
  refine min_intList (I.ok.hd hc) hl' hs fun v h' tk hv hk=>?_
  obtain⟨t,rfl⟩:=intItems_at hv
  have best:=argBest_lt (numAt ys) (ys.size - 1)
  refine⟨.int _,H,I.kept hk,⟨t,rfl⟩,h3 _ ?_ fun a ha=>?_⟩
  ·rw[e1,numAt_eq]
   exact getD_mem (by rw[zbp5,Array.length_toList];omega)
  ·rw[e1] at ha
   obtain⟨j,hj,rfl⟩:=mem_getD ha
   rw[zbp5,Array.length_toList] at hj
   rw[← numAt_eq]
   exact best.2 j (by omega)
 ·exact zat6 hc pins s σ H _ us Q I r ⟨_,_,rfl,h⟩
 ·exact h.elim
theorem ptW {e:Expr}{t:TT}(h:PW X e t):PT X e t:=h.pt
end
end L2
set_option maxHeartbeats 2000000
namespace L2
open PySem PySem.Spec PyProof.Rows
section
variable {M:Model}{A:Around}{E:Value->Shared->Prop}{s:Shared}{B:Heap}{env:Env}{outer:List Env}{L e:Addr}{cls:Value}{dx:Option Addr}{Q:Unit->Shared->Prop}
end
section
variable {X:Cx}{pins:List (Addr×Obj)}{σ:St}{H:Hp}{s s':Shared}
end
section
variable {X:Cx}{x:Str}{C:Addr}{bm:List Value}{B newId initId:String}{np cpos pos:Pos}{e₀:Expr}{rest:List Expr}{t:TA}{E:XK}
end
section
variable {P:Program}{w:World}{K:zbp7}{mg:Str->Option Value}{base:Heap}
end
end L2
set_option maxHeartbeats 4000000
namespace L2
open PySem PySem.Spec PyProof.Rows
section
open PySem.W PySem.Calls
end
section
variable {X:Cx}{K:zbp7}{H:Hp}{Q:VK}
end
section
variable {X:Cx}{pins:List (Addr×Obj)}{σ:St}{H:Hp}{s:Shared}
theorem zg6.ex {P:Program}{w:World}{H:Hp}{h:Heap}{a:Addr}{o:HO}(x:zg6 P w H h a o):∃ u,h.get? a=some u:=by
 cases o with
 | lst xs=>obtain⟨_,_,_,_,e⟩:=x;exact⟨_,e⟩
 | tup xs=>obtain⟨_,_,_,ob,e,_⟩:=x;exact⟨ob,e⟩
 | dK kvs=>obtain⟨_,_,_,_,ob,_,_,e,_⟩:=x;exact⟨ob,e⟩
 | dT kvs=>obtain⟨_,_,_,_,ob,_,_,e,_⟩:=x;exact⟨ob,e⟩
 | set S n=>obtain⟨ob,_,_,_,e,_⟩:=x;exact⟨ob,e⟩
 | ins C dx fs=>obtain⟨_,_,_,e,_⟩:=x;exact⟨_,e⟩
 | own y=>exact x
 | xd fs=>obtain⟨_,⟨ob,_,_,e,_⟩,_⟩:=x;exact⟨ob,e⟩
 | rng lo hi=>obtain⟨_,_,_,e⟩:=x;exact⟨_,e⟩
 | frz ob u=>obtain⟨e,_⟩:=x;exact⟨_,e⟩
 | tbl ps=>exact⟨_,(show h.get? a=some _ from x)⟩
 | met f y=>exact⟨_,(show h.get? a=some _ from x)⟩
 | ext φ=>obtain⟨_,e,_⟩:=x;exact e
end
end L2
set_option maxHeartbeats 4000000
namespace L2
open PySem PySem.Spec PyProof.Rows
section
open PySem.W
end
section
variable {X:Cx}{K:zbp7}
end
section
variable {X:Cx}{st:Stmt}{rest:List Stmt}{t u:TS}{e:Expr}{es:List Expr}{te:TE}{ta:TA}
@[irreducible] def PSsI (X:Cx) (st:List Stmt) (t:TS):Prop:=PSs X st t
@[irreducible] def PSI (X:Cx) (st:Stmt) (t:TS):Prop:=PS X st t
@[irreducible] def PEI (X:Cx) (e:Expr) (t:TE):Prop:=PE X e t
@[irreducible] def PAI (X:Cx) (es:List Expr) (t:TA):Prop:=PA X es t
theorem psOf (h:PS X st t):PSI X st t:=by unfold PSI;exact h
theorem pssTo {st:List Stmt}(h:PSsI X st t):PSs X st t:=by unfold PSsI at h;exact h
theorem zb1 (h1:PSI X st t) (h2:PSsI X rest u):PSsI X (st :: rest) (tSeq t u):=by unfold PSsI PSI at *;exact za4 h1 h2
theorem zh0 (h1:PSI X st t):PSsI X [st] t:=by unfold PSsI PSI at *;exact za8 h1
theorem zi8:PSsI X [] tNext:=by unfold PSsI;exact zf1
theorem psIS {i:Nat}{x:Str}{pos' pos:Pos}(hN:X.N.Nodup) (he:PEI X e te) (hi:X.N[i]?=some x:=by rfl) (hx:Loc X.env.scope x:=by first|exact Or.inl rfl|exact Or.inr rfl) (hs:swapsWith e (some (.Name x pos')) pos.line X.env=pure false:=by rfl) (hf:X.fn x=true∨X.env.scope.names.lookup x=some .local:=by first|exact .inl rfl|exact .inr rfl|assumption) :
  PSI X (.Assign [.Name x pos'] e pos) (tAsg te (zaw7 i)):=by unfold PSI PEI at *;exact zbf8 hN hi hx he hs hf
theorem zo0 {pos:Pos}(h:PAI X es ta):PEI X (.List es pos) (qLst ta):=by unfold PEI PAI at *;exact zp0 h
theorem zas2 {x j pos}:PEI X (.Constant (.str x) j pos) (tC (.str x)):=by unfold PEI;exact pe_str
theorem zb9:PAI X [] tNil:=by unfold PAI;exact za3
theorem za1 (ha:PEI X e te) (hr:PAI X es ta) (hs:starEach (e :: es) X.env=(false,eval e X.env) :: starEach es X.env:=by rfl):PAI X (e :: es) (tCons te ta):=by unfold PEI PAI at *;exact za0 ha hr hs
end
end L2
set_option maxHeartbeats 1000000
namespace L2
open PySem PySem.Spec PyProof.Rows
section
variable {X:Cx}{K:zbp7}
end
end L2
set_option maxHeartbeats 2000000
namespace L2
open PySem PySem.Spec PyProof.Rows
def Itz (K:zbp7) (a b:Addr):It:=
 ⟨fun i H=>∃ xs ys x y,SqL K H a xs/\SqL K H b ys/\xs[i]?=some x/\ys[i]?=some y,
  fun i H v H'=>∃ p x y,v=.ref p/\H p=none/\Same H H'/\H' p=some (.tup [x,y])/\(∀ xs,SqL K H a xs->xs[i]?=some x)/\∀ ys,SqL K H b ys->ys[i]?=some y,
  fun i H=>∃ xs ys,SqL K H a xs/\SqL K H b ys/\(xs.length<=i∨ys.length<=i)⟩
theorem zbe5 {P:Program}{w:World}{K:zbp7}{elts:List Expr}{k:Nat}{pos:Pos}(l1 l2 z TI TO i1 i2:Addr) (D:ZipApart z TI TO i1 i2 l1 l2) :
  Turn P w K (.Tuple elts k pos) (Itz K l1 l2) [z,TI,TO,i1,i2] z (fun i h=>IsZip h z TI TO .none/\IsPair h TI (.ref i1) (.ref i2)/\(∃ a b,IsPair h TO a b)/\h.IsListIter i1 l1 i/\h.IsListIter i2 l2 i) where
 mem:=by simp
 obj:=fun i h st b hb=>by
  obtain⟨hz,hTI,⟨a,b',hTO⟩,⟨o1,e1,c1,d1⟩,⟨o2,e2,c2,d2⟩⟩:=st
  simp only[zbq8,zbs5,or_false] at hb
  rcases hb with rfl|rfl|rfl|rfl|rfl
  ·exact⟨_,hz,fun v z=>by cases z⟩
  ·exact⟨_,hTI,fun v z=>by cases z⟩
  ·exact⟨_,hTO,fun v z=>by cases z⟩
  ·exact⟨o1,e1,fun v z=>by rw[d1] at z;cases z⟩
  ·exact⟨o2,e2,fun v z=>by rw[d2] at z;cases z⟩
 keep:=fun i h h' st kp=>by
  obtain⟨hz,hTI,⟨a,b',hTO⟩,h1,h2⟩:=st
  exact⟨kp z (by simp) _ hz,kp TI (by simp) _ hTI,⟨a,b',kp TO (by simp) _ hTO⟩,h1.at fun o x=>kp i1 (by simp) o x,h2.at fun o x=>kp i2 (by simp) o x⟩
 item:=by
  intro X hP hw hK hc i pins s σ H E I hf st hg
  subst hP hw hK
  obtain⟨hz,hTI,⟨a0,b0,hTO⟩,h1,h2⟩:=st
  obtain⟨xs,ys,x,y,hq1,hq2,hx,hy⟩:=hg
  obtain⟨its1,rv1,p1,_⟩:=I.list hq1
  obtain⟨its2,rv2,p2,_⟩:=I.list hq2
  obtain⟨u,hu,ru⟩:=rv1.get hx
  obtain⟨v,hv,rv⟩:=rv2.get hy
  have hzl:z<s.heap.objs.size:=zbr4 hz
  refine wpAny_pyNext_zip_item D hz hTI hTO h1 h2 p1.isList p2.isList (x:=u) (y:=v) (by simpa using hu) (by simpa using hv) fun h3 z3 TO3 j1 j2 T3 sz3 kp3=>?_
  refine⟨_,rfl,wpAny_letOwnedTupleGo_zip z3 fun h4 z4 hs4=>?_⟩
  replace hs4:Heap.SameBut z h3 h4:=hs4
  have kp:∀ b o,b ∉ [z,TI,TO,i1,i2]->s.heap.get? b=some o->h4.get? b=some o:=fun b o hb x=>by
   simp only[zbq8,zbs5,or_false,not_or] at hb
   obtain⟨b1,b2,b3,b4,b5⟩:=hb
   exact (hs4.2 b b1).trans (kp3 b o b1 b3 b4 b5 x)
  have ht4:h4.get? s.heap.objs.size=some { cls:=.type "tuple",data:=.seq #[u,v] }:=(hs4.2 _ (Nat.ne_of_gt hzl)).trans T3
  have hfr:H s.heap.objs.size=none:=I.fresh
  have nof:∀ b v,H b=some v->b ∉ [z,TI,TO,i1,i2]:=fun b v hb m=>by
   have:=(hf b m).1
   rw[this] at hb
   cases hb
  have nlt:∀ b o,s.heap.get? b=some o->b≠s.heap.objs.size:=fun b o x=>zbs3 (zbr4 x)
  have hok:HOk X.prog X.w (upd H s.heap.objs.size (.tup [x,y])) h4:=fun b v' hb=>by
   by_cases e1:b=s.heap.objs.size
   ·subst e1
    rw[zb7] at hb
    cases hb
    exact⟨by show 2<=sizeLine;decide,[u,v],.cons ru (.cons rv .nil),⟨_,ht4,rfl,_,rfl⟩⟩
   ·rw[ze8 e1] at hb
    refine (I.hok b v' hb).stay (fun c w' hc q=>?_) (fun c q=>?_) (fun c ys q=>?_)
    ·rcases hc with rfl|hc
     ·exact kp _ _ (nof _ _ hb) q
     ·exact kp _ _ (nof _ _ hc) q
    ·rw[ze8 (za5 q hfr)];exact q
    ·rw[ze8 (za5 q hfr)];exact q
  have chs:∀ b∈[z,TI,TO,i1,i2],(b∈X.ex∨X.s₀.heap.objs.size<=b)/\b≠X.env.locals/\(∀ x c,X.env.cells.lookup x=some c->c≠b)/\∀ p∈X.pn++pins,p.1≠b:=fun b hb=>by
   obtain⟨f0,f1,f2,f3,f4,f5⟩:=hf b hb
   exact⟨f3,f1,f4,f5⟩
  have I2:Inv X pins σ (upd H s.heap.objs.size (.tup [x,y])) { s with heap:=h4 }:=
   I.step (g':=s.gens) (d':=s.drawn) (t':=s.toks) (ch:=[z,TI,TO,i1,i2]) chs (fun b o _ _ hb x _=>kp b o hb x) (fun b o _ _ hb x _=>⟨o.slots,kp b o hb x⟩)
    (fun b o _ x n=>by rw[ze8 (nlt b o x)];exact n) (fun b o hb x=>⟨o,kp b o hb x⟩) (fun b ys q=>by rw[ze8 (za5 q hfr)];exact q) (fun b o v q=>by rw[ze8 (za5 q hfr)];exact q)
    (fun b ps q=>⟨#[],by rw[ze8 (za5 q hfr),q];simp⟩)
    (fun m hm=>by
     obtain⟨o,es,ep,ho,r⟩:=hm
     exact⟨o,es,ep,kp _ o (fun m=>(chs _ m).2.1 rfl) ho,r⟩) hok I.bare
  refine⟨.ref s.heap.objs.size,_,I2,rfl,⟨_,x,y,rfl,hfr,Same.upd hfr,zb7,fun ys hy'=>by rw[I.list_inj hy' hq1];exact hx,fun ys hy'=>by rw[I.list_inj hy' hq2];exact hy⟩,⟨z4,?_,⟨u,v,?_⟩,?_,?_⟩,fun b hb=>?_⟩
  ·exact (hs4.2 _ D.TIz).trans (kp3 _ _ D.TIz D.TITO D.TIi1 D.TIi2 hTI)
  ·exact (hs4.2 _ D.TOz).trans TO3
  ·exact j1.extBut hs4.extBut D.i1z
  ·exact j2.extBut hs4.extBut D.i2z
  ·have hb0:H b=none:=(hf b hb).1
   have hlt:b≠s.heap.objs.size:=by
    simp only[zbq8,zbs5,or_false] at hb
    rcases hb with rfl|rfl|rfl|rfl|rfl
    ·exact nlt _ _ hz
    ·exact nlt _ _ hTI
    ·exact nlt _ _ hTO
    ·obtain⟨o,ho,_⟩:=h1;exact nlt _ _ ho
    ·obtain⟨o,ho,_⟩:=h2;exact nlt _ _ ho
   rw[ze8 hlt];exact hb0
 done:=by
  intro X hP hw hK hc i pins s σ H E I hf st hg
  subst hP hw hK
  obtain⟨hz,hTI,⟨a0,b0,hTO⟩,h1,h2⟩:=st
  obtain⟨xs,ys,hq1,hq2,hx⟩:=hg
  obtain⟨its1,rv1,p1,_⟩:=I.list hq1
  obtain⟨its2,rv2,p2,_⟩:=I.list hq2
  have hl1:=rv1.length
  have hl2:=rv2.length
  have nof:∀ b v,H b=some v->b ∉ [z,TI,TO,i1,i2]:=fun b v hb m=>by
   have:=(hf b m).1
   rw[this] at hb
   cases hb
  have chs:∀ b∈[z,TI,TO,i1,i2],(b∈X.ex∨X.s₀.heap.objs.size<=b)/\b≠X.env.locals/\(∀ x c,X.env.cells.lookup x=some c->c≠b)/\∀ p∈X.pn++pins,p.1≠b:=fun b hb=>by
   obtain⟨f0,f1,f2,f3,f4,f5⟩:=hf b hb
   exact⟨f3,f1,f4,f5⟩
  refine wpAny_pyNext_zip_end (I.ok.hd hc) D hz hTI hTO h1 h2 p1.isList p2.isList ?_ fun h' kp3=>⟨rfl,?_⟩
  ·rcases hx with hx|hx
   ·exact .inl (by simp;omega)
   ·exact .inr (by simp;omega)
  ·have kp:∀ b o,b ∉ [z,TI,TO,i1,i2]->s.heap.get? b=some o->h'.get? b=some o:=fun b o hb x=>by
    simp only[zbq8,zbs5,or_false,not_or] at hb
    obtain⟨b1,b2,b3,b4,b5⟩:=hb
    exact kp3 b o b1 b3 b4 b5 x
   have hok:HOk X.prog X.w H h':=fun b v' hb=>by
    refine (I.hok b v' hb).stay (fun c w' hc q=>?_) (fun c q=>q) (fun c ys q=>q)
    rcases hc with rfl|hc
    ·exact kp _ _ (nof _ _ hb) q
    ·exact kp _ _ (nof _ _ hc) q
   exact I.step (g':=s.gens) (d':=s.drawn) (t':=s.toks) (ch:=[z,TI,TO,i1,i2]) chs (fun b o _ _ hb x _=>kp b o hb x) (fun b o _ _ hb x _=>⟨o.slots,kp b o hb x⟩)
    (fun b o _ x n=>n) (fun b o hb x=>⟨o,kp b o hb x⟩) (fun b ys q=>q) (fun b o v q=>q)
    (fun b ps q=>⟨#[],by rw[q];simp⟩)
    (fun m hm=>by
     obtain⟨o,es,ep,ho,r⟩:=hm
     exact⟨o,es,ep,kp _ o (fun m=>(chs _ m).2.1 rfl) ho,r⟩) hok I.bare
 self:=fun _ _ _ _ _ st h=>wpAny_pyIter_zip st.1 h
section
variable {X:Cx}{K:zbp7}
theorem bt_zip:bootBuiltins "zip"=some (.type "zip"):=by decide +kernel
@[irreducible] def rZip (K:zbp7) (a b:Addr) (H:Hp) (R:It->Hp->Prop):Prop:=(∃ xs,SqL K H a xs)/\(∃ ys,SqL K H b ys)/\R (Itz K a b) H
def qiZip (K:zbp7) (ta:TA):TI:=fun σ H R=>ta σ H fun vs H1=>match vs with
 | [.ref a,.ref b]=>rZip K a b H1 R
 | _=>False
theorem zbg3 {elts:List Expr}{k:Nat}{pt:Pos}{a b:Expr}{ta:TA}{p pos:Pos}(hK:X.K=K) (hm:X.mg "zip"=none) (ha:PA X [a,b] ta) (hg:Gl X "zip":=by rfl) (hs:starEach [a,b] X.env=(false,eval a X.env) :: starEach [b] X.env:=by rfl)
  (hpl:(backTo pos (starEach [b] X.env)).any (·.1)=false:=by rfl) :
  PI X (.Tuple elts k pt) (.Call (.Name "zip" p) [a,b] [] pos) (qiZip K ta):=by
 subst hK
 intro pins s σ H R I h
 refine Call_ (zx3 I hg hm bt_zip (PyProof.Rows.callWith_type1 (thn (ha pos pins s σ H _ I h) fun us s1 ⟨vs,H1,I1,r1,q1⟩=>?_) hs hpl))
 dsimp only at q1
 split at q1
 ·rename_i l m
  unfold rZip at q1
  obtain⟨⟨xs,hq1⟩,⟨ys,hq2⟩,q⟩:=q1
  obtain⟨u1,u2,rfl,rx,ry⟩:=zaq8 r1
  cases rx
  cases ry
  obtain⟨its1,rv1,p1,_⟩:=I1.list hq1
  obtain⟨its2,rv2,p2,_⟩:=I1.list hq2
  have l1:@LT.lt Nat _ l s1.heap.objs.size:=by obtain⟨o,ho,_⟩:=p1.isList;exact zbr4 ho
  have l2:@LT.lt Nat _ m s1.heap.objs.size:=by obtain⟨o,ho,_⟩:=p2.isList;exact zbr4 ho
  refine call_zip_2 p1.isList p2.isList fun h' hz hTI hTO j1 j2 hsz hk=>?_
  refine wpAny_pyIter_zip hz ?_
  have I2:Inv X pins σ H1 { s1 with heap:=h' }:=I1.kept (t':=s1.toks) hk
  have D:ZipApart (s1.heap.objs.size+4) (s1.heap.objs.size+2) (s1.heap.objs.size+3) s1.heap.objs.size (s1.heap.objs.size+1) l m:=by
   constructor<;>(intro z;have z:(_:Nat)=_:=z;omega)
  refine⟨_,_,_,Itz X.K l m,H1,rfl,I2,zbe5 l m _ _ _ _ _ D,⟨hz,hTI,⟨_,_,hTO⟩,j1,j2⟩,fun b hb=>?_,q⟩
  have hb':s1.heap.objs.size<=b:=by
   simp only[zbq8,zbs5,or_false] at hb
   rcases hb with rfl|rfl|rfl|rfl|rfl
   ·exact zbw6 _ _
   ·exact zbw6 _ _
   ·exact zbw6 _ _
   ·exact zbq9 _
   ·exact zbw6 _ _
  exact I1.fpOk hb' (I1.hok.fresh hb')
 ·exact q1.elim
end
section
variable {K:zbp7}{g:TG}{tb:TS}{D:Ends}{σ:St}{H:Hp}{R:It->Hp->Prop}
theorem zbg9 {a b:Addr}{xs ys:List V}(h:SqL K H a xs) (h':SqL K H b ys) (q:R (Itz K a b) H):rZip K a b H R:=by unfold rZip;exact⟨⟨xs,h⟩,⟨ys,h'⟩,q⟩
end
end L2
set_option maxHeartbeats 2000000
namespace L2
open PySem PySem.Spec PyProof.Rows
section
variable {X:Cx}{K:zbp7}
end
section
variable {J:It}{n:Nat}{H1:Hp}{X:Nat->V->Hp->Prop}{g:TG}{tt:TT}{te:TE}{σ0:St}{Q:VK}
theorem zbf5 (w:Wk J n H1 X) (hn:n<sizeLine) (Pv:Addr->Nat->List V->St->Hp->Prop) (h0:∀ acc H,H1 acc=none->Same H1 H->H acc=some (.lst [])->Pv acc 0 [] σ0 H)
  (hP:∀ acc i ys σ H H',Same H H'->Pv acc i ys σ H->Pv acc i ys σ H')
  (turn:∀ acc i x ys σ H (R:St->V->Hp->Prop) (S:St->Hp->Prop),i<n->H1 acc=none->Same H1 H->H acc=some (.lst ys)->X i x H->Pv acc i ys σ H ->
   (∀ σ2 v H5,Same H H5->(∀ H6,Chg acc H5 H6->Pv acc (i+1) (ys++[v]) σ2 H6)->R σ2 v H5)->(∀ σ2 H5,Same H H5->Pv acc (i+1) ys σ2 H5->S σ2 H5) ->
   g x σ H fun σ2 H3=>tt σ2 H3 fun b H4=>br b (te σ2 H4 fun v H5=>R σ2 v H5) (S σ2 H4))
  (fin:∀ acc ys σ H,H1 acc=none->Same H1 H->H acc=some (.lst ys)->Pv acc n ys σ H->Q (.ref acc) H):zw0 J g tt te σ0 H1 Q:=by
 unfold zw0
 intro acc H2 hf hs ha
 refine⟨fun i m ys σ H=>m=n - i/\i<=n/\ys.length<=i/\Same H1 H/\H acc=some (.lst ys)/\Pv acc i ys σ H,⟨n,by simp,zbs4 _,zbq9 _,hs,ha,h0 acc H2 hf hs ha⟩,?_⟩
 rintro i m ys σ H ⟨rfl,hi,hl,s,hy,P⟩
 refine⟨hy,by omega,?_⟩
 by_cases hlt:i<n
 ·refine .inr ⟨w.go i H s hlt,fun x H' y=>?_⟩
  obtain⟨s1,x1⟩:=w.yld i H x H' s hlt y
  refine turn acc i x ys σ H' (fun σ2 v H5=>cPut _ acc ys i (n - i) σ2 v H5) (fun σ2 H4=>zag3 _ ys i (n - i) σ2 H4) hlt hf (s.trans s1) (s1 _ _ hy) x1 (hP _ _ _ _ _ _ s1 P) ?_ ?_
  ·intro σ2 v H5 s5 q
   have s15:=s1.trans s5
   unfold cPut
   refine⟨s15 _ _ hy,fun H6 c6 h6=>⟨n - (i+1),by omega,rfl,hlt,by rw[zbp9];simp;omega,(s.trans s15).chg hf c6,h6,q H6 c6⟩⟩
  ·intro σ2 H5 s5 q
   have s15:=s1.trans s5
   unfold zag3
   exact⟨n - (i+1),by omega,rfl,hlt,by omega,s.trans s15,s15 _ _ hy,q⟩
 ·have e:i=n:=by omega
  subst e
  exact .inl ⟨w.stop H s,fin acc ys σ H hf s hy P⟩
end
end L2
set_option maxHeartbeats 2000000
namespace PySem
open Sem (wp)
namespace F
end F
section
variable {prog:Program}{w:World}{A:Around}{E:Value->Shared->Prop}{s:Shared}
end
section
variable {prog:Program}{w:World}{A:Around}{E:Value->Shared->Prop}{s:Shared}
end
end PySem
set_option maxHeartbeats 2000000
namespace L2
open PySem PySem.Spec PyProof.Rows
section
variable {X:Cx}{K:zbp7}
end
section
variable {K:zbp7}{H:Hp}{R:It->Hp->Prop}
end
end L2
set_option maxHeartbeats 2000000
namespace L2
open PySem PySem.Spec PyProof.Rows
section
variable {X:Cx}{K:zbp7}
end
end L2
set_option maxHeartbeats 2000000
namespace L2
open PySem PySem.Spec PyProof.Rows
section
variable {X:Cx}{K:zbp7}
end
end L2
set_option maxHeartbeats 2000000
namespace L2
open PySem PySem.Spec PyProof.Rows
section
variable {X:Cx}{K:zbp7}
@[irreducible] def rTupA (K:zbp7) (p:Addr) (H:Hp) (Q:VK):Prop:=∃ ys,SqL K H p ys/\∀ l H',H l=none->Same H H'->H' l=some (.tup ys)->Q (.ref l) H'
def rTupM (K:zbp7):List V->Hp->VK->Prop:=fun xs H Q=>match xs with
 | [.ref p]=>rTupA K p H Q
 | _=>False
theorem cTupK (hK:X.K=K):zl0 X (.type "tuple") (rTupM K):=fun pins s σ H xs us Q I r h=>by
 subst hK
 unfold rTupM at h
 split at h
 ·unfold rTupA at h
  obtain⟨ys,h1,h2⟩:=h
  exact zac2 pins s σ H _ us Q I r ⟨_,ys,rfl,.inl ⟨h1,fun l hl=>h2 l _ hl (Same.upd hl) zb7⟩⟩
 ·exact h.elim
theorem zak5 {p:Addr}{H:Hp}{Q:VK}{ys:List V}(h:SqL K H p ys) (q:∀ l H',H l=none->Same H H'->H' l=some (.tup ys)->Q (.ref l) H'):rTupA K p H Q:=by unfold rTupA;exact⟨ys,h,q⟩
end
theorem Same.seqT {K:zbp7}{H H':Hp}{a:Addr}{xs:List V}(e:Same H H') (h:H a=some (.tup xs)):SqT K H' a xs:=SqT.of (e _ _ h)
theorem Wk.tup {K:zbp7}{a:Addr}{xs:List V}{H1:Hp}(h:H1 a=some (.tup xs)):Wk (Itt K a) xs.length H1 fun i x _=>xs[i]?=some x:=
 ⟨fun i H s hi=>⟨xs,xs[i],Same.seqT s h,by simp[hi]⟩,fun H s=>⟨xs,Same.seqT s h,zbq9 _⟩,fun i H x H' s _ y=>by
  obtain⟨e,y⟩:=y
  subst e
  exact⟨Same.refl _,y xs (Same.seqT s h)⟩⟩
end L2
set_option maxHeartbeats 4000000
namespace L2
open PySem PySem.Spec PyProof.Rows
section
variable {X:Cx}{K:zbp7}{H:Hp}{Q:VK}
end
section
variable {X:Cx}{K:zbp7}
end
end L2
set_option maxHeartbeats 4000000
namespace L2
open PySem PySem.Spec PyProof.Rows
section
variable {prog:Program}{w:World}{A:Around}{E:Value->Shared->Prop}{h:Heap}{g:Array GenState}{d:Drawn}{t:Nat}{os:OsState}
variable {nm q:Str}{C N:Addr}{bs bm bmB:List Value}{hdct:Bool}{sn:List Str}{sub:List Value}{ab:Bool}{col:Option Bool}{dd:Option Addr}{k0 k1 k2 k3 k5:Option Value}{B newId initId:String}{K:zbp7}
end
section
variable {prog:Program}{w:World}{A:Around}{E:Value->Shared->Prop}{s:Shared}{env:Env}
variable {nm q:Str}{C N:Addr}{bs bm bmB:List Value}{hdct:Bool}{sn:List Str}{sub:List Value}{ab:Bool}{col:Option Bool}{dd:Option Addr}{k0 k1 k2 k3 k5:Option Value}{B newId initId:String}{K:zbp7}
end
section
open PySem.W
variable {prog:Program}{w:World}{A:Around}{E:Value->Shared->Prop}{s:Shared}{K:Frag}
end
end L2
set_option maxHeartbeats 4000000
namespace L2
open PySem PySem.Spec PyProof.Rows
section
variable {X:Cx}{K:zbp7}
section
variable {pins:List (Addr×Obj)}{σ:St}{H:Hp}{s:Shared}{e:Addr}{φ:Heap->Prop}
end
end
end L2
set_option maxHeartbeats 4000000
namespace L2
open PySem PySem.Spec PyProof.Rows
section
open PySem.W PySem.Calls
end
section
variable {X:Cx}{K:zbp7}{H:Hp}{Q:VK}
end
end L2
namespace L2
open PySem PySem.Spec PyProof.Rows
end L2
set_option maxHeartbeats 2000000
namespace L2
open PySem PySem.Spec PyProof.Rows
def zt0 (x0:Str) (names:List (Str×NameKind)):Prop:=names.filter (fun y=>y.2==.cell)=[(x0,.cell)]/\names.lookup x0=some .cell
theorem zaa2 {x0:Str}:∀ {names:List (Str×NameKind)},names.filter (fun y=>y.2==.cell)=[(x0,.cell)]->∀ (n:Nat) (acc:List (Str×Addr)) (h:Heap),cellsFrom n names acc=(x0,n) :: acc/\pushCells h names=h.push { cls:=.type "cell",data:=.cell none }
 | [],e,_,_,_=>by cases e
 | (y,k) :: r,e,n,acc,h=>by
  by_cases hk:(k==NameKind.cell)=true
  ·have hk':k=.cell:=by simpa using hk
   subst hk'
   rw[List.filter_cons_of_pos (by simp)] at e
   have e1:y=x0:=by have:=congrArg (fun l=>l.head?.map (·.1)) e;simpa using this
   have e2:r.filter (fun y=>y.2==.cell)=[]:=by have:=congrArg List.tail e;simpa using this
   subst e1
   have none:∀ (r:List (Str×NameKind)),r.filter (fun y=>y.2==.cell)=[]->∀ n acc h,cellsFrom n r acc=acc/\pushCells h r=h:=by
    intro r
    induction r with
    | nil=>intro _ n acc h;exact⟨rfl,rfl⟩
    | cons z r ih=>
     obtain⟨z1,z2⟩:=z
     intro e n acc h
     by_cases hz:(z2==NameKind.cell)=true
     ·rw[List.filter_cons_of_pos (by simpa using hz)] at e;cases e
     ·rw[List.filter_cons_of_neg (by simpa using hz)] at e
      unfold cellsFrom pushCells
      rw[if_neg hz,if_neg hz]
      exact ih e n acc h
   unfold cellsFrom pushCells
   rw[if_pos hk,if_pos hk]
   exact⟨(none r e2 _ _ h).1,(none r e2 0 [] _).2⟩
  ·rw[List.filter_cons_of_neg (by simpa using hk)] at e
   unfold cellsFrom pushCells
   rw[if_neg hk,if_neg hk]
   exact zaa2 e n acc h
theorem zt0.only {x0:Str}{names:List (Str×NameKind)}(h:zt0 x0 names):∀ y∈names,y.2=.cell->y.1=x0:=fun y hy hc=>by
 have:y∈names.filter (fun y=>y.2==.cell):=List.mem_filter.mpr ⟨hy,by rw[hc];rfl⟩
 rw[h.1] at this
 rw[zbu5.mp this]
theorem zbl1 {M:Model}{A:Around}{E:Value->Shared->Prop}{s:Shared}{x0:Str}{scope:Scope}{globals:Addr}{cl:List (Str×Addr)}{qual:Str}{env:Env}{Q:Env->Shared->Prop}(hone:zt0 x0 scope.names)
  (hQ:∀ h₁,h₁=(s.heap.push { cls:=.type "dict",data:=.dict #[] }).push { cls:=.type "cell",data:=.cell none }->Q { scope,locals:=s.heap.objs.size,globals,cells:=(x0,s.heap.objs.size+1) :: cl,qual,func:=none,code:=env.code,frame:=env.frame,builtins:=env.builtins } { s with heap:=h₁ }) :
  wpAny M A (newFunctionEnv scope globals cl [] qual none .none (some env)) Q E s:=by
 simp only[newFunctionEnv,Option.isSome_some,if_true]
 refine wpAny_bind (wpAny_alloc ?_)
 refine wpAny_bind (wpAny_layCells _ (fun name kind cells=>by cases hkc:kind==NameKind.cell<;>simp[hkc]) _ _ _ _ ?_)
 have o:=zaa2 hone.1 (s.heap.push { cls:=.type "dict",data:=.dict #[] }).objs.size cl (s.heap.push { cls:=.type "dict",data:=.dict #[] })
 rw[show ({ s with heap:=s.heap.push { cls:=.type "dict",data:=.dict #[] } }:Shared).heap=s.heap.push { cls:=.type "dict",data:=.dict #[] } from rfl,o.1,o.2]
 rw[Heap.size_push]
 refine wpAny_bind ?_
 rw[List.forIn_nil]
 exact wpAny_pure (wpAny_pure (hQ _ rfl))
def blk1 (x0:Str) (X:Cx) (N:List Str) (scope:Scope) (cl:List (Str×Addr)) (C:Addr) (s3:Shared) (H3:Hp) (fp:List Addr):Cx:=
 { X with N:=N,s₀:=s3,H₀:=H3,env:=compEnvC scope ((x0,C+1) :: cl) C X.env,outer:=X.stack,ex:=fp,fn:=fun x=>x==x0,pn:=[],xe:=fun _ _=>False }
theorem zt7 {x0 x:Str}{n c:Addr}{cl:List (Str×Addr)}(h:List.lookup x ((x0,n) :: cl)=some c):(x=x0/\c=n)∨cl.lookup x=some c:=by
 rw[zbs7] at h
 cases hx:x==x0 with
 | true=>rw[hx] at h;cases h;exact .inl ⟨by simpa using hx,rfl⟩
 | false=>rw[hx] at h;exact .inr h
theorem zn8 {env:Env}{x0:Str}:∀ {names:List (Str×NameKind)}{x:Str}{k':NameKind},(∀ y∈names,y.2=.cell->y.1=x0)->(k'=.cell∨k'=.free) ->
  (names.map fun (n,k)=>if (k==NameKind.free&&env.scope.kind==.function&&env.kindOf n==some .cell) then (n,NameKind.cell) else (n,k)).lookup x=some k'->x=x0∨∃ y∈names,y.1=x/\y.2=.free
 | [],_,_,_,_,h=>by simp at h
 | (n,k) :: r,x,k',hn,hk,h=>by
  have ih:=@zn8 env x0 r x k' (fun y hy=>hn y (zbt8 _ hy)) hk
  replace h:List.lookup x ((if (k==NameKind.free&&env.scope.kind==.function&&env.kindOf n==some .cell)=true then (n,NameKind.cell) else (n,k)) :: List.map (fun (n,k)=>if (k==NameKind.free&&env.scope.kind==.function&&env.kindOf n==some .cell) then (n,NameKind.cell) else (n,k)) r)=some k':=h
  cases hx:x==n with
  | true=>
   have hx':x=n:=by simpa using hx
   by_cases hf:k=.free
   ·exact .inr ⟨(n,k),zbv0,hx'.symm,hf⟩
   ·have hc:¬ (k==NameKind.free&&env.scope.kind==.function&&env.kindOf n==some .cell)=true:=by
     have:(k==NameKind.free)=false:=by simpa using hf
     rw[this];simp
    rw[if_neg hc] at h
    simp only[zbs7,hx] at h
    have:k=k':=Option.some.inj h
    subst this
    rcases hk with hk|hk
    ·exact .inl (hx'.trans (hn (n,k) zbv0 hk))
    ·exact absurd hk hf
  | false=>
   have h':List.lookup x (List.map (fun (n,k)=>if (k==NameKind.free&&env.scope.kind==.function&&env.kindOf n==some .cell) then (n,NameKind.cell) else (n,k)) r)=some k':=by
    by_cases hc:(k==NameKind.free&&env.scope.kind==.function&&env.kindOf n==some .cell)=true
    ·rw[if_pos hc] at h;simp only[zbs7,hx] at h;exact h
    ·rw[if_neg hc] at h;simp only[zbs7,hx] at h;exact h
   rcases ih h' with q|⟨y,hy,h1,h2⟩
   ·exact .inl q
   ·exact .inr ⟨y,zbt8 _ hy,h1,h2⟩
section
variable {X:Cx}{pins:List (Addr×Obj)}{σ:St}{H:Hp}{s2:Shared}
theorem zbb1 {x0:Str}{N:List Str}{scope:Scope}{cl:List (Str×Addr)}{C:Addr}{s3 s4:Shared}{H3:Hp}{fp:List Addr}{σc:St}(I:Inv X pins σ H3 s3)
  (hcl1:∀ x c,cl.lookup x=some c->X.env.cells.lookup x=some c) (hcl2:∀ x∈scope.names,x.2=.free->∃ c,cl.lookup x.1=some c) (hkind:scope.kind=.function) (hone:zt0 x0 scope.names)
  (hcap:∀ (i:Nat) (x:Str) (v:V),N[i]?=some x->σc[i]?=some (some v)->∃ j:Nat,X.N[j]?=some x/\σ[j]?=some (some v)/\scope.names.lookup x=some .free/\(X.env.kindOf x=some .cell∨X.env.kindOf x=some .free))
  (hlen:σc.length=N.length) (hC:s3.heap.objs.size=C) (hfp:∀ b∈fp,FpOk X pins H3 b) (hfpl:∀ b∈fp,b<C) (hex:∀ b o,X.base.get? b=some o->b ∉ fp) (hns:∃ m,s4.heap.Ns C m) (hce:s4.heap.IsCell (C+1) none) (hk:∀ b o,s3.heap.get? b=some o->s4.heap.get? b=some o) (h4:s4.os=s3.os) (h5:s4.gens=s3.gens) :
  Inv (blk1 x0 X N scope cl C s3 H3 fp) [] σc H3 s4:=by
 subst hC
 have cne:∀ x c,cl.lookup x=some c->c<s3.heap.objs.size:=fun x c h=>by
  obtain⟨v,o,ho,_⟩:=I.cell x c (hcl1 x c h)
  exact zbr4 ho
 refine⟨⟨I.ok.mod,?_,I.ok.glob,I.ok.blt,zbq9 _,fun x y c h1 h2=>?_,fun x hx=>?_,fun x c hf h=>?_,I.ok.hd,I.ok.frames,.inl rfl,fun b hb=>⟨zbs3 (hfpl b hb),fun x c h=>?_⟩,fun b o e=>I.bs b o e,zbt7 I.ok.bsz I.sz,fun b o e=>hex b o e,fun b hb=>?_,I.stack,I.stkFree⟩,
  h4,by rw[h5];exact I.bare,Un.kept hk,?_,fun x c h=>?_,I.hok.fresh (zbq9 _),fun x c h=>?_,fun p hp=>(by cases hp),I.hok.kept hk,hlen⟩
 ·exact hkind
 ·rcases zt7 h1 with ⟨e1,e2⟩|h1'
  ·rcases zt7 h2 with ⟨e3,_⟩|h2'
   ·rw[e1,e3]
   ·exact absurd (Nat.lt_trans (Nat.lt_succ_self _) (e2▸cne _ _ h2')) (zbw4 _)
  ·rcases zt7 h2 with ⟨e3,e4⟩|h2'
   ·exact absurd (Nat.lt_trans (Nat.lt_succ_self _) (e4▸cne _ _ h1')) (zbw4 _)
   ·exact I.ok.inj x y c (hcl1 _ _ h1') (hcl1 _ _ h2')
 ·have hx':(relabel scope X.env).names.lookup x=some .cell∨(relabel scope X.env).names.lookup x=some .free:=hx
  show ∃ c,List.lookup x ((x0,s3.heap.objs.size+1) :: cl)=some c
  by_cases e0:x=x0
  ·subst e0;exact⟨_,List.lookup_cons_self⟩
  ·have hz:x=x0∨∃ y∈scope.names,y.1=x/\y.2=.free:=by
    rcases hx' with q|q
    ·exact zn8 hone.only (.inl rfl) q
    ·exact zn8 hone.only (.inr rfl) q
   rcases hz with hz|⟨y,hy,rfl,hf⟩
   ·exact absurd hz e0
   ·obtain⟨c,hc⟩:=hcl2 y hy hf
    exact⟨c,by rw[zbs7,beq_eq_false_iff_ne.mpr e0];exact hc⟩
 ·have hf:(x==x0)=true:=hf
  have e0:x=x0:=by simpa using hf
  subst e0
  rcases zt7 h with ⟨_,rfl⟩|h'
  ·exact zbw8 _
  ·have h:List.lookup x ((x,s3.heap.objs.size+1) :: cl)=some c:=h
   rw[zbs7,hf] at h
   cases h
   exact zbw8 _
 ·rcases zt7 h with ⟨_,rfl⟩|h
  ·exact Nat.ne_of_gt (Nat.lt_succ_of_lt (hfpl b hb))
  ·exact (hfp b hb).2.2.2.2.1 x c (hcl1 x c h)
 ·intro hz
  obtain⟨f0,f1,f2,_⟩:=hfp b hb
  have hz:b∈frs X.stack:=hz
  rcases zbq8.mp (I.stkSub b hz) with q|q
  ·exact f1 q
  ·exact f2 q
 ·obtain⟨m,hm⟩:=hns
  refine⟨m,hm,fun i x v h1 h2 h3=>?_⟩
  obtain⟨j,e1,e2,e3,e4⟩:=hcap i x v h1 h2
  obtain⟨mX,_,hl⟩:=I.loc
  obtain⟨u,r,q⟩:=hl j x v e1 e2 (by rcases e4 with e4|e4;exact .inr (.inl e4);exact .inr (.inr e4))
  have n0:x≠x0:=fun z=>by rw[z,hone.2] at e3;cases e3
  refine⟨u,r,.inr ⟨zp3 e3,?_⟩⟩
  obtain⟨c,hc⟩:=hcl2 (x,.free) (PySem.mem_of_lookup e3) rfl
  refine⟨c,by show List.lookup x ((x0,s3.heap.objs.size+1) :: cl)=some c;rw[zbs7,beq_eq_false_iff_ne.mpr n0];exact hc,?_⟩
  have hc':=hcl1 x c hc
  rcases q with ⟨k,_⟩|⟨_,c2,e5,o,ho,hd⟩
  ·rcases e4 with e4|e4<;>rw[e4] at k<;>cases k
  ·rw[hc'] at e5
   cases e5
   exact⟨o,hk _ _ ho,hd⟩
 ·rcases zt7 h with ⟨_,rfl⟩|h
  ·exact⟨none,hce⟩
  ·obtain⟨v,o,ho,hd⟩:=I.cell x c (hcl1 x c h)
   exact⟨v,o,hk _ _ ho,hd⟩
 ·rcases zt7 h with ⟨_,rfl⟩|h
  ·exact I.hok.fresh (zbw8 _)
  ·exact I.freeC x c (hcl1 _ _ h)
theorem zaq4 {x0:Str}{E:Value->Shared->Prop}{elt tg iter:Expr}{ifs:List Expr}{scope:Scope}{pos:Pos}{cl:List (Str×Addr)}{N:List Str}{σc:St}{J:It}{fp:List Addr}{it:Addr}{tn:Nat->Heap->Prop}{g:TG}{tt:TT}{te:TE}{Q:VK}
  {RR:Value->Addr->Result->Shared->Prop}
  (hcl1:∀ x c,cl.lookup x=some c->X.env.cells.lookup x=some c) (hcl2:∀ x∈scope.names,x.2=.free->∃ c,cl.lookup x.1=some c) (hkind:scope.kind=.function) (hone:zt0 x0 scope.names)
  (hcap:∀ (i:Nat) (x:Str) (v:V),N[i]?=some x->σc[i]?=some (some v)->∃ j:Nat,X.N[j]?=some x/\σ[j]?=some (some v)/\scope.names.lookup x=some .free/\(X.env.kindOf x=some .cell∨X.env.kindOf x=some .free))
  (hlen:σc.length=N.length) (hc:X.calm=true) (I:Inv X pins σ H s2) (T:Turn X.prog X.w X.K tg J fp it tn) (st:tn 0 s2.heap) (fpok:∀ b∈fp,FpOk X pins H b)
  (hg:∀ C s3 H3 fp,PG (blk1 x0 X N scope cl C s3 H3 fp) tg g) (ht:∀ C s3 H3 fp,PTs (blk1 x0 X N scope cl C s3 H3 fp) ifs tt) (he:∀ C s3 H3 fp,PE (blk1 x0 X N scope cl C s3 H3 fp) elt te)
  (h:zw0 J g tt te σc H Q)
  (hRR:∀ (acc C:Addr) (H':Hp) (s':Shared),Inv X pins σ H' s'->FpOk X pins H' C->(∃ m,s'.heap.Ns C m)->Q (.ref acc) H'->RR (.ref acc) C (.ok .next) s') :
  wpAny (model X.prog X.w) X.A (newList []) (fun acc s₃=>wpAny (model X.prog X.w) X.A (newFunctionEnv scope X.env.globals cl [] X.env.qual none .none (some X.env)) (fun cenv s₄=>
   codeAny (model X.prog X.w) X.A (.compStart (.ListComp elt [⟨tg,iter,ifs,0⟩] scope pos) 0 (.ref it) acc { cenv with scope:=relabel scope X.env }) (RR acc cenv.locals) s₄) E s₃) E s2:=by
 refine wpAny_newObj_type (zbl1 hone fun h₁ hh₁=>?_)
 dsimp only at hh₁ ⊢
 have hf:H s2.heap.objs.size=none:=I.fresh
 have I3:Inv X pins σ (upd H s2.heap.objs.size (.lst [])) { s2 with heap:=s2.heap.push { cls:=.type "list",data:=.seq ([]:List Value).toArray } }:=I.lnew (t':=s2.toks) (its:=[]) .nil (zbs4 _)
 generalize hs3:({ s2 with heap:=s2.heap.push { cls:=.type "list",data:=.seq ([]:List Value).toArray } }:Shared)=s3 at I3
 have hH:s2.heap.push { cls:=.type "list",dict:=none,data:=.seq ([]:List Value).toArray }=s3.heap:=by rw[← hs3]
 rw[hH] at hh₁ ⊢
 have hsz:s3.heap.objs.size=s2.heap.objs.size+1:=by rw[← hH,Heap.size_push]
 have old23:∀ b o,s2.heap.get? b=some o->s3.heap.get? b=some o:=fun b o e=>by rw[← hH];exact zbq1 _ e
 have fplt:∀ b∈fp,b<s2.heap.objs.size:=fun b hb=>by
  obtain⟨o,e,_⟩:=T.obj 0 _ st b hb
  exact zbr4 e
 have fp3:∀ b∈fp,FpOk X pins (upd H s2.heap.objs.size (.lst [])) b:=fun b hb=>by
  obtain⟨f0,f1⟩:=fpok b hb
  refine⟨?_,f1⟩
  rw[ze8 (zbs3 (fplt b hb))]
  exact f0
 have old34:∀ b o,s3.heap.get? b=some o->h₁.get? b=some o:=fun b o e=>by rw[hh₁];exact zbq1 _ (zbq1 _ e)
 have hns₁:h₁.Ns s3.heap.objs.size (fun _=>none):=by rw[hh₁];exact (Heap.Ns.new s3.heap (.type "dict")).keeps fun b o e=>zbq1 _ e
 have hce:h₁.IsCell (s3.heap.objs.size+1) none:=⟨{ cls:=.type "cell",data:=.cell none },by rw[hh₁];exact Heap.get?_push_at (by rw[Heap.size_push]) rfl,rfl⟩
 have nob:∀ b o,X.base.get? b=some o->b ∉ fp:=fun b o e hb=>by
  obtain⟨_,_,_,f3,_,_⟩:=fpok b hb
  rcases f3 with f3|f3
  ·exact I.ok.noex b o e f3
  ·exact absurd (zbr6 (zbr4 e) I.ok.bsz) (Nat.not_lt.mpr f3)
 have hs4e:({ s2 with heap:=h₁,toks:=s2.toks }:Shared).os=s3.os:=by rw[← hs3]
 have hs4g:({ s2 with heap:=h₁,toks:=s2.toks }:Shared).gens=s3.gens:=by rw[← hs3]
 have I4:Inv (blk1 x0 X N scope cl s3.heap.objs.size s3 (upd H s2.heap.objs.size (.lst [])) fp) [] σc (upd H s2.heap.objs.size (.lst [])) { s2 with heap:=h₁,toks:=s2.toks }:=
  zbb1 (s4:={ s2 with heap:=h₁,toks:=s2.toks }) I3 hcl1 hcl2 hkind hone hcap hlen rfl fp3 (fun b hb=>zbr6 (fplt b hb) (by rw[hsz];exact zbw8 _)) nob ⟨_,hns₁⟩ hce old34 hs4e hs4g
 have st4:tn 0 h₁:=T.keep _ _ _ st fun b hb o e=>old34 b o (old23 b o e)
 unfold zw0 at h
 obtain⟨W,⟨m0,w0⟩,turn⟩:=h s2.heap.objs.size _ hf (Same.upd hf) zb7
 have loop:codeAny (model X.prog X.w) X.A (.compLoop (.ListComp elt [⟨tg,iter,ifs,0⟩] scope pos) 0 (.ref it) (.ref s2.heap.objs.size) (blk1 x0 X N scope cl s3.heap.objs.size s3 (upd H s2.heap.objs.size (.lst [])) fp).env)
   (RR (.ref s2.heap.objs.size) s3.heap.objs.size) { s2 with heap:=h₁,toks:=s2.toks }:=by
  refine zah0 (fun n s'=>∃ i ys σ' H',Inv (blk1 x0 X N scope cl s3.heap.objs.size s3 (upd H s2.heap.objs.size (.lst [])) fp) [] σ' H' s'/\tn i s'.heap/\(∀ b∈fp,H' b=none)/\W i n ys σ' H') ?_ m0 ⟨0,[],σc,_,I4,st4,fun b hb=>(fp3 b hb).1,w0⟩
  rintro n s5 ⟨i,ys,σ5,H5,I5,st5,fr5,w5⟩
  obtain⟨hacc,hl5,hcase⟩:=turn i n ys σ5 H5 w5
  have stat:∀ {H':Hp},(∀ b∈fp,H' b=none)->∀ b∈fp,FpOk (blk1 x0 X N scope cl s3.heap.objs.size s3 (upd H s2.heap.objs.size (.lst [])) fp) [] H' b:=fun hn b hb=>by
   obtain⟨_,f1,f2,f3,f4,_⟩:=fpok b hb
   refine⟨hn b hb,zbs3 (zbr6 (fplt b hb) (by rw[hsz];exact zbw8 _)),fun hz=>?_,.inl hb,fun x c hx=>?_,fun p hp=>by cases hp⟩
   rotate_left
   ·rcases zt7 hx with ⟨_,rfl⟩|hx
    ·exact Nat.ne_of_gt (Nat.lt_succ_of_lt (zbr6 (fplt b hb) (by rw[hsz];exact zbw8 _)))
    ·exact f4 x c (hcl1 x c hx)
   rcases zbq8.mp (I.stkSub b hz) with q|q
   ·exact f1 q
   ·exact f2 q
  rcases hcase with ⟨stop,hq⟩|⟨go,step⟩
  ·refine thn (T.done (blk1 x0 X N scope cl s3.heap.objs.size s3 (upd H s2.heap.objs.size (.lst [])) fp) rfl rfl rfl hc i [] s5 σ5 H5 (fun _ _=>False) I5 (stat fr5) st5 stop) fun r s6 ⟨hr,I6⟩=>?_
   subst hr
   have u1:Un (frs X.stack) fp H (upd H s2.heap.objs.size (.lst [])) s2.heap s3.heap:=Un.laid old23 (zbq9 _) hf
   have u2:Un (frs X.stack) fp (upd H s2.heap.objs.size (.lst [])) H5 s3.heap s6.heap:=I6.base
   have hC:H5 s3.heap.objs.size=none:=I6.free
   obtain⟨m6,hm6,_⟩:=I6.loc
   have hos:s6.os=s2.os:=by rw[I6.os];show s3.os=s2.os;rw[← hs3]
   have hok6:=I6.hok
   have bare6:=I6.bare
   obtain⟨hh,gg,dd,tt',os'⟩:=s6
   obtain rfl:os'=s2.os:=hos
   exact hRR _ _ H5 _ (I.call (h':=hh) (g':=gg) (d':=dd) (t':=tt') (ch:=fp) (u1.trans u2) hok6 bare6 fun b hb=>⟨(fpok b hb).2.2.2.1,(fpok b hb).2.1,(fpok b hb).2.2.2.2.1,(fpok b hb).2.2.2.2.2⟩)
    (I.fpOk (by rw[hsz];exact zbw8 _) hC) ⟨m6,hm6⟩ hq
  ·refine thn (T.item (blk1 x0 X N scope cl s3.heap.objs.size s3 (upd H s2.heap.objs.size (.lst [])) fp) rfl rfl rfl hc i [] s5 σ5 H5 (fun _ _=>False) I5 (stat fr5) st5 go) fun r s6 ⟨u,hr,h6⟩=>?_
   subst hr
   refine thn h6 fun _ s7 ⟨x,H7,I7,r7,y7,st7,fr7⟩=>?_
   have I7':=I7.pinned (stat fr7) (T.obj _ _ st7)
   refine thn (hg _ _ _ _ _ s7 σ5 H7 x u _ I7' r7 (step x H7 y7)) fun _ s8 ⟨σ8,H8,I8,q8⟩=>?_
   refine thn (ht _ _ _ _ _ s8 σ8 H8 _ I8 q8) fun ok s9 ⟨H9,I9,q9⟩=>?_
   have again:∀ {s10:Shared}{σ10:St}{H10:Hp}{zs:List V},Inv (blk1 x0 X N scope cl s3.heap.objs.size s3 (upd H s2.heap.objs.size (.lst [])) fp) ([]++zaa7 fp s7.heap) σ10 H10 s10->(∃ m',m'<n/\W (i+1) m' zs σ10 H10) ->
     ∃ m,m<n/\∃ i ys σ' H',Inv (blk1 x0 X N scope cl s3.heap.objs.size s3 (upd H s2.heap.objs.size (.lst [])) fp) [] σ' H' s10/\tn i s10.heap/\(∀ b∈fp,H' b=none)/\W i m ys σ' H':=fun {s10 σ10 H10 zs} I10 ⟨m',hm,w10⟩=>by
    refine⟨m',hm,i+1,zs,σ10,H10,I10.unpinned,T.keep _ _ _ st7 fun b hb o e=>(I10.pin (b,o) (zbs9 _ (zbs9 _ (zl6 hb e)))).1,fun b hb=>?_,w10⟩
    obtain⟨o,e,d⟩:=T.obj _ _ st7 b hb
    exact (I10.pin (b,o) (zbs9 _ (zbs9 _ (zl6 hb e)))).2.1
   dsimp only at q9
   rw[zw1] at q9
   cases ok with
   | false=>
    have q9:∃ m',m'<n/\W (i+1) m' ys σ8 H9:=by rw[if_neg zbq6] at q9;unfold zag3 at q9;exact q9
    exact again I9 q9
   | true=>
    have q9:=(if_pos rfl▸q9:te σ8 H9 _)
    refine thn (he _ _ _ _ _ s9 σ8 H9 _ I9 q9) fun v s10 ⟨y,H10,I10,r10,q10⟩=>?_
    unfold cPut at q10
    obtain⟨e10,q10⟩:=q10
    refine thn (zw4 _ s10 σ8 H10 (.ref s2.heap.objs.size) [y] (.ref s2.heap.objs.size) [v] (fun _ H11=>∃ m',m'<n/\W (i+1) m' (ys++[y]) σ8 H11) I10 rfl (.cons r10 .nil) ⟨_,ys,y,rfl,rfl,e10,hl5,q10 _ Chg.upd zb7⟩) fun _ s11 ⟨z,H11,I11,_,q11⟩=>?_
    exact again I11 q11
 exact codeAny_compStart_list loop (T.self _ 0 _ _ _ st4 loop)
def zaj9 (x0:Str) (scope:Scope):Bool:=scope.names.filter (fun y=>y.2==.cell)==[(x0,.cell)]&&scope.names.lookup x0==some .cell&&scope.names.all fun x=>x.2 != .local || scope.names.lookup x.1==some .local
theorem zap5 {x0:Str}{scope:Scope}(h:zaj9 x0 scope=true):zt0 x0 scope.names/\∀ x∈scope.names,x.2=.local->scope.names.lookup x.1=some .local:=by
 unfold zaj9 at h
 rw[zbr3,zbr3] at h
 refine⟨⟨by simpa using h.1.1,by simpa using h.1.2⟩,fun x hx hl=>?_⟩
 have:=zbr0.mp h.2 x hx
 simpa [hl] using this
theorem zbj0 {x0:Str}{elt tg iter:Expr}{ifs:List Expr}{scope:Scope}{pos:Pos}{N:List Str}{ks:List (Option Nat)}{wi:TI}{g:TG}{tt:TT}{te:TE}(hi:PI X tg iter wi)
  (hg:∀ cl C s3 H3 fp,PG (blk1 x0 X N scope cl C s3 H3 fp) tg g) (ht:∀ cl C s3 H3 fp,PTs (blk1 x0 X N scope cl C s3 H3 fp) ifs tt) (he:∀ cl C s3 H3 fp,PE (blk1 x0 X N scope cl C s3 H3 fp) elt te) (hcap:zu4 X scope N ks)
  (hc:X.calm=true:=by rfl) (hkind:scope.kind=.function:=by rfl) (hb:freeB scope X.env.kindOf=true:=by rfl) (hn:zaj9 x0 scope=true:=by rfl) (hs:∀ x,foldedSetIterable iter X.env x=pure x:=by intro _;rfl) :
  PE X (.ListComp elt [⟨tg,iter,ifs,0⟩] scope pos) (qComp ks wi g tt te):=by
 intro pins s σ H Q I h
 obtain⟨hone,hnames⟩:=zap5 hn
 obtain⟨cl,hcl,hcl1,hcl2⟩:=zs9 (scope:=scope) (env:=X.env) fun x hx hf=>I.ok.has x.1 (zac8 hb x hx hf)
 rw[eval_ListComp]
 refine wpAny_comprehension_free (use:=none) rfl hs hcl hkind hnames ?_
 show wpAny _ _ (eval iter X.env) _ _ s
 refine thn (hi pins s σ H _ I h) fun v s1 h1=>thn h1 fun itv s2 h2=>?_
 obtain⟨it,fp,tn,J,H2,e,I2,T,st2,f2,q2⟩:=h2
 subst e
 refine zaq4 (RR:=fun acc C=>compPost (model X.prog X.w) X.A X.xe none (EP X pins σ Q) acc C) hcl1 hcl2 hkind hone (hcap.cap σ) (hcap.len σ) hc I2 T st2 f2 (hg cl) (ht cl) (he cl) q2 ?_
 rintro acc C H' s' I' hC ⟨m,hm⟩ hq
 refine⟨m,hm,fun h' hsb=>⟨.ref acc,H',?_,rfl,hq⟩⟩
 exact I'.turned (t':=s'.toks) (fun b o hb e=>hsb.extBut b o hb e) hC.1 hC.2.1 hC.2.2.2.1 hC.2.2.2.2.1 hC.2.2.2.2.2
end
end L2
set_option maxHeartbeats 1000000
namespace L2
open PySem PySem.Spec PyProof.Rows
section
variable {κ:Type}[DecidableEq κ]
def valV (kvs:List (κ×V)) (k:κ):Option V:=(kvs.find? fun kv=>decide (kv.1=k)).map (·.2)
def putK (kvs:List (κ×V)) (k:κ) (v:V):List (κ×V):=
 if (kvs.any fun kv=>decide (kv.1=k))=true then kvs.map (fun kv=>if kv.1=k then (kv.1,v) else kv) else kvs++[(k,v)]
theorem zr8 {p:κ×V}{r:List (κ×V)}{k:κ}(e:p.1=k):valV (p :: r) k=some p.2:=by simp[valV,zbv5,e]
theorem zr7 {p:κ×V}{r:List (κ×V)}{k:κ}(e:¬ p.1=k):valV (p :: r) k=valV r k:=by simp[valV,zbv5,e]
theorem zan3 (k:κ):∀ kvs:List (κ×V),(kvs.any fun kv=>decide (kv.1=k))=(valV kvs k).isSome
 | []=>rfl
 | p :: r=>by
  rw[List.any_cons]
  by_cases e:p.1=k
  ·simp only[zr8 e,decide_eq_true e,Bool.true_or,Option.isSome_some]
  ·rw[zr7 e,decide_eq_false e,Bool.false_or];exact zan3 k r
theorem zv4 (kvs:List (κ×V)) (k:κ) (v:V):(putK kvs k v).length<=kvs.length+1:=by
 unfold putK
 split
 ·rw[zbp5];omega
 ·rw[zbp9,zbq5,zbr1];omega
theorem RelO.isSome_eq {o:Option V}{u:Option Value}(r:RelO o u):o.isSome=u.isSome:=by
 cases o with
 | none=>cases u with
  | none=>rfl
  | some _=>exact (show False from r).elim
 | some _=>cases u with
  | none=>exact (show False from r).elim
  | some _=>rfl
theorem RelO.getD {o:Option V}{u:Option Value}{d:V}{d':Value}(r:RelO o u) (rd:RelV d d'):RelV (o.getD d) (u.getD d'):=by
 cases o with
 | none=>cases u with
  | none=>exact rd
  | some _=>exact (show False from r).elim
 | some _=>cases u with
  | none=>exact (show False from r).elim
  | some _=>exact r
theorem KV.val {kvs:List (κ×V)}{vs:List (κ×Value)}(r:KV kvs vs) (k:κ):RelO (valV kvs k) (valueAt vs k):=by
 unfold KV at r
 induction r with
 | nil=>exact True.intro
 | @cons p q ps qs h t ih=>
  obtain⟨h1,h2⟩:=h
  by_cases e:p.1=k
  ·have e':q.1=k:=h1.symm.trans e
   have b:valueAt (q :: qs) k=some q.2:=by simp[valueAt,zbv5,e']
   rw[zr8 e,b];exact h2
  ·have e':¬ q.1=k:=fun z=>e (h1.trans z)
   have b:valueAt (q :: qs) k=valueAt qs k:=by simp[valueAt,zbv5,e']
   rw[zr7 e,b];exact ih
theorem KV.any {kvs:List (κ×V)}{vs:List (κ×Value)}(r:KV kvs vs) (k:κ):(kvs.any fun kv=>decide (kv.1=k))=vs.any fun kv=>decide (kv.1=k):=by
 unfold KV at r
 induction r with
 | nil=>rfl
 | cons h t ih=>rw[List.any_cons,List.any_cons,ih,h.1]
theorem KV.repl {kvs:List (κ×V)}{vs:List (κ×Value)}(r:KV kvs vs) (k:κ) {y:V}{u:Value}(ry:RelV y u) :
  KV (kvs.map fun kv=>if kv.1=k then (kv.1,y) else kv) (vs.map fun kv=>if kv.1=k then (kv.1,u) else kv):=by
 unfold KV at r ⊢
 induction r with
 | nil=>exact .nil
 | @cons p q ps qs h t ih=>
  rw[zbt4,zbt4]
  refine .cons ?_ ih
  obtain⟨h1,h2⟩:=h
  by_cases e:p.1=k
  ·rw[if_pos e,if_pos (h1.symm.trans e)];exact⟨h1,ry⟩
  ·rw[if_neg e,if_neg (fun z=>e (h1.trans z))];exact⟨h1,h2⟩
theorem KV.put {kvs:List (κ×V)}{vs:List (κ×Value)}(r:KV kvs vs) (k:κ) {y:V}{u:Value}(ry:RelV y u):KV (putK kvs k y) (stored vs k u):=by
 unfold putK stored
 rw[r.any k]
 by_cases e:(vs.any fun kv=>decide (kv.1=k))=true
 ·rw[if_pos e,if_pos e];exact r.repl k ry
 ·rw[if_neg e,if_neg e];exact Paired.snoc r ⟨rfl,ry⟩
theorem KV.length {kvs:List (κ×V)}{vs:List (κ×Value)}(r:KV kvs vs):kvs.length=vs.length:=Paired.length r
end
theorem kV_is {P:Program}{w:World}{k:Key}{u:Value}(r:RelV (kV k) u):(zg2 P w).is k u=true:=by
 cases k with
 | inl i=>obtain⟨t,e⟩:=(show ∃ t,u=Value.int i t from r);subst e;exact zak0 P w i t
 | inr x=>obtain⟨t,e⟩:=(show ∃ t,u=Value.str x t from r);subst e;exact zak2 P w x t
theorem zah8 {P:Program}{w:World}:∀ {ks:List Key}{us:List Value},Vals (ks.map kV) us->ItemsAre (zg2 P w) ks us
 | [],_,r=>by rw[List.map_nil] at r;cases r;exact .nil
 | k :: ks,_,r=>by
  rw[zbt4] at r
  cases r with
  | cons h t=>exact .cons (kV_is h) (zah8 t)
abbrev KT (H:Hp):List (List Key×V)->List (List Key×Addr×Value)->Prop:=Paired fun p q=>p.1=q.1/\H q.2.1=some (.tup (p.1.map kV))/\RelV p.2 q.2.2
theorem KT.val {H:Hp}{kvs:List (List Key×V)}{xs:List (List Key×Addr×Value)}(r:KT H kvs xs) (k:List Key):RelO (valV kvs k) ((atKey xs k).map (·.2)):=by
 induction r with
 | nil=>exact True.intro
 | @cons p q ps qs h t ih=>
  obtain⟨h1,_,h2⟩:=h
  by_cases e:p.1=k
  ·have e':q.1=k:=h1.symm.trans e
   have b:atKey (q :: qs) k=some q.2:=by simp[atKey,zbv5,e']
   rw[zr8 e,b];exact h2
  ·have e':¬ q.1=k:=fun z=>e (h1.trans z)
   have b:atKey (q :: qs) k=atKey qs k:=by simp[atKey,zbv5,e']
   rw[zr7 e,b];exact ih
theorem KT.repl {H:Hp}{kvs:List (List Key×V)}{xs:List (List Key×Addr×Value)}(r:KT H kvs xs) (k:List Key) {y:V}{u:Value}(ry:RelV y u) :
  KT H (kvs.map fun kv=>if kv.1=k then (kv.1,y) else kv) (xs.map (putAt k u)):=by
 induction r with
 | nil=>exact .nil
 | @cons p q ps qs h t ih=>
  rw[zbt4,zbt4]
  refine .cons ?_ ih
  obtain⟨h1,h2,h3⟩:=h
  unfold putAt
  by_cases e:p.1=k
  ·rw[if_pos e,if_pos (h1.symm.trans e)];exact⟨h1,h2,ry⟩
  ·rw[if_neg e,if_neg (fun z=>e (h1.trans z))];exact⟨h1,h2,h3⟩
theorem KT.put {H:Hp}{kvs:List (List Key×V)}{xs:List (List Key×Addr×Value)}(r:KT H kvs xs) (k:List Key) {b:Addr}{y:V}{u:Value}(hb:H b=some (.tup (k.map kV))) (ry:RelV y u) :
  KT H (putK kvs k y) (storedH xs k b u):=by
 have e:(kvs.any fun kv=>decide (kv.1=k))=(atKey xs k).isSome:=by
  rw[zan3,(r.val k).isSome_eq,Option.isSome_map]
 unfold putK storedH
 rw[e]
 by_cases q:(atKey xs k).isSome=true
 ·rw[if_pos q,if_pos q];exact r.repl k ry
 ·rw[if_neg q,if_neg q];exact Paired.snoc r ⟨rfl,hb,ry⟩
theorem KT.keeps {H H':Hp}{kvs:List (List Key×V)}{xs:List (List Key×Addr×Value)}(r:KT H kvs xs) (ht:∀ b ys,H b=some (.tup ys)->H' b=some (.tup ys)):KT H' kvs xs:=
 Paired.mapP r fun _ _ z=>⟨z.1,ht _ _ z.2.1,z.2.2⟩
section
variable {P:Program}{w:World}{H:Hp}{h:Heap}{a:Addr}
theorem rd_of {u:HO}(ok:HOk P w H h) (e:Rd H a u):zg6 P w H h a u:=e.ok ok
theorem zaz9 {kvs:List (Key×V)}(ok:HOk P w H h) (e:Rd H a (.dK kvs)):kvs.length<=sizeLine/\(a==sysModules)=false/\∃ vs,KV kvs vs/\h.DictOf (zg2 P w) a vs:=
 show zg6 P w H h a (.dK kvs) from rd_of ok e
theorem zaq5 {kvs:List (Key×V)}(ok:HOk P w H h) (e:H a=some (.dK kvs)):kvs.length<=sizeLine/\(a==sysModules)=false/\∃ vs,KV kvs vs/\h.DictOf (zg2 P w) a vs:=zaz9 ok (.inl e)
theorem zao2 {ks:List Key}(ok:HOk P w H h) (e:H a=some (.tup (ks.map kV))):(tupleKind (zg2 P w)).is h ks a:=by
 obtain⟨_,its,r,o,h1,h2,n,h3⟩:=(show zg6 P w H h a (.tup (ks.map kV)) from ok a _ e)
 exact⟨o,its.toArray,n,h1,h2,h3,by simpa using zah8 r⟩
theorem zaz3 {kvs:List (List Key×V)}(ok:HOk P w H h) (e:Rd H a (.dT kvs)):kvs.length<=sizeLine/\(a==sysModules)=false /\
  ∃ xs,KT H kvs xs/\h.DictOfH (tupleKind (zg2 P w)) a xs:=by
 obtain⟨z,y,xs,r,o,es,ep,h1,h2,h3,h4,h5⟩:=(show zg6 P w H h a (.dT kvs) from rd_of ok e)
 refine⟨z,y,xs,r,o,es,ep,h1,h2,h3,h4,fun x hx=>?_,h5⟩
 have all:∀ {l:List (List Key×V)}{m:List (List Key×Addr×Value)},KT H l m->∀ x∈m,(tupleKind (zg2 P w)).is h x.1 x.2.1:=by
  intro l m q
  induction q with
  | nil=>intro x hx;exact nomatch hx
  | @cons p q ps qs hq t ih=>
   intro x hx
   rcases zbq8.mp hx with e|hx
   ·subst e
    exact zao2 ok (by rw[← hq.1];exact hq.2.1)
   ·exact ih x hx
 exact all r x hx
theorem dt_of {kvs:List (List Key×V)}(ok:HOk P w H h) (e:H a=some (.dT kvs)):kvs.length<=sizeLine/\(a==sysModules)=false /\
  ∃ xs,KT H kvs xs/\h.DictOfH (tupleKind (zg2 P w)) a xs:=zaz3 ok (.inl e)
end
def DGet (H:Hp) (a:Addr) (y:V) (r:Option V):Prop:=
 (∃ kvs k,Rd H a (.dK kvs)/\y=kV k/\r=valV kvs k)∨∃ kvs k b,Rd H a (.dT kvs)/\y=.ref b/\H b=some (.tup (k.map kV))/\r=valV kvs k
def DPut (H:Hp) (a:Addr) (y v:V) (H':Hp):Prop:=
 (∃ kvs k,H a=some (.dK kvs)/\y=kV k/\kvs.length<sizeLine/\H'=upd H a (.dK (putK kvs k v))) ∨
 ∃ kvs k b,H a=some (.dT kvs)/\y=.ref b/\H b=some (.tup (k.map kV))/\kvs.length<sizeLine/\H'=upd H a (.dT (putK kvs k v))
theorem DGet.k {H:Hp}{a:Addr}{kvs:List (Key×V)}{k:Key}(e:H a=some (.dK kvs)):DGet H a (kV k) (valV kvs k):=.inl ⟨kvs,k,.inl e,rfl,rfl⟩
theorem DGet.t {H:Hp}{a b:Addr}{kvs:List (List Key×V)}{k:List Key}(e:H a=some (.dT kvs)) (eb:H b=some (.tup (k.map kV))):DGet H a (.ref b) (valV kvs k):=.inr ⟨kvs,k,b,.inl e,rfl,eb,rfl⟩
theorem DPut.k {H:Hp}{a:Addr}{kvs:List (Key×V)}{k:Key}{v:V}(e:H a=some (.dK kvs)) (hl:kvs.length<sizeLine):DPut H a (kV k) v (upd H a (.dK (putK kvs k v))):=.inl ⟨kvs,k,e,rfl,hl,rfl⟩
theorem DPut.t {H:Hp}{a b:Addr}{kvs:List (List Key×V)}{k:List Key}{v:V}(e:H a=some (.dT kvs)) (eb:H b=some (.tup (k.map kV))) (hl:kvs.length<sizeLine) :
  DPut H a (.ref b) v (upd H a (.dT (putK kvs k v))):=.inr ⟨kvs,k,b,e,rfl,eb,hl,rfl⟩
section
variable {X:Cx}{pins:List (Addr×Obj)}{σ:St}{H:Hp}{s:Shared}{a:Addr}{y v:V}{u r:Value}{o:Option V}{A:Around}{E:Value->Shared->Prop}
theorem Inv.big (I:Inv X pins σ H s):sysModules<s.heap.objs.size:=by
 have h:mainGlobals<s.heap.objs.size:=(I.mod.glob.keeps I.bk).lt
 exact Nat.lt_trans (by decide) h
theorem zax3 {Q:Value->Shared->Prop}(hu:A.units+1<cLine) (I:Inv X pins σ H s) (g:DGet H a y (some v)) (ry:RelV y u) (h:∀ w' s',Inv X pins σ H s'->RelV v w'->Q w' s') :
  wpAny (model X.prog X.w) A (getItem (.ref a) u) Q E s:=by
 rcases g with ⟨kvs,k,e,ey,l⟩|⟨kvs,k,b,e,ey,eb,l⟩
 ·subst ey
  obtain⟨z,hd,vs,rel,dd⟩:=zaz9 I.hok e
  obtain⟨w',hw,rw'⟩:=RelO.some_of (v:=v) (o:=valueAt vs k) (by rw[l];exact rel.val k)
  exact wpAny_getItem_of (kV_is ry) dd.mapOf hw (h w' _ (I.tok _) rw')
 ·subst ey
  cases (show u=Value.ref b from ry)
  obtain⟨z,hd,xs,rel,dd⟩:=zaz3 I.hok e
  obtain⟨w',hw,rw'⟩:=RelO.some_of (v:=v) (o:=(atKey xs k).map (·.2)) (by rw[l];exact rel.val k)
  obtain⟨p,hp,hp2⟩:=zbq7.mp hw
  refine wpAny_getItem_heap (tupleKind_room_in1 hu) (zao2 I.hok eb) dd hp ?_
  rw[hp2]
  exact h w' _ (I.tok _) rw'
theorem zba8 {h':Heap}{t':Nat}{ob:HO}(I:Inv X pins σ H s) (mu:Mut (H a)) (hs:Heap.SameBut a s.heap h') (he:∃ q,h'.get? a=some q) (new:zg6 X.prog X.w (upd H a ob) h' a ob) :
  Inv X pins σ (upd H a ob) { s with heap:=h',toks:=t' }:=
 I.write (x:=a) (e:=a) mu (.inl rfl) (fun b q hb z=>(hs.2 b hb).trans z) he new
theorem dk_new {P:Program}{w:World}{H':Hp}{h':Heap}{kvs:List (Key×V)}{vs:List (Key×Value)}(z:kvs.length<=sizeLine) (hd:(a==sysModules)=false) (rel:KV kvs vs) (dd:h'.DictOf (zg2 P w) a vs) :
  zg6 P w H' h' a (.dK kvs):=⟨z,hd,vs,rel,dd⟩
theorem zav6 {H':Hp}{Q:Unit->Shared->Prop}(hu:A.units+1<cLine) (I:Inv X pins σ H s) (g:DPut H a y v H') (ry:RelV y u) (rv:RelV v r) (h:∀ s',Inv X pins σ H' s'->Q () s') :
  wpAny (model X.prog X.w) A (setItem (.ref a) u r) Q E s:=by
 rcases g with ⟨kvs,k,e,ey,l,eH⟩|⟨kvs,k,b,e,ey,eb,l,eH⟩
 ·subst ey eH
  obtain⟨z,hd,vs,rel,dd⟩:=zaq5 I.hok e
  have hz:vs.length<=sizeLine:=by rw[← rel.length];exact z
  have hl:(putK kvs k v).length<=sizeLine:=by have:=zv4 kvs k v;omega
  refine wpAny_setItem_pairs (hsz:=hz) (kV_is ry) dd fun h' dd' hs=>h _ ?_
  have he:∃ q,h'.get? a=some q:=let ⟨q,_,_,hq,_⟩:=dd';⟨q,hq⟩
  exact zba8 I (by rw[e];exact True.intro) hs he (dk_new hl hd (rel.put k rv) dd')
 ·subst ey eH
  cases (show u=Value.ref b from ry)
  obtain⟨z,hd,xs,rel,dd⟩:=dt_of I.hok e
  have hz:xs.length<=sizeLine:=by rw[← Paired.length rel];exact z
  have hl:(putK kvs k v).length<=sizeLine:=by have:=zv4 kvs k v;omega
  refine wpAny_setItem_heap (hsz:=hz) (tupleKind_room_in1 hu) (zao2 I.hok eb) dd fun h' dd' hs=>h _ ?_
  obtain⟨q,es,ep,hq,h2,h3,h4,_,h5⟩:=dd'
  refine zba8 I (by rw[e];exact True.intro) hs ⟨q,hq⟩ ⟨hl,hd,_,(rel.put k eb rv).keeps fun c ys ec=>?_,q,es,ep,hq,h2,h3,h4,h5⟩
  rw[ze8 (ne_of ec e (fun z=>nomatch z))]
  exact ec
end
section
variable {X:Cx}{pins:List (Addr×Obj)}{σ:St}{H:Hp}{s:Shared}{a:Addr}{kvs:List (Key×V)}{k:Key}{u:Value}{A:Around}{E:Value->Shared->Prop}
end
def NoSl (i:Expr):Prop:=∀ ov iv,subscripted i false ov iv=operate [ov,iv] (getItem ov iv)
theorem zbi7 {prog:Program}{w:World}{A:Around}{E:Value->Shared->Prop}{s:Shared}{env:Env}{value slice:Expr}{pos:Pos}{T id:String}{Q:Value->Shared->Prop}
  (hl:typeLookup (.type T) "__getitem__"=pure (some (.builtin id))) (hs:NoSl slice)
  (h:wpAny (model prog w) A (eval value env) (fun o s₁=>wpAny (model prog w) A (eval slice env) (fun i s₂=>s₂.TypeIs o T/\wpAny (model prog w) A (getItem o i) Q E s₂) E s₁) E s) :
  wpAny (model prog w) A (eval (.Subscript value slice pos) env) Q E s:=by
 refine Subscript_ (wpAny_mono h (fun o s₁ h₁=>wpAny_mono h₁ (fun i s₂ h₂=>?_) fun _ _ x=>x) fun _ _ x=>x)
 obtain⟨hT,h₂⟩:=h₂
 unfold subscriptTail
 refine wpAny_bind ?_
 rw[getitemInPython_of_ne hT.not_modules]
 refine wpAny_bind (wpAny_specialOf hT hl ?_)
 have fin:wpAny (model prog w) A (subscripted slice false o i) (fun r s₃=>wpAny (model prog w) A (letTemporaryGo value o r >>= fun _=>pure r) Q E s₃) E s₂:=by
  rw[hs o i]
  exact wpAny_operating (wpAny_mono h₂ (fun r s₃ h₃=>wpAny_bind (wpAny_letTemporaryGo (wpAny_pure h₃))) fun _ _ x=>x)
 first
  | exact wpAny_pure (wpAny_bind fin)
  | exact wpAny_bind (wpAny_pure (wpAny_bind fin))
  | exact wpAny_bind fin
theorem zak7 {X:Cx}{pins:List (Addr×Obj)}{σ:St}{H:Hp}{s:Shared}{a:Addr}{y:V}{o:Option V}(I:Inv X pins σ H s) (g:DGet H a y o):s.TypeIs (.ref a) "dict":=by
 rcases g with ⟨kvs,k,e,_,_⟩|⟨kvs,k,b,e,_,_,_⟩
 ·obtain⟨_,_,vs,_,dd⟩:=zaz9 I.hok e
  exact dd.typeIs
 ·obtain⟨_,_,xs,_,dd⟩:=zaz3 I.hok e
  exact dd.typeIs
def tDGet (td ty:TE):TE:=fun σ H Q=>td σ H fun x H1=>ty σ H1 fun y H2=>∃ a v,x=.ref a/\DGet H2 a y (some v)/\Q v H2
def sDPut (td ty tv:TE):TS:=fun D σ H=>tv σ H fun v H1=>td σ H1 fun x H2=>ty σ H2 fun y H3=>∃ a H4,x=.ref a/\DPut H3 a y v H4/\D.nx σ H4
section
variable {X:Cx}{o i e value:Expr}{pos pos' tpos:Pos}{td ty tv:TE}
theorem zbm0 (hu:X.A.units+1<cLine) (ho:PE X o td) (hi:PE X i ty) (hs:NoSl i):PE X (.Subscript o i pos) (tDGet td ty):=by
 intro pins s σ H Q I h
 refine zbi7 PySem.F.slot_dict_getitem.lookup hs (thn (ho pins s σ H _ I h) fun u s1 ⟨x,H1,I1,rx,q1⟩=>thn (hi pins s1 σ H1 _ I1 q1) fun iv s2 ⟨y,H2,I2,ry,a,v,ex,g,q2⟩=>?_)
 subst ex
 obtain rfl:u=Value.ref a:=rx
 exact⟨zak7 I2 g,zax3 hu I2 g ry fun w' s3 I3 rw'=>⟨v,H2,I3,rw',q2⟩⟩
theorem zbj6 (hu:X.A.units+1<cLine) (ho:PE X o td) (hi:PE X i ty) (hv:PE X value tv) (hs:swapsWith value (some (.Subscript o i pos')) pos.line X.env=pure false) :
  PS X (.Assign [.Subscript o i pos'] value pos) (sDPut td ty tv):=by
 intro pins s σ H D I h
 refine wpAny_Assign_Subscript (thn (hv pins s σ H _ I h) fun r s1 ⟨v,H1,I1,rv,q1⟩=>thn (ho pins s1 σ H1 _ I1 q1) fun u s2 ⟨x,H2,I2,rx,q2⟩=>thn (hi pins s2 σ H2 _ I2 q2) fun iv s3 ⟨y,H3,I3,ry,a,H4,ex,g,q3⟩=>?_) hs
 subst ex
 obtain rfl:u=Value.ref a:=rx
 exact zav6 hu I3 g ry rv fun s4 I4=>⟨σ,H4,I4,q3⟩
end
theorem zbb5 {P:Program}{w:World}{H:Hp}(h:Heap) (hb:sysModules<h.objs.size):zg6 P w H (h.push { cls:=.type "dict",data:=.dict #[] }) h.objs.size (.dK []):=
 ⟨zbs4 _,beq_eq_false_iff_ne.mpr (Ne.symm (zbs3 hb)),[],.nil,Heap.DictOf.new h⟩
theorem zbc5 {P:Program}{w:World}{H:Hp}(h:Heap) (hb:sysModules<h.objs.size):zg6 P w H (h.push { cls:=.type "dict",data:=.dict #[] }) h.objs.size (.dT []):=
 ⟨zbs4 _,beq_eq_false_iff_ne.mpr (Ne.symm (zbs3 hb)),[],.nil,_,#[],0,zbr8 _ rfl,⟨rfl,rfl,rfl⟩,rfl,rfl,List.nodup_nil⟩
def tDNewK:TE:=fun _ H Q=>∀ p,H p=none->Q (.ref p) (upd H p (.dK []))
def tDNewT:TE:=fun _ H Q=>∀ p,H p=none->Q (.ref p) (upd H p (.dT []))
section
variable {X:Cx}{pos:Pos}
theorem zbb4:PE X (.Dict [] [] pos) tDNewK:=fun pins s σ H Q I h=>
 wpAny_Dict_empty ⟨.ref s.heap.objs.size,_,I.laid (a:=s.heap.objs.size) (o:=.dK []) (t':=s.toks) (fun _ _ q=>zbq1 _ q) (zbq9 _) (zbb5 s.heap I.big),rfl,h _ (I.hok.fresh (zbq9 _))⟩
theorem zbc3:PE X (.Dict [] [] pos) tDNewT:=fun pins s σ H Q I h=>
 wpAny_Dict_empty ⟨.ref s.heap.objs.size,_,I.laid (a:=s.heap.objs.size) (o:=.dT []) (t':=s.toks) (fun _ _ q=>zbq1 _ q) (zbq9 _) (zbc5 s.heap I.big),rfl,h _ (I.hok.fresh (zbq9 _))⟩
end
structure M1 (X:Cx) (o:Expr) (m:Str) (apos:Pos) (e:Expr) (cpos:Pos):Prop where
 base:attributeBase o m X.env (eval o X.env)=eval o X.env
 few:((backTo cpos (starEach [e] X.env)).all (fun x=>!x.1)&&(backToKw cpos (keywordEach [] X.env)).all (fun x=>x.1.isSome)
  && decide (([e]:List Expr).length+([]:List Keyword).length+(if ([]:List Keyword).isEmpty then 0 else 1)<30))=true
 line:(apos.endLine==cpos.line)=true
 trees:backTo cpos (starEach [e] X.env)=[(false,eval e X.env)]
structure M2 (X:Cx) (o:Expr) (m:Str) (apos:Pos) (e f:Expr) (cpos:Pos):Prop where
 base:attributeBase o m X.env (eval o X.env)=eval o X.env
 few:((backTo cpos (starEach [e,f] X.env)).all (fun x=>!x.1)&&(backToKw cpos (keywordEach [] X.env)).all (fun x=>x.1.isSome)
  && decide (([e,f]:List Expr).length+([]:List Keyword).length+(if ([]:List Keyword).isEmpty then 0 else 1)<30))=true
 line:(apos.endLine==cpos.line)=true
 trees:backTo cpos (starEach [e,f] X.env)=[(false,eval e X.env),(false,eval f X.env)]
def IsD (H:Hp) (a:Addr):Prop:=(∃ kvs,Rd H a (.dK kvs))∨∃ kvs,Rd H a (.dT kvs)
theorem isD_at {X:Cx}{pins:List (Addr×Obj)}{σ:St}{H:Hp}{s:Shared}{a:Addr}(I:Inv X pins σ H s) (d:IsD H a) :
  s.TypeIs (.ref a) "dict"/\(∀ b,Value.ref a=.ref b->∃ ob,s.heap.get? b=some ob/\ob.dict=none)/\(a==sysModules)=false:=by
 rcases d with ⟨kvs,e⟩|⟨kvs,e⟩
 ·obtain⟨_,hd,vs,_,dd⟩:=zaz9 I.hok e
  refine⟨dd.typeIs,fun b q=>?_,hd⟩
  cases q
  obtain⟨ob,_,_,h1,h2,_⟩:=dd
  exact⟨ob,h1,h2.2.1⟩
 ·obtain⟨_,hd,xs,_,dd⟩:=zaz3 I.hok e
  refine⟨dd.typeIs,fun b q=>?_,hd⟩
  cases q
  obtain⟨ob,_,_,h1,h2,_⟩:=dd
  exact⟨ob,h1,h2.2.1⟩
section
variable {X:Cx}{pins:List (Addr×Obj)}{σ:St}{H:Hp}{s:Shared}{a:Addr}{y d:V}{u r:Value}{o:Option V}{A:Around}{E:Value->Shared->Prop}
theorem d_get2 {Q:Value->Shared->Prop}(hu:A.units+1<cLine) (I:Inv X pins σ H s) (g:DGet H a y o) (ry:RelV y u) (rd:RelV d r) (h:∀ w' s',Inv X pins σ H s'->RelV (o.getD d) w'->Q w' s') :
  wpAny (model X.prog X.w) A (call (.builtin "dict.get") [.ref a,u,r]) Q E s:=by
 rcases g with ⟨kvs,k,e,ey,l⟩|⟨kvs,k,b,e,ey,eb,l⟩
 ·subst ey
  obtain⟨z,hd,vs,rel,dd⟩:=zaz9 I.hok e
  refine call_meetsIn PySem.F.slot_dict_get dd.typeIs PySem.F.entry_dict_get (PySem.F.args_dict_get_3 _ _ _) (meets_dict_get_default (zg2 X.prog X.w) a (kV_is ry) hd r) ⟨_,dd.mapOf,h _ _ (I.tok _) ?_⟩
  rw[l]
  exact (rel.val k).getD rd
 ·subst ey
  cases (show u=Value.ref b from ry)
  obtain⟨z,hd,xs,rel,dd⟩:=zaz3 I.hok e
  refine call_meetsIn PySem.F.slot_dict_get dd.typeIs PySem.F.entry_dict_get (PySem.F.args_dict_get_3 _ _ _) (meetsH_dict_get_default (tupleKind (zg2 X.prog X.w)) a b hd r) ⟨tupleKind_room_in1 hu,k,xs,zao2 I.hok eb,dd,h _ _ (I.tok _) ?_⟩
  rw[l]
  exact (rel.val k).getD rd
end
def zas6 (td ty tx:TE):TE:=fun σ H Q=>td σ H fun x H1=>∃ a,x=.ref a/\IsD H1 a/\ty σ H1 fun y H2=>tx σ H2 fun z H3=>∃ o,DGet H3 a y o/\Q (o.getD z) H3
section
variable {X:Cx}{o e f:Expr}{apos cpos:Pos}{td ty tx:TE}
theorem zbd4 (hu:X.A.units+1<cLine) (ho:PE X o td) (he:PE X e ty) (hf:PE X f tx) (m:M2 X o "get" apos e f cpos):PE X (.Call (.Attribute o "get" apos) [e,f] [] cpos) (zas6 td ty tx):=by
 intro pins s σ H Q I h
 refine wpAny_Call_method m.base m.few m.line PySem.F.plainAttrs_dict PySem.F.slot_dict_get PySem.F.type_dict_get (thn (ho pins s σ H _ I h) fun u s1 ⟨x,H1,I1,rx,a,ex,d,q1⟩=>?_)
 subst ex
 obtain rfl:u=Value.ref a:=rx
 obtain⟨t1,t2,_⟩:=isD_at I1 d
 refine⟨t1,t2,?_⟩
 rw[m.trees]
 refine Calls.callWith_builtin rfl (Calls.evalArgs_plain (Calls.spliced_cons (thn (he pins s1 σ H1 _ I1 q1) fun iv s2 ⟨y,H2,I2,ry,q2⟩=>
  Calls.spliced_cons (thn (hf pins s2 σ H2 _ I2 q2) fun fv s3 ⟨z,H3,I3,rz,ov,g,q3⟩=>Calls.spliced_nil ?_))))
 exact d_get2 hu I3 g ry rz fun w' s4 I4 rw'=>⟨_,H3,I4,rw',q3⟩
end
section
variable {X:Cx}{pins:List (Addr×Obj)}{σ:St}{H:Hp}{s:Shared}{a:Addr}{kvs:List (Key×V)}{A:Around}{E:Value->Shared->Prop}
end
section
variable {X:Cx}{pins:List (Addr×Obj)}{σ:St}{H:Hp}{s:Shared}{a:Addr}{y:V}{u:Value}{A:Around}{E:Value->Shared->Prop}
end
end L2
namespace L2
open PySem PySem.Spec PyProof.Rows
section
variable {κ:Type}[DecidableEq κ]
end
end L2
set_option maxHeartbeats 2000000
namespace L2
open PySem PySem.Spec PyProof.Rows
def RawD (h:Heap) (d:Addr) (es:Array DictEntry) (ep:Nat):Prop:=∃ o,h.get? d=some o/\o.ExactDict/\o.data=.dict es ep
theorem RawD.is {s:Shared}{d:Addr}{es:Array DictEntry}{ep:Nat}(x:RawD s.heap d es ep):s.TypeIs (.ref d) "dict":=let ⟨o,a,b,_⟩:=x;⟨o,a,b.1⟩
theorem RawD.lt {h:Heap}{d:Addr}{es:Array DictEntry}{ep:Nat}(x:RawD h d es ep):d<h.objs.size:=let ⟨_,a,_⟩:=x;zbr4 a
theorem RawD.to {h h':Heap}{d:Addr}{es:Array DictEntry}{ep:Nat}(x:RawD h d es ep) (k:∀ o,h.get? d=some o->h'.get? d=some o):RawD h' d es ep:=let ⟨o,a,r⟩:=x;⟨o,k _ a,r⟩
section
variable {prog:Program}{w:World}{A:Around}{E:Value->Shared->Prop}{s:Shared}{d it:Addr}{es:Array DictEntry}{ep:Nat}
theorem zbe7 {Q:Value->Shared->Prop}(lo:(d==sysModules)=false) (x:RawD s.heap d es ep)
  (q:Q (.ref s.heap.objs.size) { s with heap:=s.heap.push { cls:=.type "dict_keyiterator",data:=.fields #[.ref d,.int 0 0,.int es.size 0,.int ep 0] } }) :
  wpAny (model prog w) A (pyIter (.ref d)) Q E s:=by
 obtain⟨o,x1,x2,x3⟩:=id x
 have tt:=x.is
 refine wpAny_pyIter_slot tt F.slot_dict_iter (wpAny_call_entry F.slot_dict_iter tt F.entry_dict_iter ?_ (F.args_dict_iter_1 _))
 unfold Builtin.«dict.__iter__» Builtin.Dict.dictSlotNone
 refine wpAny_bind (wpAny_bind (wpAny_notOrdered_dict tt ?_))
 show wpAny (model prog w) _ (pure (Value.ref d)) _ _ s
 refine wpAny_pure (?_:_)
 show wpAny (model prog w) _ (Builtin.Dict.showsAll d >>= _) _ _ s
 unfold Builtin.Dict.showsAll
 rw[if_neg (fun z=>zbq6 (lo.symm.trans z))]
 refine wpAny_bind (wpAny_pure (wpAny_bind (wpAny_dictEntries x1 x3 (wpAny_bind (wpAny_dictEpoch x1 x3 ?_)))))
 exact wpAny_bind (wpAny_newObj_type (wpAny_pure ⟨_,rfl,"dict_keyiterator",_,⟨_,zbr8 _ rfl,rfl⟩,F.slot_dict_keyiterator_next.lookup,by simpa [rawInt] using q⟩))
theorem zbd9 {i:Nat}{Q:Option Value->Shared->Prop}(y:s.heap.IsKeyIter it d i es.size ep) (x:RawD s.heap d es ep) (hi:i<es.size)
  (q:∀ h',h'.IsKeyIter it d (i+1) es.size ep->Heap.SameBut it s.heap h'->Q (some es[i].key) { s with heap:=h' }) :
  wpAny (model prog w) A (pyNext (.ref it)) Q E s:=by
 obtain⟨o,y1,y2,y3⟩:=id y
 obtain⟨od,x1,x2,x3⟩:=id x
 have own:Builtin.Dict_items.ownsTuple "dict_keyiterator"=false:=by decide
 unfold pyNext
 refine wpAny_bind (wpAny_attempt (wpAny_callSpecial?_slot (name:=Str.ofString "__next__") y.typeIs F.slot_dict_keyiterator_next (wpAny_call_entry F.slot_dict_keyiterator_next y.typeIs F.entry_dict_keyiterator_next ?_ (F.args_dict_keyiterator_next_1 _))))
 refine wpAny_bind (wpAny_pure (wpAny_bind (wpAny_bind ?_)))
 first|refine wpAny_bind (wpAny_typeNameOfWhole_keyiter y.typeIs (wpAny_pure ?_))|refine wpAny_bind (wpAny_typeNameOf_keyiter y.typeIs (wpAny_pure ?_))
 refine wpAny_bind (wpAny_fieldsOf y1 y3 ?_)
 simp only[own,zbv8,if_false]
 show wpAny (model prog w) _ (if (Value.ref d==Value.none)=true then _ else _) _ _ s
 rw[if_neg (show ¬ (Value.ref d==Value.none)=true from zbq6)]
 refine wpAny_bind (wpAny_pure (wpAny_bind (wpAny_dictEntries x1 x3 ?_)))
 rw[if_neg (by simp)]
 refine wpAny_bind (wpAny_pure (wpAny_bind (wpAny_dictEpoch x1 x3 ?_)))
 rw[if_neg (by simp)]
 refine wpAny_pure (?_:_)
 simp only[show ¬ ((i:Int)<0) from by omega,if_false,Int.toNat_natCast,Array.getElem?_eq_getElem hi]
 refine wpAny_bind (?_:_)
 first|refine wpAny_bind (wpAny_typeNameOfWhole_keyiter y.typeIs (wpAny_pure ?_))|refine wpAny_bind (wpAny_typeNameOf_keyiter y.typeIs (wpAny_pure ?_))
 refine wpAny_bind (wpAny_isOneOf_keyiter y.typeIs ?_)
 show wpAny (model prog w) _ (setField (.ref it) 1 (rawInt ((i:Int)+1)) >>= _) _ _ s
 refine wpAny_bind (wpAny_setField y1 y3 (by simp) ?_)
 have y':(s.heap.update it (Obj.mapFields (·.setIfInBounds 1 (rawInt ((i:Int)+1))))).IsKeyIter it d (i+1) es.size ep:=
  ⟨_,Heap.get?_update_self _ y1 (Obj.isFreed_of_fields (Obj.data_mapFields y3 _)),(Obj.cls_mapFields ..).trans y2,by rw[Obj.data_mapFields y3];simp[rawInt]⟩
 refine wpAny_bind (wpAny_holding (wpAny_bind (wpAny_isOneOf_keyiter (s:={ s with heap:=s.heap.update it (Obj.mapFields (·.setIfInBounds 1 (rawInt ((i:Int)+1)))) }) y'.typeIs ?_)))
 show wpAny (model prog w) _ (pure es[i].key) _ _ _
 exact wpAny_pure (wpAny_pure ⟨_,rfl,wpAny_pure (q _ y' (Heap.SameBut.update ..))⟩)
theorem zbn1 {i:Nat}{Q:Option Value->Shared->Prop}(hh:A.handled=none) (y:s.heap.IsKeyIter it d i es.size ep) (x:RawD s.heap d es ep) (hi:es.size<=i)
  (q:∀ h',Heap.ExtBut it s.heap h'->Q none { s with heap:=h' }) :
  wpAny (model prog w) A (pyNext (.ref it)) Q E s:=by
 obtain⟨o,y1,y2,y3⟩:=id y
 obtain⟨od,x1,x2,x3⟩:=id x
 have own:Builtin.Dict_items.ownsTuple "dict_keyiterator"=false:=by decide
 unfold pyNext
 refine wpAny_bind (wpAny_attempt (wpAny_callSpecial?_slot (name:=Str.ofString "__next__") y.typeIs F.slot_dict_keyiterator_next (wpAny_call_entry F.slot_dict_keyiterator_next y.typeIs F.entry_dict_keyiterator_next ?_ (F.args_dict_keyiterator_next_1 _))))
 refine wpAny_bind (wpAny_pure (wpAny_bind (wpAny_bind ?_)))
 first|refine wpAny_bind (wpAny_typeNameOfWhole_keyiter y.typeIs (wpAny_pure ?_))|refine wpAny_bind (wpAny_typeNameOf_keyiter y.typeIs (wpAny_pure ?_))
 refine wpAny_bind (wpAny_fieldsOf y1 y3 ?_)
 simp only[own,zbv8,if_false]
 show wpAny (model prog w) _ (if (Value.ref d==Value.none)=true then _ else _) _ _ s
 rw[if_neg (show ¬ (Value.ref d==Value.none)=true from zbq6)]
 refine wpAny_bind (wpAny_pure (wpAny_bind (wpAny_dictEntries x1 x3 ?_)))
 rw[if_neg (by simp)]
 refine wpAny_bind (wpAny_pure (wpAny_bind (wpAny_dictEpoch x1 x3 ?_)))
 rw[if_neg (by simp)]
 refine wpAny_pure (?_:_)
 simp only[show ¬ ((i:Int)<0) from by omega,if_false,Int.toNat_natCast,Array.getElem?_eq_none hi]
 refine wpAny_bind (?_:_)
 first|refine wpAny_bind (wpAny_typeNameOfWhole_keyiter y.typeIs (wpAny_pure ?_))|refine wpAny_bind (wpAny_typeNameOf_keyiter y.typeIs (wpAny_pure ?_))
 show wpAny (model prog w) _ (setField (.ref it) 0 .none >>= _) _ _ s
 refine wpAny_bind (wpAny_setField y1 y3 (by simp) ?_)
 show wpAny (model prog w) _ (newExc (.type "StopIteration") [] >>= _) _ _ _
 refine wpAny_bind (?_:_)
 unfold newExc newTuple
 refine wpAny_bind (wpAny_newObj_type ?_ (zbs4 _))
 refine wpAny_bind (m:=firstArgMember _ _) (wpAny_of_eq (a:=Value.none) (by first|rfl|(unfold firstArgMember;rfl)) ?_)
 refine wpAny_newObj_type ?_ (by size_fits)
 unfold raiseNew
 refine wpAny_bind (wpAny_handled ?_)
 have hn:A.in1.handled=none:=hh
 rw[hn]
 refine wpAny_bind (wpAny_pure (wpAny_throw (?_:_)))
 refine wpAny_bind (wpAny_isInstance (b:=true) (T:="StopIteration") ⟨_,zbr8 _ rfl,rfl⟩ isSubtype_stop ?_)
 exact wpAny_pure (q _ (((Heap.SameBut.update ..).extBut.push _).push _))
theorem zbe0 (hh:A.handled=none) (I:Addr) (ne:d≠I) :
  Walks prog w A I [I,d] [I] es.size (fun i v=>∃ e,es[i]?=some e/\v=e.key) (fun i h=>h.IsKeyIter I d i es.size ep/\RawD h d es ep) where
 sub:=by intro b z;simp at z;simp[z]
 frame:=fun i h h' st k=>⟨st.1.at (k I (by simp)),st.2.to (k d (by simp))⟩
 item:=fun i s Q E hi st q=>zbd9 st.1 st.2 hi fun h' y' hs=>q _ h' s.toks ⟨es[i],by simp[hi],rfl⟩ ⟨y',st.2.to fun o e=>hs.extBut d o ne e⟩ fun b o hb e=>hs.extBut b o (fun z=>hb (by simp[z])) e
 done:=fun s Q E st q=>zbn1 hh st.1 st.2 (zbq9 _) fun h' he=>q h' s.toks fun b o hb e=>he b o (fun z=>hb (by simp[z])) e
 self:=fun i s Q E st q=>wpAny_pyIter_keyiter st.1 q
theorem zaw3 (lo:(d==sysModules)=false):PySem.W.KdlSrc prog w "dict" d d es.size (fun i v=>∃ e,es[i]?=some e/\v=e.key) (fun h=>RawD h d es ep) where
 type:=fun s x=>x.is
 there:=fun h x=>⟨x.lt,x.lt⟩
 keep:=fun h h' x k=>x.to fun o e=>k d (Or.inl rfl) o e
 notList:=rfl
 notTuple:=rfl
 hint:=fun A E s Q x q=>PySem.W.kdl_hint_dict x.is q
 iter:=fun A s hh x=>⟨_,_,(fun E Q q=>zbe7 lo x q),zbe0 hh _ (zbs3 x.lt),⟨⟨_,zbr8 _ rfl,rfl,rfl⟩,x.to fun o e=>zbq1 _ e⟩⟩
end
end L2
set_option maxHeartbeats 2000000
namespace L2
open PySem PySem.Spec PyProof.Rows PySem.W
section
variable {lt:Nat->Nat->Bool}{n:Nat}
def KW {α:Type}(lt:Nat->Nat->Bool) (n:Nat) (Q:α->Prop):KasT α->Prop
 | .ret a=>Q a
 | .ask i j k=>i<n/\j<n/\KW lt n Q (k (lt i j))
theorem KW.bd {α β:Type}{f:α->KasT β}{Q:β->Prop}:∀ {t:KasT α},KW lt n (fun a=>KW lt n Q (f a)) t->KW lt n Q (t.bind f)
 | .ret _,h=>h
 | .ask _ _ k,⟨h1,h2,h3⟩=>⟨h1,h2,KW.bd (t:=k _) h3⟩
theorem KW.mono {α:Type}{Q Q':α->Prop}(hq:∀ a,Q a->Q' a):∀ {t:KasT α},KW lt n Q t->KW lt n Q' t
 | .ret a,h=>hq a h
 | .ask _ _ k,⟨h1,h2,h3⟩=>⟨h1,h2,KW.mono hq (t:=k _) h3⟩
theorem KW.wp {α:Type}{cmp:Nat->Nat->(Bool->Shared->Prop)->Shared->Prop}{s:Shared}{Q:α->Prop}(hc:∀ i j C,i<n->j<n->C (lt i j) s->cmp i j C s):∀ {t:KasT α},KW lt n Q t->t.kasWp cmp (fun a s'=>s'=s/\Q a) s
 | .ret a,h=>⟨rfl,h⟩
 | .ask i j k,⟨h1,h2,h3⟩=>hc i j _ h1 h2 (KW.wp hc (t:=k _) h3)
def Pm (n:Nat) (p:Array Nat):Prop:=p.toList.Perm (List.range n)
theorem Pm.low {p:Array Nat}(h:Pm n p) (hn:0<n) (i:Nat):p.getD i 0<n:=by
 unfold Array.getD
 split
 ·rename_i hi
  exact zbs1.mp (h.mem_iff.mp (Array.getElem_mem_toList hi))
 ·exact hn
theorem Pm.rev {p:Array Nat}(h:Pm n p) (i j:Nat):Pm n (kas_rev p i j):=(Array.perm_iff_toList_perm.mp (mirror_perm p i j _)).trans h
theorem Pm.bub {p:Array Nat}(h:Pm n p) (i j:Nat):Pm n (bubble p i j):=(Array.perm_iff_toList_perm.mp (bubble_perm p i j)).trans h
end
section
variable {prog:Program}{w:World}{A:Around}{E:Value->Shared->Prop}{s:Shared}
def midH (h:Heap) (a:Addr) (vs:List Value):Heap:=((h.update a (Obj.mapSeq fun _=>#[])).push (seqObj "tuple" vs.toArray 0)).push (seqObj "list" #[] 0)
theorem zau9 {h:Heap}{a b:Addr}{vs:List Value}{o:Obj}(ne:b≠a) (e:h.get? b=some o):(midH h a vs).get? b=some o:=
 zbq1 _ (zbq1 _ ((Heap.get?_update_ne _ _ _ _ ne).trans e))
theorem zq0 {h:Heap}{a b:Addr}{vs:List Value}{out:Array Value}{o:Obj}(ne:b≠a) (e:h.get? b=some o):(sortedHeap h a vs out).get? b=some o:=
 (Heap.get?_update_ne _ _ _ _ ne).trans (zau9 ne e)
theorem zba6 {h:Heap}{a:Addr}{vs xs:List Value}{n:Nat}(e:h.get? a=some (seqObj "list" xs.toArray n)):∃ c,(midH h a vs).get? a=some (seqObj "list" #[] c)/\(h.update a (Obj.mapSeq fun _=>#[])).get? a=some (seqObj "list" #[] c):=
 ⟨_,zbq1 _ (zbq1 _ (get?_update_seq e fun _=>#[])),get?_update_seq e fun _=>#[]⟩
theorem zs3 {h:Heap}{a:Addr}{vs xs:List Value}{n:Nat}{out:Array Value}(e:h.get? a=some (seqObj "list" xs.toArray n)):∃ c,(sortedHeap h a vs out).get? a=some (seqObj "list" out c):=by
 obtain⟨c,h1,_⟩:=zba6 (vs:=vs) e
 exact⟨_,get?_update_seq h1 fun _=>out⟩
theorem zax8 {a:Addr}{vs:List Value}{n:Nat}{κ:SortKind}{lt:Nat->Nat->Bool}{R:Array Nat->Prop}{P:PySem.Fin->Shared->Prop}(ho:s.heap.get? a=some (seqObj "list" vs.toArray n)) (h2:2<=vs.length) (h64:vs.length<64)
  (hk:∀ Q:SortKind->Shared->Prop,Q κ { s with heap:=midH s.heap a vs }->wpAny (model prog w) A (keyKind' vs.toArray) Q E { s with heap:=midH s.heap a vs })
  (hc:∀ i j (C:Bool->Shared->Prop),i<vs.length->j<vs.length->C (lt i j) { s with heap:=midH s.heap a vs }->wpAny (model prog w) A (keyLt' κ (vs.getD i Value.none) (vs.getD j Value.none)) C (fun _ _=>False) { s with heap:=midH s.heap a vs })
  (kw:KW lt vs.length R (kas_sort vs.length))
  (h:∀ p:Array Nat,p.size=vs.length->R p->P (.done (.ret .none)) { s with heap:=sortedHeap s.heap a vs (zbw7 (p.toList.map fun i=>vs.getD i Value.none)) }) :
  wpAny (model prog w) A (Builtin.«list.sort» ⟨[.ref a],[]⟩) P E s:=by
 obtain⟨c,m1,m2⟩:=zba6 (vs:=vs) ho
 have zs:¬ vs.toArray.size<2:=by rw[zbq3];omega
 have zl:vs.length<=sizeLine:=by rw[sizeLine_eq];omega
 rw[list_sort_plain]
 refine wpAny_bind (listItems_at ho rfl (wpAny_bind (listUpdate_at ho rfl ?_ (by rw[zbq3];exact zl) (zbs4 _))))
 refine wpAny_bind (seqEpoch_at m2 rfl (wpAny_bind (wpAny_newTuple ?_ zl)))
 refine wpAny_bind (wpAny_newList ?_ (zbs4 _))
 refine wpAny_holding (?_:_)
 show wpAny (model prog w) A _ P E { s with heap:=midH s.heap a vs }
 dsimp only
 rw[if_neg zs,if_neg zs]
 refine wpAny_bind (hk _ ?_)
 have run:=kat_run (prog:=prog) (w:=w) (A:=A) (E:=E) (κ:=κ) (ks:=vs) (vs:=vs) (s:={ s with heap:=midH s.heap a vs }) (Q:=fun st' s'=>s'={ s with heap:=midH s.heap a vs }/\∃ p:Array Nat,p.size=vs.length/\R p/\arrOf st'=p.map (kas_item (vs.toArray.zip vs.toArray))/\failedOf st'=none)
  rfl h2 h64 (fun p st' s' b1 b2 b3 b4=>⟨b4.1,p,b1,b4.2,b2,b3⟩) (KW.wp (cmp:=kas_ask prog w A κ vs) (fun i j C li lj hC=>hc i j C li lj hC) kw)
 refine wpAny_bind (wpAny_mono run ?_ fun _ _ e=>e)
 rintro⟨⟨⟩,st'⟩ s' ⟨rfl,p,pz,pR,har,hf⟩
 have out:=kat_snds rfl har
 dsimp only
 rw[out]
 refine wpAny_bind (seqEpoch_at m1 rfl (wpAny_bind (listUpdate_at m1 rfl ?_ (zbs4 _) ?_)))
 ·rw[hf]
  simp only[bne_self_eq_false,zbv8,if_false]
  exact wpAny_pure (h p pz pR)
 ·rw[zbq3,zbp5,Array.length_toList,pz]
  omega
theorem zam2 {a:Addr}{vs:List Value}{n:Nat}{P:PySem.Fin->Shared->Prop}(ho:s.heap.get? a=some (seqObj "list" vs.toArray n)) (h2:vs.length<2)
  (h:P (.done (.ret .none)) { s with heap:=sortedHeap s.heap a vs vs.toArray }):wpAny (model prog w) A (Builtin.«list.sort» ⟨[.ref a],[]⟩) P E s:=by
 obtain⟨c,m1,m2⟩:=zba6 (vs:=vs) ho
 have zs:vs.toArray.size<2:=by rw[zbq3];omega
 have zl:vs.length<=sizeLine:=by rw[sizeLine_eq];omega
 rw[list_sort_plain]
 refine wpAny_bind (listItems_at ho rfl (wpAny_bind (listUpdate_at ho rfl ?_ (by rw[zbq3];exact zl) (zbs4 _))))
 refine wpAny_bind (seqEpoch_at m2 rfl (wpAny_bind (wpAny_newTuple ?_ zl)))
 refine wpAny_bind (wpAny_newList ?_ (zbs4 _))
 refine wpAny_holding (?_:_)
 show wpAny (model prog w) A _ P E { s with heap:=midH s.heap a vs }
 dsimp only
 rw[if_pos zs,if_pos zs]
 refine wpAny_bind (wpAny_pure (?_:_))
 rw[StateT.run_pure]
 refine wpAny_bind (wpAny_pure (?_:_))
 dsimp only
 have e:(vs.toArray.zip vs.toArray).map (·.2)=vs.toArray:=by
  apply Array.toList_inj.mp
  simp[List.map_snd_zip]
 show wpAny (model prog w) A (seqEpoch a >>= _) P E _
 refine wpAny_bind (seqEpoch_at m1 rfl (wpAny_bind (listUpdate_at m1 rfl ?_ (zbs4 _) ?_)))
 ·simp only[bne_self_eq_false,zbv8,if_false]
  show wpAny (model prog w) A (ret Value.none) P E { s with heap:=sortedHeap s.heap a vs ((vs.toArray.zip vs.toArray).map (·.2)) }
  rw[e]
  exact wpAny_pure h
 ·show ((vs.toArray.zip vs.toArray).map (·.2)).size<=_
  rw[e,zbq3];omega
end
end L2
set_option maxHeartbeats 2000000
namespace L2
open PySem PySem.Spec PyProof.Rows PySem.W
def ltP (x y:Int×Int):Bool:=if (x.1==y.1)=true then (if (x.2==y.2)=true then false else decide (x.2<y.2)) else decide (x.1<y.1)
def TupI (h:Heap) (v:Value) (x:Int×Int):Prop:=∃ a o t u n,v=.ref a/\h.get? a=some o/\o.cls=.type "tuple"/\o.data=.seq #[.int x.1 t,.int x.2 u] n
theorem TupI.to {h h':Heap}{v:Value}{x:Int×Int}(z:TupI h v x) (k:∀ b o,h.get? b=some o->h'.get? b=some o):TupI h' v x:=
 let ⟨a,o,t,u,n,e,e1,r⟩:=z;⟨a,o,t,u,n,e,k _ _ e1,r⟩
section
variable {prog:Program}{w:World}{A:Around}{E:Value->Shared->Prop}{s:Shared}
theorem zbi8 {v v':Value}{x y:Int×Int}{C:Bool->Shared->Prop}(hv:TupI s.heap v x) (hv':TupI s.heap v' y) (h:C (ltP x y) s):wpAny (model prog w) A (keyLt' (tuples' true) v v') C E s:=by
 obtain⟨a,o,t,u,n,rfl,a1,a2,a3⟩:=hv
 obtain⟨b,o',t',u',n',rfl,b1,b2,b3⟩:=hv'
 refine kat_lt a1 a3 b1 b3 ?_
 show KatLex prog w A true false C [(.int x.1 t,.int y.1 t'),(.int x.2 u,.int y.2 u')] 0 s
 unfold ltP at h
 refine kat_cons (wpAny_eqBool_int (kat_go (fun e=>?_) fun e=>?_))
 ·rw[if_pos e] at h
  refine kat_yes (kat_cons (wpAny_eqBool_int (kat_go (fun e2=>?_) fun e2=>?_)))
  ·rw[if_pos e2] at h
   exact kat_yes (kat_nil h)
  ·rw[if_neg (by rw[e2];exact zbq6)] at h
   exact kat_no (kat_one _ _ (wpAny_lt_int h))
 ·rw[if_neg (by rw[e];exact zbq6)] at h
  exact kat_no (oneLt_int h)
theorem zat7 {h:Heap}:∀ {vs:List Value},(∀ v∈vs,∃ x,TupI h v x)->∃ fs,KatTups h vs fs/\fs.length=vs.length/\∀ f∈fs,∃ n t,f=Value.int n t
 | [],_=>⟨[],.nil,rfl,fun _ z=>nomatch z⟩
 | v :: vs,H=>by
  obtain⟨fs,a1,a2,a3⟩:=zat7 (vs:=vs) fun u hu=>H u (.tail _ hu)
  obtain⟨x,a,o,t,u,n,rfl,b1,b2,b3⟩:=H v (.head _)
  refine⟨.int x.1 t :: fs,KatTups.cons b1 b2 b3 rfl a1,congrArg (·+1) a2,fun f hf=>?_⟩
  rcases zbq8.mp hf with rfl|hf
  ·exact⟨_,_,rfl⟩
  ·exact a3 f hf
theorem zba1 {vs:List Value}{Q:SortKind->Shared->Prop}(H:∀ v∈vs,∃ x,TupI s.heap v x) (h2:2<=vs.length) (h:Q (tuples' true) s):wpAny (model prog w) A (keyKind' vs.toArray) Q E s:=by
 obtain⟨fs,a1,a2,a3⟩:=zat7 H
 refine kat_kind (T:=.type "int") a1 (by omega) (fun v hv=>?_) rfl h
 obtain⟨n,t,rfl⟩:=a3 v hv
 exact Looks.of_pure rfl
end
end L2
set_option maxHeartbeats 2000000
namespace L2
open PySem PySem.Spec PyProof.Rows PySem.W
section
variable {X:Cx}{K:zbp7}
@[irreducible] def rDG (a:Addr) (y:V) (H:Hp) (Q:VK):Prop:=∃ v,DGet H a y (some v)/\Q v H
def rDGV (x y:V) (H:Hp) (Q:VK):Prop:=match x with
 | .ref a=>rDG a y H Q
 | _=>False
def tDG (td ty:TE):TE:=fun σ H Q=>td σ H fun x H1=>ty σ H1 fun y H2=>rDGV x y H2 Q
theorem tDG_eq (td ty:TE):tDG td ty=tDGet td ty:=by
 funext σ H Q
 unfold tDG tDGet
 congr 1;funext x H1;congr 1;funext y H2
 unfold rDGV
 apply propext
 cases x<;>first
  | (simp only[V.ref.injEq];unfold rDG;exact⟨fun ⟨v,g,q⟩=>⟨_,v,rfl,g,q⟩,fun ⟨a,v,e,g,q⟩=>⟨v,e▸g,q⟩⟩)
  | exact⟨fun z=>z.elim,fun ⟨a,v,e,_⟩=>nomatch e⟩
theorem peDGet {o i:Expr}{td ty:TE}{pos:Pos}(hu:X.A.units+40<cLine) (ho:PE X o td) (hi:PE X i ty) (hs:NoSl i:=by exact fun _ _=>rfl):PE X (.Subscript o i pos) (tDG td ty):=tDG_eq td ty▸zbm0 (by omega) ho hi hs
theorem dgT_rd {a b:Addr}{H:Hp}{Q:VK}{kvs:List (List Key×V)}{k:List Key}{v:V}(e:H a=some (.dT kvs)) (eb:H b=some (.tup (k.map kV))) (ev:valV kvs k=some v) (q:Q v H):rDG a (.ref b) H Q:=by
 unfold rDG
 exact⟨v,ev▸DGet.t e eb,q⟩
@[irreducible] def rIsD (a:Addr) (H:Hp) (P:Prop):Prop:=IsD H a/\P
@[irreducible] def rDG2 (a:Addr) (y z:V) (H:Hp) (Q:VK):Prop:=∃ o,DGet H a y o/\Q (o.getD z) H
def rDG2V (x:V) (H:Hp) (P:Addr->Prop):Prop:=match x with
 | .ref a=>rIsD a H (P a)
 | _=>False
def tDG2 (td ty tx:TE):TE:=fun σ H Q=>td σ H fun x H1=>rDG2V x H1 fun a=>ty σ H1 fun y H2=>tx σ H2 fun z H3=>rDG2 a y z H3 Q
theorem zbl9 (td ty tx:TE):tDG2 td ty tx=zas6 td ty tx:=by
 funext σ H Q
 unfold tDG2 zas6
 congr 1;funext x H1
 unfold rDG2V rIsD rDG2
 apply propext
 cases x<;>first
  | (simp only[V.ref.injEq];exact⟨fun z=>⟨_,rfl,z⟩,fun ⟨a,e,z⟩=>e▸z⟩)
  | exact⟨fun z=>z.elim,fun ⟨a,e,_⟩=>nomatch e⟩
theorem zv3 {o e f:Expr}{td ty tx:TE}{apos cpos:Pos}(hu:X.A.units+40<cLine) (ho:PE X o td) (he:PE X e ty) (hf:PE X f tx)
  (m1:attributeBase o "get" X.env (eval o X.env)=eval o X.env:=by rfl)
  (m2:((backTo cpos (starEach [e,f] X.env)).all (fun x=>!x.1)&&(backToKw cpos (keywordEach [] X.env)).all (fun x=>x.1.isSome)&&decide (([e,f]:List Expr).length+([]:List Keyword).length+(if ([]:List Keyword).isEmpty then 0 else 1)<30))=true:=by rfl)
  (m3:(apos.endLine==cpos.line)=true:=by rfl) (m4:backTo cpos (starEach [e,f] X.env)=[(false,eval e X.env),(false,eval f X.env)]:=by rfl):PE X (.Call (.Attribute o "get" apos) [e,f] [] cpos) (tDG2 td ty tx):=
 zbl9 td ty tx▸zbd4 (by omega) ho he hf ⟨m1,m2,m3,m4⟩
theorem zas1 {a:Addr}{H:Hp}{P:Prop}{kvs:List (List Key×V)}(e:H a=some (.dT kvs)) (p:P):rIsD a H P:=by unfold rIsD;exact⟨.inr ⟨kvs,.inl e⟩,p⟩
theorem zba0 {a b:Addr}{z:V}{H:Hp}{Q:VK}{kvs:List (List Key×V)}{k:List Key}(e:H a=some (.dT kvs)) (eb:H b=some (.tup (k.map kV))) (q:Q ((valV kvs k).getD z) H):rDG2 a (.ref b) z H Q:=by
 unfold rDG2
 exact⟨_,DGet.t e eb,q⟩
@[irreducible] def rDP (a:Addr) (y v:V) (H:Hp) (N:Hp->Prop):Prop:=∃ H',DPut H a y v H'/\N H'
def rDPV (x y v:V) (H:Hp) (N:Hp->Prop):Prop:=match x with
 | .ref a=>rDP a y v H N
 | _=>False
def sDP (td ty tv:TE):TS:=fun D σ H=>tv σ H fun v H1=>td σ H1 fun x H2=>ty σ H2 fun y H3=>rDPV x y v H3 (D.nx σ)
theorem sDP_eq (td ty tv:TE):sDP td ty tv=sDPut td ty tv:=by
 funext D σ H
 unfold sDP sDPut
 congr 1;funext v H1;congr 1;funext x H2;congr 1;funext y H3
 unfold rDPV
 apply propext
 cases x<;>first
  | (simp only[V.ref.injEq];unfold rDP;exact⟨fun ⟨H',g,q⟩=>⟨_,H',rfl,g,q⟩,fun ⟨a,H',e,g,q⟩=>⟨H',e▸g,q⟩⟩)
  | exact⟨fun z=>z.elim,fun ⟨a,v,e,_⟩=>nomatch e⟩
theorem zao0 {o i value:Expr}{td ty tv:TE}{pos pos':Pos}(hu:X.A.units+40<cLine) (ho:PE X o td) (hi:PE X i ty) (hv:PE X value tv) (hs:swapsWith value (some (.Subscript o i pos')) pos.line X.env=pure false:=by rfl) :
  PS X (.Assign [.Subscript o i pos'] value pos) (sDP td ty tv):=sDP_eq td ty tv▸zbj6 (by omega) ho hi hv hs
theorem zbh1 {a b:Addr}{v:V}{H:Hp}{N:Hp->Prop}{kvs:List (List Key×V)}{k:List Key}(e:H a=some (.dT kvs)) (eb:H b=some (.tup (k.map kV))) (hl:kvs.length<sizeLine) (q:∀ H',Chg a H H'->H' a=some (.dT (putK kvs k v))->N H'):rDP a (.ref b) v H N:=by
 unfold rDP
 exact⟨_,DPut.t e eb hl,q _ Chg.upd zb7⟩
def pK (x:Int×Int):List Key:=[.inl x.1,.inl x.2]
theorem zn5 {α β:Type}{R:α->β->Prop}:∀ {as:List α}{bs:List β},Paired R as bs->∀ (i:Nat) (a:α) (b:β),as[i]?=some a->bs[i]?=some b->R a b:=by
 intro as bs h
 induction h with
 | nil=>intro i a b e;simp at e
 | cons h1 _ ih=>
  intro i a b e1 e2
  cases i with
  | zero=>simp at e1 e2;subst e1;subst e2;exact h1
  | succ j=>simp at e1 e2;exact ih j a b e1 e2
theorem zs5 {α β:Type}{R:α->β->Prop}:∀ {as:List α}{bs:List β},as.length=bs.length->(∀ (i:Nat) (a:α) (b:β),as[i]?=some a->bs[i]?=some b->R a b)->Paired R as bs
 | [],[],_,_=>.nil
 | a :: as,b :: bs,hl,h=>.cons (h 0 a b rfl rfl) (zs5 (Nat.succ.inj hl) fun i x y e1 e2=>h (i+1) x y (by simpa using e1) (by simpa using e2))
end
end L2
set_option maxHeartbeats 2000000
namespace L2
open PySem PySem.Spec PyProof.Rows PySem.W
structure Ord (lt:Nat->Nat->Bool):Prop where
 as:∀ i j,lt i j=true->lt j i=false
 tr:∀ i j k,lt j i=false->lt k j=false->lt k i=false
section
variable {lt:Nat->Nat->Bool}{n:Nat}
def gp (p:Array Nat) (i:Nat):Nat:=p.getD i 0
theorem zax7 {p q:Array Nat}{i j:Nat}(h:p[i]?=q[j]?):gp p i=gp q j:=by
 unfold gp
 rw[Array.getD_eq_getD_getElem?,Array.getD_eq_getD_getElem?,h]
theorem zq4 {p:Array Nat}{i j:Nat}(hj:j<=p.size) (k:Nat):gp (kas_rev p i j) k=if i<=k/\k<j then gp p (i+j - 1 - k) else gp p k:=by
 have h:=getElem?_mirror_all (xs:=p) (i:=i) hj k
 split
 ·rename_i c;rw[if_pos c] at h;exact zax7 h
 ·rename_i c;rw[if_neg c] at h;exact zax7 h
theorem zbg4 {p:Array Nat}{k l:Nat}(hk:k<p.size) (hl:l<=k) (i:Nat):gp (bubble p k (k - l)) i=if i=l then gp p k else if l<i/\i<=k then gp p (i - 1) else gp p i:=by
 have h:=getElem?_bubble hk (k - l) (by omega) i
 rw[show k - (k - l)=l by omega] at h
 split
 ·rename_i c;rw[if_pos c] at h;exact zax7 h
 ·rename_i c
  rw[if_neg c] at h
  split
  ·rename_i c2;rw[if_pos c2] at h;exact zax7 h
  ·rename_i c2;rw[if_neg c2] at h;exact zax7 h
def Up (lt:Nat->Nat->Bool) (p:Array Nat) (k:Nat):Prop:=∀ i j,i<=j->j<k->lt (gp p j) (gp p i)=false
def Dn (lt:Nat->Nat->Bool) (p:Array Nat) (k:Nat):Prop:=∀ i j,i<=j->j<k->lt (gp p i) (gp p j)=false
theorem Ord.rf (O:Ord lt) (i:Nat):lt i i=false:=by
 cases h:lt i i with
 | false=>rfl
 | true=>exact absurd (O.as _ _ h) (by rw[h];exact fun w=>nomatch w)
theorem Up.snoc (O:Ord lt) {p:Array Nat}{k:Nat}(u:Up lt p k) (hk:1<=k) (h:lt (gp p k) (gp p (k - 1))=false):Up lt p (k+1):=fun i j hij hj=>by
 by_cases e:j=k
 ·subst e
  by_cases e2:i=j
  ·subst e2;exact O.rf _
  ·exact O.tr _ _ _ (u i (j - 1) (by omega) (by omega)) h
 ·exact u i j hij (by omega)
theorem Dn.snoc (O:Ord lt) {p:Array Nat}{k:Nat}(u:Dn lt p k) (hk:1<=k) (h:lt (gp p (k - 1)) (gp p k)=false):Dn lt p (k+1):=fun i j hij hj=>by
 by_cases e:j=k
 ·subst e
  by_cases e2:i=j
  ·subst e2;exact O.rf _
  ·exact O.tr _ _ _ h (u i (j - 1) (by omega) (by omega))
 ·exact u i j hij (by omega)
theorem Pm.size {p:Array Nat}(h:Pm n p):p.size=n:=by have:=h.length_eq;rw[Array.length_toList,zbv4] at this;exact this
theorem zau2 (O:Ord lt) (hn:0<n) {p:Array Nat}(h:Pm n p):∀ f m,1<=m->Up lt p m->KW lt n (fun r=>m<=r/\r<=m+f/\Up lt p r/\(r<m+f->lt (gp p r) (gp p (r - 1))=true)) (kas_asc p f m)
 | 0,m,_,u=>⟨zbq9 _,zbq9 _,u,fun z=>absurd z (zbw4 _)⟩
 | f+1,m,hm,u=>by
  refine⟨h.low hn _,h.low hn _,?_⟩
  dsimp only
  cases e:lt (p.getD m 0) (p.getD (m - 1) 0) with
  | true=>rw[if_pos rfl];exact⟨zbq9 _,zbw6 _ _,u,fun _=>e⟩
  | false=>
   rw[if_neg (by decide)]
   exact KW.mono (fun r hr=>⟨by omega,by omega,hr.2.2.1,fun z=>hr.2.2.2 (by omega)⟩) (zau2 O hn h f (m+1) (by omega) (u.snoc O hm e))
def Al (lt:Nat->Nat->Bool) (p:Array Nat) (m q:Nat):Prop:=∀ i j,m - (q+1)<=i->i<=j->j<m->lt (gp p j) (gp p i)=false
theorem Dn.al_rev (O:Ord lt) {p:Array Nat}{m q:Nat}(hm:m<=p.size) (hq:q+1<=m) (d:Dn lt p m) (al:Al lt p m q):Dn lt (kas_rev p (m - (q+1)) m) m:=fun i j hij hj=>by
 rw[zq4 hm,zq4 hm]
 by_cases ci:m - (q+1)<=i/\i<m
 ·rw[if_pos ci,if_pos ⟨by omega,hj⟩]
  exact al _ _ (by omega) (by omega) (by omega)
 ·rw[if_neg ci]
  split
  ·exact d i _ (by omega) (by omega)
  ·exact d i j hij hj
theorem zab1 (O:Ord lt) (hn:0<n):∀ f (p:Array Nat) m q,Pm n p->m+f<=n->q+1<=m->Dn lt p m->Al lt p m q->KW lt n (fun r=>Pm n r.1/\m<=r.2.1/\r.2.1<=m+f/\r.2.2+1<=r.2.1/\Dn lt r.1 r.2.1/\Al lt r.1 r.2.1 r.2.2) (kas_desc f p m q)
 | 0,p,m,q,h,hf,hq,d,al=>⟨h,zbq9 _,zbq9 _,hq,d,al⟩
 | f+1,p,m,q,h,hf,hq,d,al=>by
  have hz:=h.size
  refine⟨h.low hn _,h.low hn _,?_⟩
  dsimp only
  cases e:lt (p.getD m 0) (p.getD (m - 1) 0) with
  | true=>
   rw[if_pos rfl]
   have al0:∀ p':Array Nat,Al lt p' (m+1) 0:=fun p' i j h1 h2 h3=>by
    have:i=j:=by omega
    subst this;exact O.rf _
   split
   ·rename_i q0
    refine KW.mono (fun r hr=>⟨hr.1,by omega,by omega,hr.2.2.2⟩) (zab1 O hn f _ (m+1) 0 (h.rev _ _) (by omega) (by omega) ?_ (al0 _))
    refine (d.al_rev O (by omega) hq al).snoc O (by omega) ?_
    rw[zq4 (by omega),zq4 (by omega),if_pos (by omega),if_neg (by omega),show m - (q+1)+m - 1 - (m - 1)=m - (q+1) by omega]
    exact O.tr _ _ _ (O.as _ _ e) (d _ _ (by omega) (by omega))
   ·exact KW.mono (fun r hr=>⟨hr.1,by omega,by omega,hr.2.2.2⟩) (zab1 O hn f p (m+1) 0 h (by omega) (by omega) (d.snoc O (by omega) (O.as _ _ e)) (al0 _))
  | false=>
   rw[if_neg (by decide)]
   refine⟨h.low hn _,h.low hn _,?_⟩
   dsimp only
   cases e2:lt (p.getD (m - 1) 0) (p.getD m 0) with
   | true=>rw[if_pos rfl];exact⟨h,zbq9 _,zbw6 _ _,hq,d,al⟩
   | false=>
    rw[if_neg (by decide)]
    refine KW.mono (fun r hr=>⟨hr.1,by omega,by omega,hr.2.2.2⟩) (zab1 O hn f p (m+1) (q+1) h (by omega) (by omega) (d.snoc O (by omega) e2) ?_)
    intro i j h1 h2 h3
    by_cases ej:j=m
    ·subst ej
     by_cases ei:i=j
     ·subst ei;exact O.rf _
     ·exact O.tr _ _ _ (al i (j - 1) (by omega) (by omega) (by omega)) e
    ·exact al i j (by omega) h2 (by omega)
theorem Dn.rev {p:Array Nat}{m:Nat}(hm:m<=p.size) (d:Dn lt p m):Up lt (kas_rev p 0 m) m:=fun i j hij hj=>by
 rw[zq4 hm,zq4 hm,if_pos (by omega),if_pos (by omega)]
 exact d _ _ (by omega) (by omega)
theorem zaw8 (O:Ord lt) (hn:0<n) {m:Nat}{p:Array Nat}(h:Pm n p) (hm:m<=n) (m1:1<=m) (d:Dn lt p m):KW lt n (fun x=>Pm n x.2/\1<=x.1/\x.1<=n/\Up lt x.2 x.1) (kas_tail3 m n p):=
 KW.bd (KW.mono (fun r hr=>⟨h.rev 0 m,by omega,by omega,hr.2.2.1⟩) (zau2 O hn (h.rev 0 m) (n - m) m m1 (d.rev (by rw[h.size];exact hm))))
theorem zax1 (O:Ord lt) (hn:0<n) {m:Nat}{p:Array Nat}(h:Pm n p) (hm:m+1<=n) (d:Dn lt p (m+1)):KW lt n (fun x=>Pm n x.2/\1<=x.1/\x.1<=n/\Up lt x.2 x.1) (kas_descPart m n p):=by
 refine KW.bd (KW.mono (fun r hr=>?_) (zab1 O hn (n - (m+1)) p (m+1) 0 h (by omega) (by omega) d fun i j h1 h2 h3=>?_))
 ·obtain⟨r1,r2,r3,r4,r5,r6⟩:=hr
  split
  ·exact zaw8 O hn (r1.rev _ _) (by omega) (by omega) (r5.al_rev O (by rw[Pm.size r1];omega) r4 r6)
  ·exact zaw8 O hn r1 (by omega) (by omega) r5
 ·have:i=j:=by omega
  subst this;exact O.rf _
theorem zbe1 (O:Ord lt) (hn:0<n) {p:Array Nat}(h:Pm n p):KW lt n (fun x=>Pm n x.2/\1<=x.1/\x.1<=n/\Up lt x.2 x.1) (kas_count n p):=by
 have u1:Up lt p 1:=fun i j h1 h2=>by
  have:i=j:=by omega
  subst this;exact O.rf _
 refine KW.bd (KW.mono (fun r hr=>?_) (zau2 O hn h (n - 1) 1 (zbq9 _) u1))
 obtain⟨r1,r2,r3,r4⟩:=hr
 by_cases c:(r==n)=true
 ·rw[if_pos c]
  exact⟨h,r1,by omega,r3⟩
 ·rw[if_neg c]
  have rn:r<n:=by
   have:r≠n:=fun z=>c (by rw[z];exact beq_self_eq_true n)
   omega
  by_cases c2:r>1
  ·rw[if_pos c2]
   refine⟨h.low hn _,h.low hn _,?_⟩
   dsimp only
   cases e:lt (p.getD 0 0) (p.getD (r - 1) 0) with
   | true=>rw[if_pos rfl];exact⟨h,r1,by omega,r3⟩
   | false=>
    rw[if_neg (by decide)]
    have hz:r<=p.size:=by rw[Pm.size h];omega
    have st:=r4 (by omega)
    refine zax1 O hn (h.rev 0 r) (by omega) (Dn.snoc O (fun i j hij hj=>?_) (by omega) ?_)
    ·rw[zq4 hz,zq4 hz,if_pos (by omega),if_pos (by omega)]
     exact r3 _ _ (by omega) (by omega)
    ·rw[zq4 hz,zq4 hz,if_pos (by omega),if_neg (by omega),show 0+r - 1 - (r - 1)=0 by omega]
     exact O.tr _ _ _ (O.as _ _ st) e
  ·rw[if_neg c2]
   have r0:r=1:=by omega
   subst r0
   have st:=r4 (by omega)
   exact zax1 O hn h (by omega) (Dn.snoc O (fun i j hij hj=>by
    have:i=j:=by omega
    subst this;exact O.rf _) (zbq9 _) (O.as _ _ st))
theorem zad1 (O:Ord lt) (hn:0<n) {p:Array Nat}(h:Pm n p) (k:Nat) (u:Up lt p k):∀ f l r,l<=r->r<=k->r<=l+f->(∀ i,i<l->lt (gp p k) (gp p i)=false)->(∀ i,r<=i->i<k->lt (gp p k) (gp p i)=true) ->
  KW lt n (fun x=>x<=k/\(∀ i,i<x->lt (gp p k) (gp p i)=false)/\∀ i,x<=i->i<k->lt (gp p k) (gp p i)=true) (kas_place p k f l r)
 | 0,l,r,h1,h2,h3,a,b=>by
  have:r=l:=by omega
  subst this
  exact⟨h2,a,b⟩
 | f+1,l,r,h1,h2,h3,a,b=>by
  unfold kas_place
  by_cases c:l≥r
  ·rw[if_pos c]
   have:r=l:=by omega
   subst this
   exact⟨h2,a,b⟩
  ·rw[if_neg c]
   refine⟨h.low hn _,h.low hn _,?_⟩
   dsimp only
   cases e:lt (p.getD k 0) (p.getD ((l+r) / 2) 0) with
   | true=>
    rw[if_pos rfl]
    refine zad1 O hn h k u f l ((l+r) / 2) (by omega) (by omega) (by omega) a fun i hi hk=>?_
    cases e2:lt (gp p k) (gp p i) with
    | true=>rfl
    | false=>
     have:=O.tr _ _ _ (u ((l+r) / 2) i hi hk) (show lt (gp p k) (gp p i)=false from e2)
     rw[show lt (gp p k) (gp p ((l+r) / 2))=true from e] at this
     cases this
   | false=>
    rw[if_neg (by decide)]
    refine zad1 O hn h k u f ((l+r) / 2+1) r (by omega) h2 (by omega) (fun i hi=>?_) b
    exact O.tr _ _ _ (u i ((l+r) / 2) (by omega) (by omega)) e
theorem up_bub (O:Ord lt) {p:Array Nat}{k l:Nat}(hk:k<p.size) (u:Up lt p k) (hl:l<=k) (a:∀ i,i<l->lt (gp p k) (gp p i)=false) (b:∀ i,l<=i->i<k->lt (gp p k) (gp p i)=true):Up lt (bubble p k (k - l)) (k+1):=fun i j hij hj=>by
 rw[zbg4 hk hl,zbg4 hk hl]
 by_cases ci:i=l
 ·rw[if_pos ci]
  by_cases cj:j=l
  ·rw[if_pos cj];exact O.rf _
  ·rw[if_neg cj,if_pos (by omega)]
   exact O.as _ _ (b (j - 1) (by omega) (by omega))
 ·rw[if_neg ci]
  by_cases cj:j=l
  ·rw[if_pos cj,if_neg (by omega)]
   exact a i (by omega)
  ·rw[if_neg cj]
   by_cases di:l<i/\i<=k
   ·rw[if_pos di,if_pos (by omega)]
    exact u _ _ (by omega) (by omega)
   ·rw[if_neg di]
    by_cases dj:l<j/\j<=k
    ·rw[if_pos dj]
     exact u _ _ (by omega) (by omega)
    ·rw[if_neg dj]
     exact u _ _ hij (by omega)
theorem zbg5 (O:Ord lt) (hn:0<n):∀ f (p:Array Nat) k,Pm n p->k+f=n->Up lt p k->KW lt n (fun p'=>Pm n p'/\Up lt p' n) (kas_bin f p k)
 | 0,p,k,h,e,u=>by
  have:k=n:=by omega
  subst this
  exact⟨h,u⟩
 | f+1,p,k,h,e,u=>by
  refine KW.bd (KW.mono (fun l hl=>?_) (zad1 O hn h k u k 0 k (zbs4 _) (zbq9 _) (by omega) (fun i hi=>absurd hi (Nat.not_lt_zero _)) fun i h1 h2=>absurd h2 (by omega)))
  exact zbg5 O hn f _ (k+1) (h.bub _ _) (by omega) (up_bub O (by rw[Pm.size h];omega) u hl.1 hl.2.1 hl.2.2)
theorem zba2 (O:Ord lt) (hn:0<n):KW lt n (fun p=>Pm n p/\Up lt p n) (kas_sort n):=by
 have h0:Pm n (zbw7 (List.range n)):=List.Perm.refl _
 refine KW.bd (KW.mono (fun r hr=>?_) (zbe1 O hn h0))
 obtain⟨r1,r2,r3,r4⟩:=hr
 by_cases c:r.1<n
 ·rw[if_pos c,show max r.1 1=r.1 by omega]
  exact zbg5 O hn _ _ _ r1 (by omega) r4
 ·rw[if_neg c]
  have e:r.1=n:=by omega
  exact⟨r1,e▸r4⟩
end
end L2
set_option maxHeartbeats 2000000
namespace L2
open PySem PySem.Spec PyProof.Rows PySem.W
theorem zm8 {x y:Int×Int}:ltP x y=true↔x.1<y.1∨(x.1=y.1/\x.2<y.2):=by
 unfold ltP
 by_cases e:x.1=y.1
 ·rw[if_pos (beq_iff_eq.mpr e)]
  by_cases e2:x.2=y.2
  ·rw[if_pos (beq_iff_eq.mpr e2)]
   exact⟨(fun h=>by cases h),fun h=>by omega⟩
  ·rw[if_neg (fun h=>e2 (beq_iff_eq.mp h)),decide_eq_true_iff]
   exact⟨fun h=>.inr ⟨e,h⟩,fun h=>by omega⟩
 ·rw[if_neg (fun h=>e (beq_iff_eq.mp h)),decide_eq_true_iff]
  exact⟨fun h=>.inl h,fun h=>by omega⟩
theorem zy0 {x y:Int×Int}:ltP x y=false↔¬ (x.1<y.1∨(x.1=y.1/\x.2<y.2)):=by
 rw[← zm8]
 cases ltP x y<;>simp
theorem ord_P (xs:Nat->Int×Int):Ord (fun i j=>ltP (xs i) (xs j)) where
 as:=fun i j h=>by
  have h:=zm8.mp h
  exact zy0.mpr (by omega)
 tr:=fun i j k h1 h2=>by
  have h1:=zy0.mp h1
  have h2:=zy0.mp h2
  exact zy0.mpr (by omega)
section
variable {prog:Program}{w:World}{A:Around}{E:Value->Shared->Prop}{s:Shared}
theorem zaf2 {D:Addr}{vs:List Value}{xs:Nat->Int×Int}{P:PySem.Fin->Shared->Prop}(ho:s.heap.get? D=some (seqObj "list" vs.toArray 0)) (h64:vs.length<64)
  (H:∀ i,i<vs.length->TupI s.heap (vs.getD i Value.none) (xs i))
  (h:∀ (p:List Nat) (c:Nat) (hF:Heap),p.Perm (List.range vs.length)->p.Pairwise (fun i j=>ltP (xs j) (xs i)=false)->(∀ b o,b≠D->s.heap.get? b=some o->hF.get? b=some o)->hF.get? D=some (seqObj "list" (zbw7 (p.map fun i=>vs.getD i Value.none)) c)->P (.done (.ret .none)) { s with heap:=hF }) :
  wpAny (model prog w) A (Builtin.«list.sort» ⟨[.ref D],[]⟩) P E s:=by
 by_cases h2:vs.length<2
 ·refine zam2 ho h2 ?_
  obtain⟨c,hc⟩:=zs3 (vs:=vs) (out:=vs.toArray) ho
  refine h (List.range vs.length) c _ (List.Perm.refl _) ?_ (fun b o ne e=>zq0 ne e) ?_
  ·have:vs.length=0∨vs.length=1:=by omega
   rcases this with e|e<;>rw[e]
   ·exact List.Pairwise.nil
   ·exact List.pairwise_singleton _ _
  ·rw[hc]
   have e:(List.range vs.length).map (fun i=>vs.getD i Value.none)=vs:=by
    apply zbv2 (by simp)
    intro i h1 h2
    simp at h1 h2
    simp[h2]
   rw[e]
 ·have old:∀ v,v∈vs->∃ i,i<vs.length/\vs.getD i Value.none=v:=fun v hv=>by
   obtain⟨i,hi,e⟩:=List.mem_iff_getElem.mp hv
   exact⟨i,hi,by simp[hi,e]⟩
  have nD:∀ {v:Value}{x:Int×Int},TupI s.heap v x->TupI (midH s.heap D vs) v x:=fun {v x} z=>by
   obtain⟨a,o,t,u,n,e,e1,e2,e3⟩:=z
   refine⟨a,o,t,u,n,e,zau9 (fun q=>?_) e1,e2,e3⟩
   rw[q,ho] at e1
   cases e1
   have e2':Value.type "list"=Value.type "tuple":=e2
   exact absurd e2' (by decide)
  refine zax8 (κ:=tuples' true) (lt:=fun i j=>ltP (xs i) (xs j)) ho (by omega) h64 (fun Q q=>zba1 (s:={ s with heap:=midH s.heap D vs }) (fun v hv=>?_) (by omega) q) (fun i j C li lj q=>zbi8 (s:={ s with heap:=midH s.heap D vs }) (nD (H i li)) (nD (H j lj)) q) (zba2 (ord_P xs) (by omega)) fun p pz pR=>?_
  ·obtain⟨i,hi,rfl⟩:=old v hv
   exact⟨_,nD (H i hi)⟩
  ·obtain⟨c,hc⟩:=zs3 (vs:=vs) (out:=zbw7 (p.toList.map fun i=>vs.getD i Value.none)) ho
   refine h p.toList c _ pR.1 ?_ (fun b o ne e=>zq0 ne e) hc
   rw[zbu3]
   intro i j hi hj hij
   rw[Array.length_toList] at hi hj
   have:=pR.2 i j (Nat.le_of_lt hij) (by omega)
   unfold gp at this
   simpa [Array.getD,hi,hj] using this
theorem zaj2 {d:Addr}{es:Array DictEntry}{ep:Nat}{xs:Nat->Int×Int}{Q:Value->Shared->Prop}(lo:(d==sysModules)=false) (hh:A.handled=none) (x:RawD s.heap d es ep) (h64:es.size<64)
  (H:∀ i e,es[i]?=some e->TupI s.heap e.key (xs i))
  (h:∀ (h1 hF:Heap) (tk c:Nat) (p:List Nat) (vs:List Value),(∀ b o,s.heap.get? b=some o->h1.get? b=some o)->(∀ b o,h1.get? b=some o->hF.get? b=some o)->p.Perm (List.range es.size)->p.Pairwise (fun i j=>ltP (xs j) (xs i)=false)->vs=es.toList.map (·.key) ->
   hF.get? h1.objs.size=some (seqObj "list" (zbw7 (p.map fun i=>vs.getD i Value.none)) c)->Q (.ref h1.objs.size) { s with heap:=hF,toks:=tk }) :
  wpAny (model prog w) A (call (.builtin "sorted") [.ref d]) Q E s:=by
 have zl:es.size<=sizeLine:=by rw[sizeLine_eq];omega
 refine Calls.call_function_entry kind_sorted plain_sorted entry_sorted (args_sorted1 _) ?_
 unfold Builtin.«sorted»
 refine wpAny_bind (m:=checkCount "sorted" 1 1 _) (wpAny_pure (wpAny_bind (kdu_collect (A:=A.in1) (zaw3 lo) hh x zl fun h1 tk acc k1 it=>?_)))
 have len:acc.toList.length=es.size:=by rw[Array.length_toList];exact it.1
 have ev:acc.toList=es.toList.map (·.key):=by
  apply zbv2 (by rw[len,zbp5,Array.length_toList])
  intro i a1 a2
  rw[Array.length_toList] at a1
  obtain⟨e,e1,e2⟩:=it.2 i acc[i] (by simp[a1])
  simp only[Array.getElem_toList,List.getElem_map]
  rw[e2]
  obtain⟨q1,q2⟩:=Array.getElem?_eq_some_iff.mp e1
  rw[← q2]
 refine wpAny_bind (wpAny_newList ?_ (by rw[len];exact zl))
 have hD:(h1.push (seqObj "list" acc.toList.toArray 0)).get? h1.objs.size=some (seqObj "list" acc.toList.toArray 0):=zbr8 _ rfl
 show wpAny (model prog w) _ _ _ _ { s with heap:=h1.push (seqObj "list" acc.toList.toArray 0),toks:=tk }
 refine wpAny_bind (wpAny_holding (wpAny_call_entry slot_list_sort ⟨_,hD,rfl⟩ entry_list_sort (zaf2 (xs:=xs) (s:={ s with heap:=h1.push (seqObj "list" acc.toList.toArray 0),toks:=tk }) hD (by rw[len];exact h64) (fun i hi=>?_) fun p c hF pp po kF eF=>⟨_,rfl,?_⟩) (args_list_sort _)))
 ·rw[len] at hi
  have z:=(H i es[i] (by simp[hi])).to k1
  have e:acc.toList.getD i Value.none=es[i].key:=by rw[ev];simp[hi]
  rw[e]
  exact z.to fun b o q=>zbq1 _ q
 ·refine wpAny_pure ⟨_,rfl,h h1 hF tk c p acc.toList k1 (fun b o e=>kF b o (zbs3 (zbr4 e)) (zbq1 _ e)) (by rw[← len];exact pp) po ev eF⟩
end
section
variable {X:Cx}{K:zbp7}
def OrdK (ks:List (Int×Int)):Prop:=ks.Nodup/\ks.Pairwise (fun x y=>ltP x y=true)
@[irreducible] def rSoO (a:Addr) (H:Hp) (Q:VK):Prop:=∃ kvs:List ((Int×Int)×V),H a=some (.dT (kvs.map fun z=>(pK z.1,z.2)))/\kvs.length<64 /\
 ∀ p H' (bs:List Addr) (ks:List (Int×Int)),H p=none->Same H H'->ks.Perm (kvs.map (·.1))->OrdK ks->Paired (fun b x=>H' b=some (.tup [.int x.1,.int x.2])) bs ks->H' p=some (.lst (bs.map V.ref))->Q (.ref p) H'
def rSoOM:List V->Hp->VK->Prop:=fun xs H Q=>match xs with
 | [.ref p]=>rSoO p H Q
 | _=>False
theorem soO_rd {a:Addr}{H:Hp}{Q:VK}{kvs:List ((Int×Int)×V)}(h:H a=some (.dT (kvs.map fun z=>(pK z.1,z.2)))) (hl:kvs.length<64)
  (q:∀ p H' (bs:List Addr) (ks:List (Int×Int)),H p=none->Same H H'->ks.Perm (kvs.map (·.1))->OrdK ks->Paired (fun b x=>H' b=some (.tup [.int x.1,.int x.2])) bs ks->H' p=some (.lst (bs.map V.ref))->Q (.ref p) H'):rSoO a H Q:=by unfold rSoO;exact⟨kvs,h,hl,q⟩
theorem zai2 {ks:List (Int×Int)}(nd:ks.Nodup) (h:ks.Pairwise (fun x y=>ltP y x=false)):OrdK ks:=by
 refine⟨nd,?_⟩
 refine List.Pairwise.imp (fun {x y} z=>?_) (List.Pairwise.and nd h)
 have z2:=zy0.mp z.2
 refine zm8.mpr ?_
 have ne:¬ (x.1=y.1/\x.2=y.2):=fun w=>z.1 (Prod.ext w.1 w.2)
 omega
theorem cSortO (hc:X.calm=true):zl0 X (.builtin "sorted") rSoOM:=fun pins s σ H xs us Q I r h=>by
 unfold rSoOM at h
 split at h
 ·rename_i p
  unfold rSoO at h
  obtain⟨kvs,h1,h2,h3⟩:=h
  obtain⟨u1,rfl,rx⟩:=zy4 r
  cases rx
  obtain⟨zl,lo,ys,kt,o,es,ep,e1,e2,e3,e4,e5⟩:=dt_of I.hok h1
  have lk:ys.length=kvs.length:=by have:=Paired.length kt;rw[zbp5] at this;exact this.symm
  have le:es.size=kvs.length:=by rw[← Array.length_toList,e4,zbp5,lk]
  have at_:∀ i,(hi:i<kvs.length)->∃ b v,ys[i]?=some (pK kvs[i].1,b,v)/\H b=some (.tup [.int kvs[i].1.1,.int kvs[i].1.2]):=fun i hi=>by
   have hy:i<ys.length:=lk▸hi
   have z:=zn5 kt i (pK kvs[i].1,kvs[i].2) ys[i] (by simp[hi]) (by simp[hy])
   refine⟨ys[i].2.1,ys[i].2.2,?_,z.2.1⟩
   rw[zbp6 hy]
   have z1:pK kvs[i].1=ys[i].1:=z.1
   rw[z1]
  have ke:∀ i e,es[i]?=some e->∃ hi:i<kvs.length,∃ b v,ys[i]?=some (pK kvs[i].1,b,v)/\e.key=.ref b/\H b=some (.tup [.int kvs[i].1.1,.int kvs[i].1.2]):=fun i e q=>by
   obtain⟨q1,q2⟩:=Array.getElem?_eq_some_iff.mp q
   have hi:i<kvs.length:=le▸q1
   obtain⟨b,v,y1,y2⟩:=at_ i hi
   refine⟨hi,b,v,y1,?_,y2⟩
   rw[← Array.getElem?_toList,e4,zbq2,y1] at q
   simp only[Option.map_some,Option.some.injEq] at q
   rw[← q];rfl
  refine zaj2 (xs:=fun i=>((kvs.map (·.1))[i]?).getD (0,0)) lo (I.ok.hd hc) (d:=p) (es:=es) (ep:=ep) ⟨o,e1,e2,e3⟩ (by omega) (fun i e q=>?_) fun h' hF tk c pm vs k1 kF pp po ev eF=>?_
  ·obtain⟨hi,b,v,_,q2,q3⟩:=ke i e q
   obtain⟨_,its,rv,ob,b1,b2,n,b3⟩:=(show zg6 X.prog X.w H s.heap b (.tup [.int kvs[i].1.1,.int kvs[i].1.2]) from I.hok b _ q3)
   obtain⟨v1,v2,rfl,w1,w2⟩:=zaq8 rv
   obtain⟨t1,rfl⟩:=w1
   obtain⟨t2,rfl⟩:=w2
   have ex:((kvs.map (·.1))[i]?).getD (0,0)=kvs[i].1:=by simp[hi]
   rw[ex,q2]
   exact⟨b,ob,t1,t2,n,rfl,b1,b2,b3⟩
  ·have hp:p<s.heap.objs.size:=zbr4 e1
   have I1:Inv X pins σ H { s with heap:=h',toks:=tk }:=I.kept k1
   have fr:H h'.objs.size=none:=I1.fresh
   let as:List Addr:=pm.map fun i=>((ys[i]?).map (·.2.1)).getD 0
   have mem:∀ i,i∈pm->i<kvs.length:=fun i hi=>by have:=zbs1.mp (pp.mem_iff.mp hi);omega
   have vals:(pm.map fun i=>vs.getD i Value.none)=as.map Value.ref:=by
    rw[zbt1]
    refine zbu0 fun i hi=>?_
    have hi':=mem i hi
    have hes:i<es.size:=by omega
    obtain⟨_,b,v,y1,y2,_⟩:=ke i es[i] (by simp[hes])
    rw[ev]
    simp[hes,y1,y2]
   have rl:Vals (as.map V.ref) (as.map Value.ref):=by
    generalize as=l
    induction l with
    | nil=>exact .nil
    | cons a l ih=>exact .cons rfl ih
   have lz:as.length<=sizeLine:=by
    show (pm.map _).length<=_
    rw[zbp5,pp.length_eq,zbv4,sizeLine_eq];omega
   refine⟨.ref _,_,I1.laid (h':=hF) (t':=tk) (o:=.lst (as.map V.ref)) kF (zbq9 _) ?_,rfl,h3 _ _ as (pm.map fun i=>((kvs.map (·.1))[i]?).getD (0,0)) fr (Same.upd fr) ?_ (zai2 ?_ ?_) ?_ zb7⟩
   ·exact⟨by rw[zbp5];exact lz,as.map Value.ref,c,rl,by rw[eF,vals]⟩
   ·have e:(List.range kvs.length).map (fun i=>((kvs.map (·.1))[i]?).getD (0,0))=kvs.map (·.1):=by
     apply zbv2 (by simp)
     intro i a1 a2
     simp at a1
     simp[a1]
    have q:=(show pm.Perm (List.range kvs.length) from le▸pp).map fun i=>((kvs.map (·.1))[i]?).getD (0,0)
    rw[e] at q
    exact q
   ·have e:(List.range kvs.length).map (fun i=>((kvs.map (·.1))[i]?).getD (0,0))=kvs.map (·.1):=by
     apply zbv2 (by simp)
     intro i a1 a2
     simp at a1
     simp[a1]
    have q:=(show pm.Perm (List.range kvs.length) from le▸pp).map fun i=>((kvs.map (·.1))[i]?).getD (0,0)
    rw[e] at q
    refine q.nodup_iff.mpr ?_
    have nk:((kvs.map fun z=>(pK z.1,z.2)).map (·.1)).Nodup:=by
     have:(kvs.map fun z=>(pK z.1,z.2)).map (·.1)=ys.map (·.1):=by
      apply zbv2 (by rw[zbp5,zbp5,zbp5,lk])
      intro i a1 a2
      rw[zbp5,zbp5] at a1
      obtain⟨b,v,y1,_⟩:=at_ i a1
      have hy:i<ys.length:=lk▸a1
      rw[zbp6 hy] at y1
      simp only[List.getElem_map]
      rw[Option.some.inj y1]
     rw[this];exact e5.2
    rw[zbt1] at nk
    have:(kvs.map (Prod.fst∘fun z=>(pK z.1,z.2)))=(kvs.map (·.1)).map pK:=by rw[zbt1];rfl
    rw[this] at nk
    exact List.Pairwise.of_map pK (fun a b h e=>h (by rw[e])) nk
   ·rw[List.pairwise_map]
    exact po
   ·refine zs5 (by rw[zbp5,zbp5]) fun i a x q1 q2=>?_
    rw[zbq2] at q1 q2
    obtain⟨j,j1,j2⟩:=zbq7.mp q1
    rw[j1] at q2
    have hj:=mem j (zbq0 j1)
    obtain⟨b,v,y1,y2⟩:=at_ j hj
    rw[y1] at j2
    have j3:b=a:=j2
    have ex:kvs[j].1=x:=by simpa [hj] using q2
    rw[← j3,← ex]
    exact (Same.upd fr) b _ y2
 ·exact h.elim
end
end L2
set_option maxHeartbeats 4000000
namespace L2
open PySem PySem.Spec PyProof.Rows
section
variable {X:Cx}{K:zbp7}{H:Hp}{Q:VK}
end
section
variable {X:Cx}{pins:List (Addr×Obj)}{σ:St}{H:Hp}{s:Shared}
end
end L2
set_option maxHeartbeats 4000000
namespace L2
open PySem PySem.Spec PyProof.Rows
mutual
inductive ShV (H:Hp):V->PyData->Prop
 | non:ShV H .non .none
 | bl (b:Bool):ShV H (.bl b) (.bool b)
 | int (i:Int):ShV H (.int i) (.int i)
 | str (x:Str):ShV H (.str x) (.str x)
 | lst {a:Addr}{xs:List V}{ds:List PyData}:H a=some (.lst xs)->ShL H xs ds->ShV H (.ref a) (.list ds)
 | tup {a:Addr}{xs:List V}{ds:List PyData}:H a=some (.tup xs)->ShL H xs ds->ShV H (.ref a) (.tuple ds)
inductive ShL (H:Hp):List V->List PyData->Prop
 | nil:ShL H [] []
 | cons {x:V}{d:PyData}{xs:List V}{ds:List PyData}:ShV H x d->ShL H xs ds->ShL H (x :: xs) (d :: ds)
end
section
variable {X:Cx}{pins:List (Addr×Obj)}{σ:St}{H H':Hp}{s:Shared}{Q:VK}
mutual
theorem ShV.same {v:V}{d:PyData}(h:ShV H v d) (k:Same H H'):ShV H' v d:=match h with
 | .non=>.non
 | .bl b=>.bl b
 | .int i=>.int i
 | .str x=>.str x
 | .lst e l=>.lst (k _ _ e) (l.same k)
 | .tup e l=>.tup (k _ _ e) (l.same k)
theorem ShL.same {xs:List V}{ds:List PyData}(h:ShL H xs ds) (k:Same H H'):ShL H' xs ds:=match h with
 | .nil=>.nil
 | .cons a b=>.cons (a.same k) (b.same k)
end
theorem ShL.len {xs:List V}{ds:List PyData}(h:ShL H xs ds):xs.length=ds.length:=match h with
 | .nil=>rfl
 | .cons _ b=>by rw[zbq5,zbq5,b.len]
mutual
theorem ShV.reads (I:Inv X pins σ H s) {v:V}{d:PyData}{u:Value}(h:ShV H v d) (r:RelV v u):∃ as,Reads s.heap u d as:=match h with
 | .non=>by cases (show u=Value.none from r);exact⟨_,.none⟩
 | .bl b=>by cases (show u=Value.bool b from r);exact⟨_,.bool b⟩
 | .int i=>by obtain⟨t,q⟩:=(show ∃ t,u=Value.int i t from r);cases q;exact⟨_,.int i t⟩
 | .str x=>by obtain⟨t,q⟩:=(show ∃ t,u=Value.str x t from r);cases q;exact⟨_,.str x t⟩
 | .lst (a:=a) (xs:=xs) e l=>by
  cases (show u=Value.ref a from r)
  obtain⟨_,us,n,rv,h1⟩:=(show zg6 X.prog X.w H s.heap a (.lst xs) from I.hok a _ e)
  obtain⟨as,ra⟩:=l.reads I rv
  exact⟨_,.list h1 rfl rfl (by simpa using ra)⟩
 | .tup (a:=a) (xs:=xs) e l=>by
  cases (show u=Value.ref a from r)
  obtain⟨_,us,rv,o,h1,h2,n,h3⟩:=(show zg6 X.prog X.w H s.heap a (.tup xs) from I.hok a _ e)
  obtain⟨as,ra⟩:=l.reads I rv
  exact⟨_,.tuple h1 h2 h3 (by simpa using ra)⟩
theorem ShL.reads (I:Inv X pins σ H s) {xs:List V}{ds:List PyData}{us:List Value}(h:ShL H xs ds) (r:Vals xs us):∃ as,ReadsAll s.heap us ds as:=match h,r with
 | .nil,.nil=>⟨_,.nil⟩
 | .cons a b,.cons r1 r2=>by
  obtain⟨as,ra⟩:=a.reads I r1
  obtain⟨bs,rb⟩:=b.reads I r2
  exact⟨_,.cons ra rb⟩
end
structure zl1 (d:PyData) (k m:Nat):Prop where
 ok:d.showable=true
 nd:d.hasDict=false
 dp:d.depth<=k
 ln:d.shown.length<=m
theorem zl1.up {d:PyData}{k m k' m':Nat}(h:zl1 d k m) (h1:k<=k') (h2:m<=m'):zl1 d k' m':=⟨h.ok,h.nd,zbt7 h.dp h1,zbt7 h.ln h2⟩
theorem zac1 {k m:Nat}:∀ {ds:List PyData},(∀ d∈ds,zl1 d k m)->PyData.showableAll ds=true/\PyData.hasDictAll ds=false/\PyData.depthAll ds<=k/\piled (PyData.shownAll ds)<=ds.length*(m+2)
 | [],_=>⟨rfl,rfl,zbs4 _,by simp[PyData.shownAll,piled]⟩
 | d :: ds,h=>by
  have h0:=h d (.head _)
  obtain⟨a1,a2,a3,a4⟩:=zac1 (ds:=ds) fun x hx=>h x (.tail _ hx)
  refine⟨by simp[PyData.showableAll,h0.ok,a1],by simp[PyData.hasDictAll,h0.nd,a2],?_,?_⟩
  ·have:=h0.dp
   simp only[PyData.depthAll]
   omega
  ·have:=h0.ln
   simp only[PyData.shownAll,piled_cons,zbq5,Nat.succ_mul]
   omega
theorem zv5:∀ (ts:List Str) (k:Nat) (acc:Str),(textFrom k acc ts).length<=acc.length+piled ts
 | [],_,acc=>by simp[textFrom,piled]
 | t :: ts,k,acc=>by
  have ih:=zv5 ts (k+1) (acc++(if k>0 then ", " else "":String)++t)
  have e:(acc++(if k>0 then ", " else "":String)++t).length=acc.length+(if k>0 then 2 else 0)+t.length:=by
   rw[strLen_append,strLen_append]
   congr 2
   split<;>rfl
  rw[piled_cons]
  show (textFrom (k+1) _ ts).length<=_
  rw[e] at ih
  have e2:(if k>0 then 2 else 0)<=2:=by split<;>omega
  omega
theorem zl1.list {ds:List PyData}{k m:Nat}(h:∀ d∈ds,zl1 d k m):zl1 (.list ds) (k+1) (ds.length*(m+2)+2):=by
 obtain⟨a1,a2,a3,a4⟩:=zac1 h
 refine⟨by simpa [PyData.showable] using a1,by simpa [PyData.hasDict] using a2,by simp only[PyData.depth];omega,?_⟩
 have:=zv5 (PyData.shownAll ds) 0 "["
 have e1:((("[":String):Str)).length=1:=rfl
 have e2:((("]":String):Str)).length=1:=rfl
 simp only[PyData.shown,listText,strLen_append]
 omega
theorem zl1.tuple {ds:List PyData}{k m:Nat}(h:∀ d∈ds,zl1 d k m):zl1 (.tuple ds) (k+1) (ds.length*(m+2)+4):=by
 obtain⟨a1,a2,a3,a4⟩:=zac1 h
 refine⟨by simpa [PyData.showable] using a1,by simpa [PyData.hasDict] using a2,by simp only[PyData.depth];omega,?_⟩
 have e1:((("(":String):Str)).length=1:=rfl
 have e3:((if (PyData.shownAll ds).length==1 then ",)" else ")":String):Str).length<=2:=by split<;>decide
 have e4:(Str.join ", " (PyData.shownAll ds)).length<=piled (PyData.shownAll ds):=by
  by_cases z:PyData.shownAll ds=[]
  ·rw[z];decide
  ·have:=join_length_add _ z;omega
 simp only[PyData.shown,tupleText,strLen_append]
 omega
theorem zl1.int {i:Int}(h:-(10 ^ 100)<=i) (h':i<=10 ^ 100):zl1 (.int i) 0 1921:=by
 have hl:i.natAbs.log2<1920:=by
  by_cases z:i.natAbs=0
  ·rw[z];decide
  ·rw[Nat.log2_lt z]
   have h1:i.natAbs<=10 ^ 100:=by omega
   exact Nat.lt_of_le_of_lt h1 (by decide +kernel)
 exact⟨by simpa [PyData.showable] using hl,rfl,by simp[PyData.depth],by simpa only [PyData.shown] using PyProof.Rows.int_text_len_1921 hl⟩
theorem zl1.non:zl1 .none 0 4:=⟨rfl,rfl,by simp[PyData.depth],by decide⟩
theorem zl1.bl {b:Bool}:zl1 (.bool b) 0 5:=by cases b<;>exact⟨rfl,rfl,by simp[PyData.depth],by decide⟩
theorem ShL.of {xs:List V}(f:V->PyData) (h:∀ x∈xs,ShV H x (f x)):ShL H xs (xs.map f):=by
 induction xs with
 | nil=>exact .nil
 | cons x xs ih=>exact .cons (h x (.head _)) (ih fun y hy=>h y (.tail _ hy))
end
end L2
set_option maxHeartbeats 4000000
namespace L2
open PySem PySem.Spec PyProof.Rows
mutual
def sml:PyData->Bool
 | .none | .bool _ | .int _ | .str _=>true
 | .list xs | .tuple xs=>decide (xs.length<=1000)&&zz5 xs
 | .dict _=>false
def zz5:List PyData->Bool
 | []=>true
 | x :: xs=>sml x&&zz5 xs
end
theorem zp1:∀ {ds:List PyData},(∀ d∈ds,sml d=true)->zz5 ds=true
 | [],_=>rfl
 | d :: ds,h=>by simp[zz5,h d (.head _),zp1 fun x hx=>h x (.tail _ hx)]
theorem zz6:∀ {ds:List PyData},zz5 ds=true->∀ d∈ds,sml d=true
 | [],_,d,h=>by cases h
 | x :: ds,h,d,hd=>by
  simp only[zz5,zbr3] at h
  rcases zbq8.mp hd with rfl|hd
  ·exact h.1
  ·exact zz6 h.2 d hd
section
variable {H H':Hp}{K:zbp7}{Q:VK}
theorem ShL.idx:∀ {xs:List V}{ds:List PyData},xs.length=ds.length->(∀ (i:Nat) x d,xs[i]?=some x->ds[i]?=some d->ShV H x d)->ShL H xs ds
 | [],[],_,_=>.nil
 | [],_ :: _,h,_=>by simp at h
 | _ :: _,[],h,_=>by simp at h
 | x :: xs,d :: ds,h,k=>.cons (k 0 x d rfl rfl) (ShL.idx (by simpa using h) fun i y e h1 h2=>k (i+1) y e (by simpa using h1) (by simpa using h2))
theorem ShL.get:∀ {xs:List V}{ds:List PyData}(_:ShL H xs ds) (i:Nat) (x:V),xs[i]?=some x->∃ d,ds[i]?=some d/\ShV H x d
 | _,_,.nil,i,x,e=>by simp at e
 | _,_,.cons a b,0,x,e=>by cases (show some _=some x from e);exact⟨_,rfl,a⟩
 | _,_,.cons a b,i+1,x,e=>by
  obtain⟨d,e1,e2⟩:=ShL.get b i x (by simpa using e)
  exact⟨d,by simpa using e1,e2⟩
theorem ShL.ex {P:PyData->Prop}:∀ {xs:List V},(∀ x∈xs,∃ d,ShV H x d/\P d)->∃ ds,ShL H xs ds/\∀ d∈ds,P d
 | [],_=>⟨[],.nil,fun _ h=>by cases h⟩
 | x :: xs,h=>by
  obtain⟨d,h1,h2⟩:=h x (.head _)
  obtain⟨ds,h3,h4⟩:=ShL.ex (xs:=xs) fun y hy=>h y (.tail _ hy)
  refine⟨d :: ds,.cons h1 h3,fun e he=>?_⟩
  rcases zbq8.mp he with rfl|he
  ·exact h2
  ·exact h4 e he
def Rda (H:Hp) (v:V) (k m:Nat):Prop:=∃ d,ShV H v d/\sml d=true/\zl1 d k m
theorem Rda.up {v:V}{k m k' m':Nat}(h:Rda H v k m) (h1:k<=k':=by omega) (h2:m<=m':=by omega):Rda H v k' m':=by obtain⟨d,a,b,c⟩:=h;exact⟨d,a,b,c.up h1 h2⟩
theorem Rda.int {i:Int}(h:-(10 ^ 100)<=i) (h':i<=10 ^ 100):Rda H (.int i) 0 1921:=⟨_,.int i,rfl,zl1.int h h'⟩
theorem Rda.non:Rda H .non 0 1921:=⟨_,.non,rfl,zl1.non.up (by omega) (by omega)⟩
theorem Rda.bl {b:Bool}:Rda H (.bl b) 0 1921:=⟨_,.bl b,rfl,zl1.bl.up (by omega) (by omega)⟩
theorem Rda.lst {a:Addr}{xs:List V}{k m:Nat}(e:H a=some (.lst xs)) (l:xs.length<=1000) (h:∀ x∈xs,Rda H x k m):Rda H (.ref a) (k+1) (xs.length*(m+2)+4):=by
 obtain⟨ds,h1,h2⟩:=ShL.ex (P:=fun d=>sml d=true/\zl1 d k m) h
 have hl:=h1.len
 refine⟨.list ds,.lst e h1,?_,?_⟩
 ·simp only[sml,zbr3,decide_eq_true_eq]
  exact⟨by omega,zp1 fun d hd=>(h2 d hd).1⟩
 ·have:=zl1.list (ds:=ds) (k:=k) (m:=m) fun d hd=>(h2 d hd).2
  rw[hl]
  exact this.up (zbq9 _) (by omega)
theorem Rda.tup {a:Addr}{xs:List V}{k m:Nat}(e:H a=some (.tup xs)) (l:xs.length<=1000) (h:∀ x∈xs,Rda H x k m):Rda H (.ref a) (k+1) (xs.length*(m+2)+4):=by
 obtain⟨ds,h1,h2⟩:=ShL.ex (P:=fun d=>sml d=true/\zl1 d k m) h
 have hl:=h1.len
 refine⟨.tuple ds,.tup e h1,?_,?_⟩
 ·simp only[sml,zbr3,decide_eq_true_eq]
  exact⟨by omega,zp1 fun d hd=>(h2 d hd).1⟩
 ·have:=zl1.tuple (ds:=ds) (k:=k) (m:=m) fun d hd=>(h2 d hd).2
  rw[hl]
  exact this
def isD (n:String):PyData->Bool
 | .none=>false
 | .bool _=>n=="bool" || n=="int"
 | .int _=>n=="int"
 | .str _=>n=="str"
 | .list _=>n=="list"
 | .tuple _=>n=="tuple"
 | .dict _=>n=="dict"
theorem zk2 {v:V}{d:PyData}{n:String}(h:ShV H v d) (hn:n="int"∨n="bool"∨n="list"∨n="tuple") (q:Q (.bl (isD n d)) H):zq9 K v (.ty n) H Q:=by
 rcases hn with rfl|rfl|rfl|rfl<;>cases h
 all_goals first
  | exact zbm9 q (by rfl)
  | exact zx8 q (by rfl)
  | exact zab4 q (by rfl)
  | exact zbi9 q (by rfl)
  | (rename_i e l;exact zaw2 e q (by rfl))
  | (rename_i e l;exact zat3 e q (by rfl))
end
theorem za6 {X:Cx}{e:Expr}{te:TE}(h:PE X e te):PEI X e te:=by unfold PEI;exact h
end L2
set_option maxHeartbeats 4000000
namespace L2
open PySem PySem.Spec PyProof.Rows
section
variable {X:Cx}{K:zbp7}{H:Hp}{Q:VK}
end
end L2
set_option maxHeartbeats 4000000
namespace L2
open PySem PySem.Spec PyProof.Rows PySem.W
section
variable {X:Cx}{K:zbp7}{H:Hp}{Q:VK}
@[irreducible] def rDNE (H:Hp) (Q:VK):Prop:=(∀ p H',H p=none->Same H H'->H' p=some (.dT [])->Q (.ref p) H')∨∀ p H',H p=none->Same H H'->H' p=some (.dK [])->Q (.ref p) H'
def tDNE:TE:=fun _ H Q=>rDNE H Q
theorem zy7 {pos:Pos}:PE X (.Dict [] [] pos) tDNE:=fun pins s σ H Q I h=>by
 unfold tDNE rDNE at h
 rcases h with h|h
 ·exact zbc3 (pos:=pos) pins s σ H Q I fun p hp=>h p _ hp (Same.upd hp) zb7
 ·exact zbb4 (pos:=pos) pins s σ H Q I fun p hp=>h p _ hp (Same.upd hp) zb7
theorem zbh7 (q:∀ p H',H p=none->Same H H'->H' p=some (.dT [])->Q (.ref p) H'):rDNE H Q:=by unfold rDNE;exact .inl q
theorem zan1 (q:∀ p H',H p=none->Same H H'->H' p=some (.dK [])->Q (.ref p) H'):rDNE H Q:=by unfold rDNE;exact .inr q
theorem zai1 {a:Addr}{P:Prop}{kvs:List (Key×V)}(e:H a=some (.dK kvs)) (p:P):rIsD a H P:=by unfold rIsD;exact⟨.inl ⟨kvs,.inl e⟩,p⟩
theorem zai4 {a:Addr}{i:Int}{z:V}{kvs:List (Key×V)}(e:H a=some (.dK kvs)) (q:Q ((valV kvs (.inl i)).getD z) H):rDG2 a (.int i) z H Q:=by
 unfold rDG2
 exact⟨_,DGet.k (k:=.inl i) e,q⟩
theorem zaw6 {a:Addr}{i:Int}{v:V}{N:Hp->Prop}{kvs:List (Key×V)}(e:H a=some (.dK kvs)) (hl:kvs.length<sizeLine) (q:∀ H',Chg a H H'->H' a=some (.dK (putK kvs (.inl i) v))->N H'):rDP a (.int i) v H N:=by
 unfold rDP
 exact⟨_,DPut.k (k:=.inl i) e hl,q _ Chg.upd zb7⟩
def dI (kv:List (Int×Int)):List (Key×V):=kv.map fun z=>(.inl z.1,.int z.2)
def valI (kv:List (Int×Int)) (i:Int):Option Int:=(kv.find? fun z=>decide (z.1=i)).map (·.2)
theorem zaw9 (i:Int):∀ kv:List (Int×Int),valV (dI kv) (.inl i)=(valI kv i).map V.int
 | []=>rfl
 | z :: kv=>by
  by_cases e:z.1=i
  ·show valV (((.inl z.1:Key),V.int z.2) :: dI kv) (.inl i)=_
   rw[zr8 (by exact congrArg Sum.inl e)]
   unfold valI
   rw[zbv5,decide_eq_true e];rfl
  ·show valV (((.inl z.1:Key),V.int z.2) :: dI kv) (.inl i)=_
   rw[zr7 (by exact fun q=>e (Sum.inl.inj q)),zaw9 i kv]
   unfold valI
   rw[zbv5,decide_eq_false e]
def eqDI (ka kb:List (Int×Int)):Bool:=ka.length==kb.length&&ka.all fun z=>valI kb z.1==some z.2
theorem zai3 {A:Around}{s:Shared}{kb:List (Int×Int)}{ws:List (Key×Value)}(rb:KV (dI kb) ws):∀ {ka:List (Int×Int)}{vs:List (Key×Value)},KV (dI ka) vs->KeqHits A s ws vs (ka.all fun z=>valI kb z.1==some z.2)
 | [],vs,r=>by
  unfold KV dI at r
  cases r
  exact .nil
 | z :: ka,vs,r=>by
  unfold KV dI at r
  rw[zbt4] at r
  cases r with
  | @cons p q ps qs h t=>
   obtain⟨h1,h2⟩:=h
   obtain⟨k,v⟩:=q
   cases (show (Sum.inl z.1:Key)=k from h1)
   have val:=rb.val (.inl z.1)
   rw[zaw9] at val
   rw[List.all_cons]
   cases e:valI kb z.1 with
   | none=>
    rw[e] at val
    have:valueAt ws (.inl z.1)=none:=by
     cases w:valueAt ws (.inl z.1) with
     | none=>rfl
     | some y=>rw[w] at val;exact val.elim
    have f:((none:Option Int)==some z.2)=false:=rfl
    rw[f,Bool.false_and]
    exact .miss this
   | some n=>
    rw[e] at val
    obtain⟨y,ey,ry⟩:∃ y,valueAt ws (.inl z.1)=some y/\RelV (.int n) y:=by
     cases w:valueAt ws (.inl z.1) with
     | none=>rw[w] at val;exact val.elim
     | some y=>rw[w] at val;exact⟨y,rfl,val⟩
    have q:=zbh3 (A:=A) (s:=s) (show RelV (.int z.2) v from h2) ry rfl rfl
    have e2:eqV (.int z.2) (.int n)=(some n==some z.2):=by
     by_cases d:z.2=n
     ·subst d;simp[eqV]
     ·have d':¬ n=z.2:=fun x=>d x.symm
      show (z.2==n)=(some n==some z.2)
      rw[beq_eq_false_iff_ne.mpr d]
      exact (beq_eq_false_iff_ne.mpr fun x=>d' (Option.some.inj x)).symm
    rw[e2] at q
    exact .hit ey q (zai3 rb t)
@[irreducible] def rEqX (K:zbp7) (x y:V) (H:Hp) (Q:VK):Prop:=
 (∃ a b n c,x=.ref a/\y=.ref b/\n<=40/\EqR K H n (.ref a) (.ref b) c/\Q (.bl c) H) ∨
 (∃ a b ka kb,x=.ref a/\y=.ref b/\H a=some (.dK (dI ka))/\H b=some (.dK (dI kb))/\Q (.bl (eqDI ka kb)) H) ∨
 ∃ d e,ShV H x d/\ShV H y e/\d.canLay0=true/\e.canLay0=true/\d.depth<=40/\Q (.bl (PyData.eqv d e)) H
def zav7 (K:zbp7):R2:=fun x y H Q=>match x,y with
 | .int i,.int j=>Q (.bl (decide (i=j))) H
 | .bl i,.bl j=>Q (.bl (decide (i=j))) H
 | .str i,.str j=>Q (.bl (decide (i=j))) H
 | x,y=>rEqX K x y H Q
def rNeXM (K:zbp7):R2:=fun x y H Q=>zav7 K x y H fun v H'=>match v with
 | .bl b=>Q (.bl (!b)) H'
 | _=>False
theorem oEqX (hu:X.A.units+40<cLine):OpR X (compareOp .Eq) (zav7 X.K):=by
 intro pins s σ H x y v u Q I rx ry h
 unfold zav7 at h
 split at h
 ·exact op_eq pins s σ H _ _ v u Q I rx ry ⟨rfl,by rw[zt4 (f:=V.int) fun a b e=>V.int.inj e];exact h⟩
 ·exact op_eq pins s σ H _ _ v u Q I rx ry ⟨rfl,by rw[zt4 (f:=V.bl) fun a b e=>V.bl.inj e];exact h⟩
 ·exact op_eq pins s σ H _ _ v u Q I rx ry ⟨rfl,by rw[zt4 (f:=V.str) fun a b e=>V.str.inj e];exact h⟩
 ·unfold rEqX at h
  rcases h with ⟨a,b,n,c,rfl,rfl,hn,h1,h2⟩|⟨a,b,ka,kb,rfl,rfl,ea,eb,h⟩|⟨d,e,hd,he,cd,ce,dd,h⟩
  ·cases rx
   cases ry
   exact EqR.rc I h1 (A:=X.A) (by omega) _ _ _ _ ⟨.bl c,H,I,rfl,h2⟩
  ·cases rx
   cases ry
   obtain⟨_,sa,vs,ra,da⟩:=zaq5 I.hok ea
   obtain⟨_,sb,ws,rb,db⟩:=zaq5 I.hok eb
   refine keq_eq sa sb da db (by omega) (fun _=>zai3 rb ra) ⟨.bl (eqDI ka kb),H,I,?_,h⟩
   have la:vs.length=ka.length:=by rw[← ra.length];unfold dI;rw[zbp5]
   have lb:ws.length=kb.length:=by rw[← rb.length];unfold dI;rw[zbp5]
   rw[la,lb]
   rfl
  ·obtain⟨as,r1⟩:=hd.reads I rx
   obtain⟨bs,r2⟩:=he.reads I ry
   exact SeqAt.compareEq_reads r1 r2 cd ce (by have:=Nat.min_le_left d.depth e.depth;omega) ⟨.bl (PyData.eqv d e),H,I,rfl,h⟩
theorem oNeX (hu:X.A.units+40<cLine):OpR X (compareOp .NotEq) (rNeXM X.K):=by
 intro pins s σ H x y v u Q I rx ry h
 unfold rNeXM zav7 at h
 split at h
 ·exact op_ne pins s σ H _ _ v u Q I rx ry ⟨rfl,by rw[zt4 (f:=V.int) fun a b e=>V.int.inj e];exact h⟩
 ·exact op_ne pins s σ H _ _ v u Q I rx ry ⟨rfl,by rw[zt4 (f:=V.bl) fun a b e=>V.bl.inj e];exact h⟩
 ·exact op_ne pins s σ H _ _ v u Q I rx ry ⟨rfl,by rw[zt4 (f:=V.str) fun a b e=>V.str.inj e];exact h⟩
 ·unfold rEqX at h
  rcases h with ⟨a,b,n,c,rfl,rfl,hn,h1,h2⟩|⟨a,b,ka,kb,rfl,rfl,ea,eb,h⟩|⟨d,e,hd,he,cd,ce,dd,h⟩
  ·cases rx
   cases ry
   exact EqR.rcNe I h1 (A:=X.A) (by omega) _ _ _ _ ⟨.bl (!c),H,I,rfl,h2⟩
  ·cases rx
   cases ry
   obtain⟨_,sa,vs,ra,da⟩:=zaq5 I.hok ea
   obtain⟨_,sb,ws,rb,db⟩:=zaq5 I.hok eb
   refine keq_ne sa sb da db (by omega) (fun _=>zai3 rb ra) ⟨.bl (!eqDI ka kb),H,I,?_,h⟩
   have la:vs.length=ka.length:=by rw[← ra.length];unfold dI;rw[zbp5]
   have lb:ws.length=kb.length:=by rw[← rb.length];unfold dI;rw[zbp5]
   rw[la,lb]
   rfl
  ·obtain⟨as,r1⟩:=hd.reads I rx
   obtain⟨bs,r2⟩:=he.reads I ry
   exact SeqAt.compareNe_reads r1 r2 cd ce (by have:=Nat.min_le_left d.depth e.depth;omega) ⟨.bl (!PyData.eqv d e),H,I,rfl,h⟩
theorem zaz1 {a b:Addr}{n:Nat}{c:Bool}(h:EqR K H n (.ref a) (.ref b) c) (q:Q (.bl c) H) (hn:n<=40:=by decide):rEqX K (.ref a) (.ref b) H Q:=by unfold rEqX;exact .inl ⟨a,b,n,c,rfl,rfl,hn,h,q⟩
theorem zbh5 {a b:Addr}{ka kb:List (Int×Int)}(ea:H a=some (.dK (dI ka))) (eb:H b=some (.dK (dI kb))) (q:Q (.bl (eqDI ka kb)) H):rEqX K (.ref a) (.ref b) H Q:=by unfold rEqX;exact .inr (.inl ⟨a,b,ka,kb,rfl,rfl,ea,eb,q⟩)
theorem eqS_rd {x y:V}{d e:PyData}(hd:ShV H x d) (he:ShV H y e) (cd:d.canLay0=true) (ce:e.canLay0=true) (dd:d.depth<=40) (q:Q (.bl (PyData.eqv d e)) H):rEqX K x y H Q:=by unfold rEqX;exact .inr (.inr ⟨d,e,hd,he,cd,ce,dd,q⟩)
end
end L2
set_option maxHeartbeats 4000000
namespace L2
open PySem PySem.Spec PyProof.Rows PySem.W
theorem zat1 (l b:Addr) (x y:Int×Int) (t u t' u':Tok) (n n2:Nat) (dd dd2:Option Addr) (sl sl2:Array (Option Value)) :
  Meets (Builtin.«tuple.__lt__» ⟨[.ref l,.ref b],[]⟩)
   (fun A R s=>s.heap.get? l=some { cls:=.type "tuple",dict:=dd,data:=.seq #[.int x.1 t,.int x.2 u] n,slots:=sl }/\s.heap.get? b=some { cls:=.type "tuple",dict:=dd2,data:=.seq #[.int y.1 t',.int y.2 u'] n2,slots:=sl2 } /\
    R (.ok (.ret (.bool (ltP x y)))) s):=
 .of_wp fun prog w A R s h=>by
  obtain⟨hp,g,d,tk,os⟩:=s;obtain⟨hl,hb,h⟩:=h
  have f2:=AutoSeq1.sub_tuple_tuple
  wp_walk using wpAny_loadPart' hl,wpAny_loadPart' hb,wpAny_forIn_list _ (fun rest b s'=>b.1=none/\s'=⟨hp,g,d,tk,os⟩/\(rest=[(.int x.1 t,.int y.1 t'),(.int x.2 u,.int y.2 u')]∨(x.1=y.1/\rest=[(.int x.2 u,.int y.2 u')])∨(x.1=y.1/\x.2=y.2/\rest=[]))) _
  case turn=>
   rintro⟨p,q⟩ rest b s' ⟨hb',rfl,hz⟩
   rcases hz with hz|⟨e0,hz⟩|⟨_,_,hz⟩
   ·cases hz
    refine wpAny_bind (wpAny_eqBool_int ?_)
    cases e:(x.1==y.1)
    ·have h':R (Except.ok (Flow.ret (Value.bool (decide (x.1<y.1))))) ⟨hp,g,d,tk,os⟩:=by
      unfold ltP at h
      rw[if_neg (by rw[e];exact zbq6)] at h
      exact h
     simp only[Bool.not_false,if_true]
     refine wpAny_bind (wpAny_rule ?_)
     refine wpAny_bind ((lt_int (Q:=_) ?_:wpAny _ _ (compareOp .Lt _ _) _ _ _))
     wp_walk
     exact⟨_,rfl,h'⟩
    ·wp_walk
     exact⟨rfl,rfl,.inr (.inl ⟨by simpa using e,rfl⟩)⟩
   ·cases hz
    refine wpAny_bind (wpAny_eqBool_int ?_)
    cases e:(x.2==y.2)
    ·have h':R (Except.ok (Flow.ret (Value.bool (decide (x.2<y.2))))) ⟨hp,g,d,tk,os⟩:=by
      unfold ltP at h
      rw[if_pos (by rw[e0];exact beq_self_eq_true _),if_neg (by rw[e];exact zbq6)] at h
      exact h
     simp only[Bool.not_false,if_true]
     refine wpAny_bind (wpAny_rule ?_)
     refine wpAny_bind ((lt_int (Q:=_) ?_:wpAny _ _ (compareOp .Lt _ _) _ _ _))
     wp_walk
     exact⟨_,rfl,h'⟩
    ·wp_walk
     exact⟨rfl,rfl,.inr (.inr ⟨e0,by simpa using e,rfl⟩)⟩
   ·cases hz
  case fin=>
   rintro⟨b1,b2⟩ s' ⟨hb',rfl,hz⟩
   simp only at hb'
   subst hb'
   rcases hz with hz|⟨e0,hz⟩|⟨e0,e1,hz⟩
   ·cases hz
   ·cases hz
   ·have h':R (Except.ok (Flow.ret (Value.bool false))) ⟨hp,g,d,tk,os⟩:=by
     unfold ltP at h
     rw[if_pos (by rw[e0];exact beq_self_eq_true _),if_pos (by rw[e1];exact beq_self_eq_true _)] at h
     exact h
    wp_walk
    exact⟨_,rfl,h'⟩
  exact⟨rfl,rfl,.inl rfl⟩
section
variable {prog:Program}{w:World}{A:Around}{E:Value->Shared->Prop}{s:Shared}
theorem zbd8 {v v':Value}{x y:Int×Int}{Q:Value->Shared->Prop}(ha:TupI s.heap v x) (hb:TupI s.heap v' y) (hu:A.units<cLine) (h:Q (.bool (ltP x y)) s):wpAny (model prog w) A (compareOp .Lt v v') Q E s:=by
 obtain⟨a,⟨cls,dd,data,sl⟩,t,u,n,rfl,ho,hc,hd⟩:=ha
 obtain⟨b,⟨cls2,dd2,data2,sl2⟩,t',u',n2,rfl,ho2,hc2,hd2⟩:=hb
 simp only at hc hd hc2 hd2
 subst hc hd hc2 hd2
 exact richCompare_meets_room (op:=.Lt) ⟨_,ho,rfl⟩ ⟨_,ho2,rfl⟩ F.slot_tuple_lt F.entry_tuple_lt (F.args_tuple_lt_2 _ _) (zat1 a b x y t u t' u' n n2 dd dd2 sl sl2)
  ⟨ho,ho2,show Value.bool (ltP x y)≠Value.notImplemented/\Q (.bool (ltP x y)) s from ⟨(fun x=>nomatch x),h⟩⟩ hu
end
section
variable {X:Cx}{K:zbp7}{H:Hp}{Q:VK}
def pV (x:Int×Int):List V:=[.int x.1,.int x.2]
@[irreducible] def rLtA (a b:Addr) (H:Hp) (Q:VK):Prop:=∃ x y:Int×Int,H a=some (.tup (pV x))/\H b=some (.tup (pV y))/\Q (.bl (ltP x y)) H
def rLtXM:R2:=fun x y H Q=>match x,y with
 | .int i,.int j=>Q (.bl (decide (i<j))) H
 | .ref a,.ref b=>rLtA a b H Q
 | _,_=>False
theorem zas4 {pins:List (Addr×Obj)}{σ:St}{H:Hp}{s:Shared}{a:Addr}{x:Int×Int}(I:Inv X pins σ H s) (h:H a=some (.tup (pV x))):TupI s.heap (.ref a) x:=by
 obtain⟨_,its,rv,o,h1,h2,n,h3⟩:=(show zg6 X.prog X.w H s.heap a (.tup (pV x)) from I.hok a _ h)
 unfold pV at rv
 cases rv with
 | cons r1 rv=>
  cases rv with
  | cons r2 rv=>
   cases rv
   obtain⟨t,rfl⟩:=r1
   obtain⟨u,rfl⟩:=r2
   exact⟨a,o,t,u,n,rfl,h1,h2,h3⟩
theorem oLtX (hu:X.A.units+40<cLine):OpR X (compareOp .Lt) rLtXM:=by
 intro pins s σ H x y v u Q I rx ry h
 unfold rLtXM at h
 split at h
 ·exact op_lt pins s σ H _ _ v u Q I rx ry ⟨_,_,rfl,rfl,h⟩
 ·unfold rLtA at h
  obtain⟨x,y,ea,eb,h⟩:=h
  cases rx
  cases ry
  exact zbd8 (zas4 I ea) (zas4 I eb) (by omega) ⟨.bl (ltP x y),H,I,rfl,h⟩
 ·exact h.elim
theorem ltP_rd {a b:Addr}{x y:Int×Int}(ha:H a=some (.tup (pV x))) (hb:H b=some (.tup (pV y))) (q:Q (.bl (ltP x y)) H):rLtA a b H Q:=by unfold rLtA;exact⟨x,y,ha,hb,q⟩
@[irreducible] def rSlX (K:zbp7) (a:Addr) (lo hi:Option Int) (H:Hp) (Q:VK):Prop:=(∃ xs,SqL K H a xs/\∀ p H',H p=none->Same H H'->H' p=some (.lst (cutV xs lo hi))->Q (.ref p) H') ∨
 ∃ xs,SqT K H a xs/\¬ (HT.sIx xs.length 0 lo=0/\HT.sIx xs.length xs.length hi=xs.length)/\∀ p H',H p=none->Same H H'->H' p=some (.tup (cutV xs lo hi))->Q (.ref p) H'
def rSlXM (K:zbp7):V->Option Int->Option Int->Hp->VK->Prop:=fun x lo hi H Q=>match x with
 | .ref a=>rSlX K a lo hi H Q
 | _=>False
theorem slX:SlR X (rSlXM X.K):=by
 intro pins s σ H x v vl vu lo hi sl Q I rx hs pl pu h
 unfold rSlXM at h
 split at h
 ·unfold rSlX at h
  rcases h with ⟨xs,h1,q⟩|⟨xs,h1,h2,q⟩
  ·exact zbk2 pins s σ H _ v vl vu lo hi sl Q I rx hs pl pu ⟨_,xs,rfl,h1,fun p hp=>q p _ hp (Same.upd hp) zb7⟩
  ·exact sl_tup pins s σ H _ v vl vu lo hi sl Q I rx hs pl pu ⟨_,xs,rfl,h1,h2,fun p hp=>q p _ hp (Same.upd hp) zb7⟩
 ·exact h.elim
theorem zf9 {a:Addr}{xs:List V}{lo hi:Option Int}(h:SqL K H a xs) (q:∀ p H',H p=none->Same H H'->H' p=some (.lst (cutV xs lo hi))->Q (.ref p) H'):rSlX K a lo hi H Q:=by unfold rSlX;exact .inl ⟨xs,h,q⟩
theorem zat5 {a:Addr}{x y z:V}(h:H a=some (.tup [x,y,z])) (q:∀ p H',H p=none->Same H H'->H' p=some (.tup [x,y])->Q (.ref p) H'):rSlX K a none (some 2) H Q:=by
 unfold rSlX
 exact .inr ⟨[x,y,z],SqT.of h,(by decide:¬ (HT.sIx 3 0 none=0/\HT.sIx 3 3 (some 2)=3)),q⟩
theorem zn2 (hK:X.K=K) (hu:X.A.units+40<cLine):OpR X (compareOp .Eq) (zav7 K):=by subst hK;exact oEqX hu
theorem zac5 (hK:X.K=K) (hu:X.A.units+40<cLine):OpR X (compareOp .NotEq) (rNeXM K):=by subst hK;exact oNeX hu
theorem slXK (hK:X.K=K):SlR X (rSlXM K):=by subst hK;exact slX
theorem Wk.zipN {a b:Addr}{xs ys:List V}{n:Nat}{H1:Hp}(h:SqL K H1 a xs) (h':SqL K H1 b ys) (hx:n<=xs.length) (hy:n<=ys.length) (hn:xs.length=n∨ys.length=n):Wk (Itz K a b) n H1 fun i v H=>∃ p x y,v=.ref p/\H p=some (.tup [x,y])/\xs[i]?=some x/\ys[i]?=some y:=
 ⟨fun i H s hi=>⟨xs,ys,xs[i],ys[i],s.seq h,s.seq h',by simp,by simp⟩,fun H s=>⟨xs,ys,s.seq h,s.seq h',by omega⟩,fun i H v H' s _ y=>by
  obtain⟨p,x,y,rfl,y1,y2,y3,y4,y5⟩:=y
  exact⟨y2,p,x,y,rfl,y3,y4 xs (s.seq h),y5 ys (s.seq h')⟩⟩
end
end L2
set_option maxHeartbeats 4000000
namespace L2
open PySem PySem.Spec PyProof.Rows PySem.W
section
variable {X:Cx}
end
section
variable {X:Cx}{K:zbp7}{H:Hp}{Q:VK}
end
end L2
set_option maxHeartbeats 2000000
namespace L2
open PySem PySem.Spec PyProof.Rows
section
variable {X:Cx}{K:zbp7}
end
end L2
set_option maxHeartbeats 4000000
namespace L2
open PySem PySem.Spec PyProof.Rows PySem.W
section
variable {prog:Program}{w:World}{A:Around}{E:Value->Shared->Prop}{s:Shared}
end
section
variable {X:Cx}{K:zbp7}{H:Hp}{Q:VK}
end
end L2
namespace L2
end L2
set_option maxHeartbeats 2000000
namespace L2
open PySem PySem.Spec PyProof.Rows PySem.W
section
variable {X:Cx}{K:zbp7}
@[irreducible] def rMaxL (K:zbp7) (p:Addr) (H:Hp) (Q:VK):Prop:=∃ ns:List Int,SqL K H p (ns.map V.int)/\0<ns.length/\∀ M:Int,M∈ns->(∀ a∈ns,a<=M)->Q (.int M) H
def zbg7 (K:zbp7):List V->Hp->VK->Prop:=fun xs H Q=>match xs with
 | [.ref p]=>rMaxL K p H Q
 | [.int i,.int j]=>Q (.int (if j>i then j else i)) H
 | _=>False
theorem cMaxK (hK:X.K=K) (hc:X.calm=true):zl0 X (.builtin "max") (zbg7 K):=by
 subst hK
 intro pins s σ H xs us Q I r h
 unfold zbg7 at h
 split at h
 ·unfold rMaxL at h
  obtain⟨ns,h1,h2,h3⟩:=h
  obtain⟨u,rfl,rx⟩:=zy4 r
  cases rx
  obtain⟨its,r',pl,hz⟩:=I.list h1
  have hi:=zs8 r'
  obtain⟨ys,hx⟩:=hi.allInts.items
  have e1:ns=ys.toList.map (·.1):=by
   rw[← nums_intItems,← hx]
   exact (show numsOf its.toArray.toList=ns from hi.numsOf).symm
  have hs:0<ys.size:=by
   have z:ns.length=ys.size:=by
    conv=>lhs;rw[e1]
    rw[zbp5,Array.length_toList]
   omega
  have hl':s.heap.IsList _ (intItems ys):=hx▸pl.isList
  refine max_intList (I.ok.hd hc) hl' hs fun v h' tk hv hk=>?_
  obtain⟨t,rfl⟩:=intItems_at hv
  have best:=argBest_gt (numAt ys) (ys.size - 1)
  refine⟨.int _,H,I.kept hk,⟨t,rfl⟩,h3 _ ?_ fun a ha=>?_⟩
  ·rw[e1,numAt_eq]
   exact getD_mem (by rw[zbp5,Array.length_toList];omega)
  ·rw[e1] at ha
   obtain⟨j,hj,rfl⟩:=mem_getD ha
   rw[zbp5,Array.length_toList] at hj
   rw[← numAt_eq]
   exact best.2 j (by omega)
 ·exact zax6 hc pins s σ H _ us Q I r ⟨_,_,rfl,h⟩
 ·exact h.elim
end
section
variable {prog:Program}{w:World}{A:Around}{E:Value->Shared->Prop}{s:Shared}
end
section
variable {X:Cx}{K:zbp7}{tg:Expr}
end
end L2
set_option maxHeartbeats 2000000
namespace L2
open PySem PySem.Spec PyProof.Rows PySem.W
section
variable {X:Cx}{K:zbp7}
end
section
variable {K:zbp7}{g:TG}{tt:TT}{te:TE}{σ0:St}{H1:Hp}{Q:VK}
end
end L2
set_option maxHeartbeats 2000000
namespace L2
open PySem PySem.Spec PyProof.Rows PySem.W
section
variable {X:Cx}{K:zbp7}{tg:Expr}
end
section
variable {K:zbp7}{g:TG}{tb:TS}{D:Ends}{σ:St}{H:Hp}
end
end L2
set_option maxHeartbeats 2000000
namespace L2
open PySem PySem.Spec PyProof.Rows PySem.W
section
variable {prog:Program}{w:World}{A:Around}{E:Value->Shared->Prop}{s:Shared}
end
section
variable {X:Cx}{K:zbp7}
end
end L2
set_option maxHeartbeats 4000000
namespace L2
open PySem PySem.Spec PyProof.Rows
section
variable {X:Cx}{K:zbp7}{H:Hp}{Q:VK}
theorem zy8:∀ {rs:List Addr}{us:List Value},Vals (rs.map V.ref) us->us=rs.map Value.ref
 | [],us,h=>by cases h;rfl
 | r :: rs,us,h=>by
  cases h with
  | cons h1 h2=>
   have h1:_=Value.ref r:=h1
   rw[zbt4,← zy8 h2,h1]
end
section
variable {K:zbp7}{g:TG}{tb:TS}{D:Ends}{σ:St}{H:Hp}{R:It->Hp->Prop}
end
end L2
set_option maxHeartbeats 4000000
namespace L2
open PySem PySem.Spec PyProof.Rows
abbrev Pb:=SetTable.Probe
def advM (mask:Nat) (p:Pb):Pb:=
 if p.more>0 then { j:=p.j+1,more:=p.more - 1,i:=p.i,perturb:=p.perturb,dummy:=p.dummy }
 else { j:=(SetTable.leap mask p.i p.perturb).1,more:=SetTable.runEnd mask (SetTable.leap mask p.i p.perturb).1 - (SetTable.leap mask p.i p.perturb).1,i:=(SetTable.leap mask p.i p.perturb).1,perturb:=(SetTable.leap mask p.i p.perturb).2,dummy:=p.dummy }
def runS (mask:Nat) (a:Nat×Nat):Pb:={ j:=a.1,more:=SetTable.runEnd mask a.1 - a.1,i:=a.1,perturb:=a.2,dummy:=none }
def stp (mask:Nat) (h:Int):Nat->Pb
 | 0=>runS mask (SetTable.bits h % (mask+1),SetTable.bits h)
 | k+1=>advM mask (stp mask h k)
def wk (mask:Nat) (h:Int) (k:Nat):Nat:=(stp mask h k).j
def lps (mask:Nat) (h:Int):Nat->Nat×Nat
 | 0=>(SetTable.bits h % (mask+1),SetTable.bits h)
 | n+1=>SetTable.leap mask (lps mask h n).1 (lps mask h n).2
def runL (mask:Nat) (h:Int) (n:Nat):Nat:=SetTable.runEnd mask (lps mask h n).1 - (lps mask h n).1
def runA (mask:Nat) (h:Int):Nat->Nat
 | 0=>0
 | n+1=>runA mask h n+runL mask h n+1
theorem zaf8 (mask:Nat) (h:Int):∀ k,(stp mask h k).dummy=none
 | 0=>rfl
 | k+1=>by
  show (advM mask (stp mask h k)).dummy=none
  unfold advM
  split<;>exact zaf8 mask h k
theorem zau3 {mask:Nat}{h:Int}{n:Nat}(hn:stp mask h (runA mask h n)=runS mask (lps mask h n)):∀ r,r<=runL mask h n->stp mask h (runA mask h n+r)={ j:=(lps mask h n).1+r,more:=runL mask h n - r,i:=(lps mask h n).1,perturb:=(lps mask h n).2,dummy:=none }
 | 0,_=>hn
 | r+1,hr=>by
  have ih:=zau3 hn r (by omega)
  show advM mask (stp mask h (runA mask h n+r))=_
  rw[ih]
  unfold advM
  rw[if_pos (show runL mask h n - r>0 by omega)]
  rw[show runL mask h n - r - 1=runL mask h n - (r+1) by omega]
  rfl
theorem zbg6 (mask:Nat) (h:Int):∀ n,stp mask h (runA mask h n)=runS mask (lps mask h n)
 | 0=>rfl
 | n+1=>by
  have ih:=zau3 (zbg6 mask h n) (runL mask h n) (zbq9 _)
  show advM mask (stp mask h (runA mask h n+runL mask h n))=_
  rw[ih]
  unfold advM
  rw[if_neg (by show ¬ runL mask h n - runL mask h n>0;omega)]
  rfl
theorem zaa5 {mask:Nat}{h:Int}{n r:Nat}(hr:r<=runL mask h n):wk mask h (runA mask h n+r)=(lps mask h n).1+r:=by
 unfold wk
 rw[zau3 (zbg6 mask h n) r hr]
theorem zbl0 (mask:Nat) (h:Int) (n:Nat):runL mask h n<=9:=by
 unfold runL SetTable.runEnd
 split<;>omega
theorem zax9 (mask:Nat) (h:Int):∀ n,runA mask h n<=10*n
 | 0=>zbq9 _
 | n+1=>by
  have:=zax9 mask h n
  have:=zbl0 mask h n
  show runA mask h n+runL mask h n+1<=_
  omega
theorem zal4 (mask:Nat) (h:Int):∀ n,(lps mask h n).2=SetTable.bits h / 32 ^ n
 | 0=>by show SetTable.bits h=_;rw[Nat.pow_zero,Nat.div_one]
 | n+1=>by
  show (lps mask h n).2 / 32=_
  rw[zal4 mask h n,Nat.div_div_eq_div_mul,Nat.pow_succ]
theorem zbh2 {mask:Nat}(h:Int) (n:Nat):(lps mask h n).1<mask+1:=by
 cases n with
 | zero=>exact Nat.mod_lt _ (Nat.succ_pos _)
 | succ n=>exact Nat.mod_lt _ (Nat.succ_pos _)
theorem zbm5 (h:Int):SetTable.bits h<2 ^ 64:=by
 unfold SetTable.bits
 have h1:=Int.emod_lt_of_pos h (show (0:Int)<2 ^ 64 by decide)
 have h0:=Int.emod_nonneg h (show ((2:Int) ^ 64)≠0 by decide)
 omega
def itN (mask:Nat) (c:Nat):Nat->Nat
 | 0=>c
 | n+1=>(itN mask c n*5+1) % (mask+1)
theorem zam9 (mask:Nat) (h:Int):∀ n,(lps mask h (13+n)).1=itN mask (lps mask h 13).1 n
 | 0=>rfl
 | n+1=>by
  have ih:=zam9 mask h n
  have p:(lps mask h (13+n)).2=0:=by
   rw[zal4]
   exact Nat.div_eq_of_lt (zbr6 (zbm5 h) (by
    rw[Nat.pow_add]
    exact zbt7 (show 2 ^ 64<=32 ^ 13 by decide) (Nat.le_mul_of_pos_right _ (Nat.pow_pos (by decide)))))
  show ((lps mask h (13+n)).1*5+1+(lps mask h (13+n)).2 / 32) % (mask+1)=(itN mask (lps mask h 13).1 n*5+1) % (mask+1)
  rw[p,ih]
def covB (mask:Nat):Bool:=(List.range (mask+1)).all fun c=>(List.range (mask+1)).all fun j=>(List.range (mask+1)).any fun n=>decide (itN mask c n=j)
theorem cov7:covB 7=true:=by decide +kernel
theorem cov31:covB 31=true:=by decide +kernel
abbrev Msk (mask:Nat):Prop:=mask=7∨mask=31
theorem cov {mask:Nat}(hm:Msk mask) (h:Int) {j:Nat}(hj:j<=mask):∃ n,n<mask+14/\(lps mask h n).1=j:=by
 have c:covB mask=true:=by rcases hm with rfl|rfl;exact cov7;exact cov31
 unfold covB at c
 rw[zbr0] at c
 have c1:=c (lps mask h 13).1 (zbs1.mpr (zbh2 h 13))
 rw[zbr0] at c1
 have c2:=c1 j (zbs1.mpr (by omega))
 rw[List.any_eq_true] at c2
 obtain⟨n,hn,e⟩:=c2
 have hn:=zbs1.mp hn
 exact⟨13+n,by omega,by rw[zam9];exact of_decide_eq_true e⟩
theorem least {P:Nat->Prop}[DecidablePred P]:∀ {N:Nat},(∃ k,k<N/\P k)->∃ k,k<N/\P k/\∀ k',k'<k->¬ P k'
 | 0,h=>by obtain⟨k,hk,_⟩:=h;omega
 | N+1,h=>by
  by_cases e:∃ k,k<N/\P k
  ·obtain⟨k,hk,p,q⟩:=least e
   exact⟨k,by omega,p,q⟩
  ·obtain⟨k,hk,p⟩:=h
   have:k=N:=by
    by_cases z:k<N
    ·exact absurd ⟨k,z,p⟩ e
    ·omega
   subst this
   exact⟨k,hk,p,fun k' hk' p'=>e ⟨k',hk',p'⟩⟩
theorem zal5:∀ {xs ys:List Nat},xs.Nodup->(∀ x∈xs,x∈ys)->xs.length<=ys.length
 | [],ys,_,_=>zbs4 _
 | x :: xs,ys,nd,h=>by
  have nd:=zbu9.mp nd
  have hx:=h x (.head _)
  have:=zal5 (xs:=xs) (ys:=ys.erase x) nd.2 (fun y hy=>(List.mem_erase_of_ne (fun (e:y=x)=>nd.1 (e▸hy))).mpr (h y (.tail _ hy)))
  rw[List.length_erase_of_mem hx] at this
  have:=List.length_pos_of_mem hx
  show xs.length+1<=_
  omega
theorem zax0 {mask:Nat}(hm:Msk mask) (h:Int) {ps:List Nat}(hl:ps.length<mask+1):∃ k,k<10*(mask+14)/\wk mask h k ∉ ps/\∀ k',k'<k->wk mask h k'∈ps:=by
 have:∃ j,j<=mask/\j ∉ ps:=by
  by_cases e:∃ j,j<=mask/\j ∉ ps
  ·exact e
  ·exfalso
   have:=zal5 (xs:=List.range (mask+1)) (ys:=ps) List.nodup_range (fun x hx=>by
    by_cases z:x∈ps
    ·exact z
    ·exact absurd ⟨x,by have:=zbs1.mp hx;omega,z⟩ e)
   rw[zbv4] at this
   omega
 obtain⟨j,hj,nj⟩:=this
 obtain⟨n,hn,en⟩:=cov hm h hj
 have ew:wk mask h (runA mask h n)=j:=by
  have:=zaa5 (mask:=mask) (h:=h) (n:=n) (r:=0) (zbs4 _)
  rw[Nat.add_zero,Nat.add_zero] at this
  rw[this,en]
 obtain⟨k,hk,p,q⟩:=least (P:=fun k=>wk mask h k ∉ ps) (N:=10*(mask+14)) ⟨runA mask h n,by have:=zax9 mask h n;omega,by rw[ew];exact nj⟩
 exact⟨k,hk,p,fun k' hk'=>Classical.not_not.mp (q k' hk')⟩
theorem zab3 {xs:Array Nat}{j:Nat}(srt:xs.toList.Pairwise (· < ·)):∀ (fuel lo hi:Nat),lo<=hi->hi<=xs.size->hi - lo<=fuel->(∀ (i:Nat) x,i<lo->xs[i]?=some x->x<j)->(∀ (i:Nat) x,hi<=i->xs[i]?=some x->j<=x) ->
  (SetTable.below.go xs j fuel lo hi<=xs.size/\(∀ (i:Nat) x,i<SetTable.below.go xs j fuel lo hi->xs[i]?=some x->x<j)/\∀ (i:Nat) x,SetTable.below.go xs j fuel lo hi<=i->xs[i]?=some x->j<=x)
 | 0,lo,hi,h1,h2,h3,a,b=>by
  rw[SetTable.below.go.eq_1]
  have:lo=hi:=by omega
  subst this
  exact⟨h2,a,b⟩
 | fuel+1,lo,hi,h1,h2,h3,a,b=>by
  have mono:∀ {i k:Nat}{x y:Nat},i<k->xs[i]?=some x->xs[k]?=some y->x<y:=fun {i k x y} hik e1 e2=>by
   rw[← Array.getElem?_toList] at e1 e2
   obtain⟨l1,g1⟩:=zbp8.mp e1
   obtain⟨l2,g2⟩:=zbp8.mp e2
   have:=zbu3.mp srt i k l1 l2 hik
   rw[g1,g2] at this
   exact this
  rw[SetTable.below.go.eq_2]
  by_cases c:lo<hi
  ·rw[if_pos c]
   have hm:(lo+hi) / 2<xs.size:=by omega
   have em:xs[(lo+hi) / 2]?=some xs[(lo+hi) / 2]:=Array.getElem?_eq_getElem hm
   have eg:xs.getD ((lo+hi) / 2) j=xs[(lo+hi) / 2]:=by rw[Array.getD_eq_getD_getElem?,em];rfl
   show _/\_
   by_cases d:xs.getD ((lo+hi) / 2) j<j
   ·rw[if_pos d]
    rw[eg] at d
    refine zab3 srt fuel _ hi (by omega) h2 (by omega) (fun i x hi' e=>?_) b
    by_cases z:i=(lo+hi) / 2
    ·subst z;rw[em] at e;cases e;exact d
    ·exact Nat.lt_trans (mono (by omega) e em) d
   ·rw[if_neg d]
    rw[eg] at d
    refine zab3 srt fuel lo _ (by omega) (by omega) (by omega) a (fun i x hi' e=>?_)
    by_cases z:i=(lo+hi) / 2
    ·subst z;rw[em] at e;cases e;omega
    ·have:=mono (show (lo+hi) / 2<i by omega) em e
     omega
  ·rw[if_neg c]
   have:lo=hi:=by omega
   subst this
   exact⟨h2,a,b⟩
theorem zao4 {xs:Array Nat}(srt:xs.toList.Pairwise (· < ·)) (j:Nat):SetTable.below xs j<=xs.size/\(∀ (i:Nat) x,i<SetTable.below xs j->xs[i]?=some x->x<j)/\∀ (i:Nat) x,SetTable.below xs j<=i->xs[i]?=some x->j<=x:=
 zab3 srt _ 0 xs.size (zbs4 _) (zbq9 _) (by omega) (fun i x h=>by omega) (fun i x h e=>by
  have:=(Array.getElem?_eq_some_iff.mp e).1
  omega)
theorem zr5 {xs:Array Nat}(srt:xs.toList.Pairwise (· < ·)) {i j:Nat}(e:xs[i]?=some j):SetTable.below xs j=i:=by
 obtain⟨a,b,c⟩:=zao4 srt j
 by_cases h1:i<SetTable.below xs j
 ·have:=b i j h1 e;omega
 ·by_cases h2:SetTable.below xs j<i
  ·have hs:SetTable.below xs j<xs.size:=by have:=(Array.getElem?_eq_some_iff.mp e).1;omega
   have er:xs[SetTable.below xs j]?=some xs[SetTable.below xs j]:=Array.getElem?_eq_getElem hs
   have:=c _ _ (zbq9 _) er
   rw[← Array.getElem?_toList] at e er
   obtain⟨l1,g1⟩:=zbp8.mp e
   obtain⟨l2,g2⟩:=zbp8.mp er
   have:=zbu3.mp srt _ _ l2 l1 h2
   rw[g1,g2] at this
   omega
  ·omega
theorem zau0 (j:Nat):SetTable.has #[] j=false:=rfl
theorem zw3 {t:SetTable}(srt:t.place.toList.Pairwise (· < ·)) {i j:Nat}(e:t.place[i]?=some j):t.slot j=.live i:=by
 unfold SetTable.slot
 show (if (t.place[SetTable.below t.place j]?==some j)=true then _ else _)=_
 rw[zr5 srt e,e,if_pos (beq_self_eq_true _)]
theorem zar1 {t:SetTable}(dum:t.dummies=#[]) {j:Nat}(e:j ∉ t.place.toList):t.slot j=.empty:=by
 unfold SetTable.slot
 show (if (t.place[SetTable.below t.place j]?==some j)=true then _ else if SetTable.has t.dummies j=true then _ else _)=_
 have:¬ (t.place[SetTable.below t.place j]?==some j)=true:=fun h=>by
  have h:=eq_of_beq h
  rw[← Array.getElem?_toList] at h
  exact e (zbq0 h)
 rw[if_neg this,dum,zau0,if_neg zbq6]
structure TOk (t:SetTable) (hs:List Int):Prop where
 msk:Msk t.mask
 dum:t.dummies=#[]
 len:t.place.toList.length=hs.length
 srt:t.place.toList.Pairwise (· < ·)
 bnd:∀ j∈t.place.toList,j<=t.mask
 rch:∀ (i:Nat) h,hs[i]?=some h->∃ k,t.place.toList[i]?=some (wk t.mask h k)/\∀ k',k'<k->wk t.mask h k'∈t.place.toList
theorem zak8 {t:SetTable}{hs:List Int}(T:TOk t hs) {hashAt:Nat->Int}{h:Int}{k0:Nat}(free:wk t.mask h k0 ∉ t.place.toList) (full:∀ k',k'<k0->wk t.mask h k'∈t.place.toList):∀ (fuel k:Nat),k<=k0->k0 - k<fuel ->
  (∃ k1 i,k<=k1/\k1<k0/\t.place.toList[i]?=some (wk t.mask h k1)/\hashAt i=h/\SetTable.probe.go t hashAt h fuel (stp t.mask h k)=some (.candidate (wk t.mask h k1) i (stp t.mask h (k1+1)))/\∀ k',k<=k'->k'<k1->∀ i',t.place.toList[i']?=some (wk t.mask h k')->hashAt i'≠h) ∨
  (SetTable.probe.go t hashAt h fuel (stp t.mask h k)=some (.empty (wk t.mask h k0) none)/\∀ k',k<=k'->k'<k0->∀ i',t.place.toList[i']?=some (wk t.mask h k')->hashAt i'≠h)
 | 0,k,h1,h2=>by omega
 | fuel+1,k,h1,h2=>by
  rw[SetTable.probe.go.eq_2]
  by_cases e:k=k0
  ·subst e
   right
   rw[show t.slot (stp t.mask h k).j=.empty from zar1 T.dum free]
   refine⟨?_,fun k' a b=>by omega⟩
   show some (SetTable.Met.empty (wk t.mask h k) (stp t.mask h k).dummy)=_
   rw[zaf8]
  ·obtain⟨i,ei⟩:=zbs8 (full k (by omega))
   have ei':t.place[i]?=some (wk t.mask h k):=by rw[← Array.getElem?_toList];exact ei
   rw[show t.slot (stp t.mask h k).j=.live i from zw3 T.srt ei']
   show (∃ k1 i1,_/\_/\_/\_/\(if (hashAt i==h)=true then some (SetTable.Met.candidate (wk t.mask h k) i (stp t.mask h (k+1))) else SetTable.probe.go t hashAt h fuel (stp t.mask h (k+1)))=_/\_)∨((if (hashAt i==h)=true then some (SetTable.Met.candidate (wk t.mask h k) i (stp t.mask h (k+1))) else SetTable.probe.go t hashAt h fuel (stp t.mask h (k+1)))=_/\_)
   by_cases c:hashAt i=h
   ·left
    exact⟨k,i,zbq9 _,by omega,ei,c,by rw[if_pos (by rw[c];exact beq_self_eq_true _)],fun k' a b=>by omega⟩
   ·have nc:¬ (hashAt i==h)=true:=fun z=>c (eq_of_beq z)
    rw[if_neg nc]
    have here:∀ i',t.place.toList[i']?=some (wk t.mask h k)->hashAt i'≠h:=fun i' e'=>by
     have:i'=i:=by
      have b1:=zr5 T.srt (i:=i') (j:=wk t.mask h k) (by rw[← Array.getElem?_toList];exact e')
      have b2:=zr5 T.srt ei'
      omega
     rw[this];exact c
    rcases zak8 T free full fuel (k+1) (by omega) (by omega) with ⟨k1,i1,a1,a2,a3,a4,a5,a6⟩|⟨a1,a2⟩
    ·left
     refine⟨k1,i1,by omega,a2,a3,a4,a5,fun k' b1 b2 i' e'=>?_⟩
     by_cases z:k'=k
     ·subst z;exact here i' e'
     ·exact a6 k' (by omega) b2 i' e'
    ·right
     refine⟨a1,fun k' b1 b2 i' e'=>?_⟩
     by_cases z:k'=k
     ·subst z;exact here i' e'
     ·exact a2 k' (by omega) b2 i' e'
theorem TOk.of {t t2:SetTable}{hs:List Int}(T:TOk t hs) (e1:t2.mask=t.mask) (e2:t2.place=t.place) (e3:t2.dummies=t.dummies):TOk t2 hs:=
 ⟨by rw[e1];exact T.msk,by rw[e3];exact T.dum,by rw[e2];exact T.len,by rw[e2];exact T.srt,by rw[e1,e2];exact T.bnd,by rw[e1,e2];exact T.rch⟩
theorem stp_j {mask:Nat}(h:Int) (k:Nat):∃ n r,k=runA mask h n+r/\r<=runL mask h n:=by
 induction k with
 | zero=>exact⟨0,0,rfl,zbs4 _⟩
 | succ k ih=>
  obtain⟨n,r,e,hr⟩:=ih
  by_cases z:r<runL mask h n
  ·exact⟨n,r+1,by omega,by omega⟩
  ·exact⟨n+1,0,by show k+1=runA mask h n+runL mask h n+1+0;omega,zbs4 _⟩
theorem zaq3 {mask:Nat}(h:Int) (k:Nat):wk mask h k<=mask:=by
 obtain⟨n,r,rfl,hr⟩:=stp_j (mask:=mask) h k
 rw[zaa5 hr]
 have:=zbh2 (mask:=mask) h n
 unfold runL SetTable.runEnd at hr
 split at hr<;>omega
theorem zv9 {α:Type}{xs:List α}{p:Nat}{x:α}(hp:p<=xs.length):(xs.take p++x :: xs.drop p).length=xs.length+1:=by
 rw[zbp9,zbq5,zbt0,zbu1]
 omega
theorem zag7 {α:Type}{xs:List α}{p:Nat}{x:α}(hp:p<=xs.length) (i:Nat):(xs.take p++x :: xs.drop p)[i]?=if i<p then xs[i]? else if i=p then some x else xs[i - 1]?:=by
 by_cases h1:i<p
 ·rw[if_pos h1,zbt9 (by rw[zbt0];omega),List.getElem?_take,if_pos h1]
 ·rw[if_neg h1,zbt5 (by rw[zbt0];omega),zbt0,Nat.min_eq_left hp]
  by_cases h2:i=p
  ·rw[if_pos h2,h2,Nat.sub_self];rfl
  ·rw[if_neg h2]
   obtain⟨d,rfl⟩:∃ d,i=p+d+1:=⟨i - p - 1,by omega⟩
   rw[show p+d+1 - p=d+1 by omega,List.getElem?_cons_succ,List.getElem?_drop]
   rfl
theorem TOk.put {t:SetTable}{hs:List Int}(T:TOk t hs) {h:Int}{k0:Nat}(free:wk t.mask h k0 ∉ t.place.toList) (full:∀ k',k'<k0->wk t.mask h k'∈t.place.toList):SetTable.below t.place (wk t.mask h k0)<=hs.length/\TOk (t.put (wk t.mask h k0)).1 (hs.take (SetTable.below t.place (wk t.mask h k0))++h :: hs.drop (SetTable.below t.place (wk t.mask h k0)))/\(t.put (wk t.mask h k0)).2=SetTable.below t.place (wk t.mask h k0)/\(t.put (wk t.mask h k0)).1.mask=t.mask:=by
 obtain⟨b1,b2,b3⟩:=zao4 T.srt (wk t.mask h k0)
 have tl:=T.len
 generalize hj:wk t.mask h k0=j at *
 generalize hp:SetTable.below t.place j=p at *
 have hpl:p<=t.place.toList.length:=by rw[Array.length_toList];exact b1
 have pl:((t.put j).1.place).toList=t.place.toList.take p++j :: t.place.toList.drop p:=by
  show (SetTable.insertAt t.place (SetTable.below t.place j) j).toList=_
  rw[hp,SetTable.toList_insertAt]
 have sup:∀ x∈t.place.toList,x∈t.place.toList.take p++j :: t.place.toList.drop p:=fun x hx=>by
  rw[← List.take_append_drop p t.place.toList] at hx
  rcases zbr2.mp hx with hx|hx
  ·exact zbr2.mpr (.inl hx)
  ·exact zbr2.mpr (.inr (.tail _ hx))
 refine⟨by omega,⟨T.msk,?_,?_,?_,?_,?_⟩,hp▸rfl,rfl⟩
 ·show (if SetTable.has t.dummies j=true then _ else t.dummies)=#[]
  rw[T.dum,zau0,if_neg zbq6]
 ·rw[pl,zv9 hpl,zv9 (by omega),tl]
 ·rw[pl,List.pairwise_append]
  have lo:∀ a∈t.place.toList.take p,a<j:=fun a ha=>by
   obtain⟨i,ei⟩:=zbs8 ha
   rw[List.getElem?_take] at ei
   split at ei
   ·rename_i hi
    exact b2 i a hi (by rw[← Array.getElem?_toList];exact ei)
   ·cases ei
  have hi:∀ b∈t.place.toList.drop p,j<b:=fun b hb=>by
   obtain⟨i,ei⟩:=zbs8 hb
   rw[List.getElem?_drop] at ei
   have:=b3 (p+i) b (by omega) (by rw[← Array.getElem?_toList];exact ei)
   have ne:j≠b:=fun z=>free (z▸zbq0 ei)
   omega
  refine⟨T.srt.sublist (List.take_sublist _ _),List.pairwise_cons.mpr ⟨hi,T.srt.sublist (List.drop_sublist _ _)⟩,fun a ha b hb=>?_⟩
  rcases zbq8.mp hb with rfl|hb
  ·exact lo a ha
  ·exact Nat.lt_trans (lo a ha) (hi b hb)
 ·rw[pl]
  intro x hx
  show x<=t.mask
  rcases zbr2.mp hx with hx|hx
  ·exact T.bnd x (zbw0 hx)
  ·rcases zbq8.mp hx with rfl|hx
   ·rw[← hj];exact zaq3 h k0
   ·exact T.bnd x (zbw1 hx)
 ·intro i h' e
  show ∃ k,((t.put j).1.place).toList[i]?=some (wk t.mask h' k)/\∀ k',k'<k->wk t.mask h' k'∈((t.put j).1.place).toList
  rw[pl,zag7 hpl]
  rw[zag7 (by omega)] at e
  by_cases h1:i<p
  ·rw[if_pos h1] at e ⊢
   obtain⟨k,q1,q2⟩:=T.rch i h' e
   exact⟨k,q1,fun k' hk'=>sup _ (q2 k' hk')⟩
  ·rw[if_neg h1] at e ⊢
   by_cases h2:i=p
   ·rw[if_pos h2] at e ⊢
    cases e
    exact⟨k0,by rw[hj],fun k' hk'=>sup _ (full k' hk')⟩
   ·rw[if_neg h2] at e ⊢
    obtain⟨k,q1,q2⟩:=T.rch (i - 1) h' e
    exact⟨k,q1,fun k' hk'=>sup _ (q2 k' hk')⟩
theorem zat8 {mask:Nat}{h:Int}{n m:Nat}(hm:n<=m):runA mask h n<=runA mask h m:=by
 induction m with
 | zero=>
  have:n=0:=by omega
  subst this;exact zbq9 _
 | succ m ih=>
  by_cases e:n=m+1
  ·subst e;exact zbq9 _
  ·have:=ih (by omega)
   show runA mask h n<=runA mask h m+runL mask h m+1
   omega
theorem zam6 {mask:Nat}{owner:Array (Option Nat)}{h:Int}{k0:Nat}(free:(owner.getD (wk mask h k0) (some 0)).isNone=true) (full:∀ k',k'<k0->(owner.getD (wk mask h k') (some 0)).isNone=false):∀ fuel n,runA mask h n<=k0->k0<runA mask h (n+fuel)->SetTable.layClean.free mask owner fuel (lps mask h n).1 (lps mask h n).2=some (wk mask h k0)
 | 0,n,h1,h2=>by rw[Nat.add_zero] at h2;omega
 | fuel+1,n,h1,h2=>by
  rw[SetTable.layClean.free.eq_2]
  have el:SetTable.runEnd mask (lps mask h n).1+1 - (lps mask h n).1=runL mask h n+1:=by
   unfold runL SetTable.runEnd
   split<;>omega
  rw[el]
  by_cases c:k0<runA mask h (n+1)
  ·have hr:k0 - runA mask h n<=runL mask h n:=by
    have:k0<runA mask h n+runL mask h n+1:=c
    omega
   have ew:(lps mask h n).1+(k0 - runA mask h n)=wk mask h k0:=by
    rw[← zaa5 hr]
    congr 1
    omega
   have:List.find? (fun k=>(owner.getD ((lps mask h n).1+k) (some 0)).isNone) (List.range (runL mask h n+1))=some (k0 - runA mask h n):=by
    rw[List.find?_range_eq_some]
    refine⟨by rw[ew];exact free,zbs1.mpr (by omega),fun r hr'=>?_⟩
    rw[← zaa5 (show r<=runL mask h n by omega),full _ (by omega)]
    rfl
   rw[this]
   show some _=_
   rw[ew]
  ·have:List.find? (fun k=>(owner.getD ((lps mask h n).1+k) (some 0)).isNone) (List.range (runL mask h n+1))=none:=by
    rw[List.find?_range_eq_none]
    intro r hr'
    rw[← zaa5 (show r<=runL mask h n by omega),full _ (by
     have c:¬ k0<runA mask h n+runL mask h n+1:=c
     omega)]
    rfl
   rw[this]
   exact zam6 free full fuel (n+1) (by omega) (by rw[show n+1+fuel=n+(fuel+1) by omega];exact h2)
def zk9 (mask:Nat) (owner:Array (Option Nat)):List (Nat×Nat):=(List.range (mask+1)).filterMap fun j=>(owner.getD j none).map fun x=>(j,x)
theorem zan5 {mask:Nat}{owner:Array (Option Nat)}{j x:Nat}:(j,x)∈zk9 mask owner↔j<=mask/\owner.getD j none=some x:=by
 unfold zk9
 rw[List.mem_filterMap]
 constructor
 ·rintro⟨a,ha,e⟩
  obtain⟨y,ey,e⟩:=zbq7.mp e
  cases e
  exact⟨by have:=zbs1.mp ha;omega,ey⟩
 ·rintro⟨h1,h2⟩
  exact⟨j,zbs1.mpr (by omega),by rw[h2];rfl⟩
theorem zr2 {mask:Nat}{owner:Array (Option Nat)}{j:Nat}:j∈(zk9 mask owner).map (·.1)↔j<=mask/\(owner.getD j none).isSome=true:=by
 rw[zbr5]
 constructor
 ·rintro⟨⟨a,x⟩,hx,rfl⟩
  obtain⟨h1,h2⟩:=zan5.mp hx
  exact⟨h1,by rw[h2];rfl⟩
 ·rintro⟨h1,h2⟩
  obtain⟨x,ex⟩:=Option.isSome_iff_exists.mp h2
  exact⟨(j,x),zan5.mpr ⟨h1,ex⟩,rfl⟩
theorem zat0 {α:Type}{f:Nat->Option α}:∀ L:List Nat,(L.filterMap fun j=>(f j).map fun x=>(j,x)).map (·.1)=L.filter fun j=>(f j).isSome
 | []=>rfl
 | x :: xs=>by
  cases e:f x with
  | none=>
   rw[zbv3 (by rw[e];rfl),List.filter_cons_of_neg (by rw[e];exact zbq6)]
   exact zat0 xs
  | some y=>
   rw[zbu6 (b:=(x,y)) (by rw[e];rfl),List.filter_cons_of_pos (by rw[e];rfl),zbt4,zat0 xs]
theorem zbd7 (mask:Nat) (owner:Array (Option Nat)):((zk9 mask owner).map (·.1)).Pairwise (· < ·):=by
 unfold zk9
 rw[zat0]
 exact List.Pairwise.filter _ List.pairwise_lt_range
theorem zw8 {β:Type}{f g:Nat->Option β}:∀ {L:List Nat},(∀ y∈L,g y=f y)->L.filterMap g=L.filterMap f
 | [],_=>rfl
 | x :: xs,h=>by
  have ih:=zw8 (L:=xs) fun y hy=>h y (.tail _ hy)
  have e:=h x (.head _)
  cases ef:f x with
  | none=>rw[zbv3 (by rw[e,ef]),zbv3 ef,ih]
  | some y=>rw[zbu6 (b:=y) (by rw[e,ef]),zbu6 ef,ih]
theorem zau1 {β:Type}{f g:Nat->Option β}{j0:Nat}{v:β}(h0:f j0=none) (h1:g j0=some v) (h2:∀ j,j≠j0->g j=f j):∀ {L:List Nat},L.Nodup->j0∈L->(L.filterMap g).Perm (v :: L.filterMap f)
 | x :: xs,nd,hj=>by
  have nd:=zbu9.mp nd
  by_cases e:x=j0
  ·subst e
   have:xs.filterMap g=xs.filterMap f:=zw8 fun y hy=>h2 y fun (z:y=x)=>nd.1 (z▸hy)
   rw[zbu6 h1,zbv3 h0,this]
  ·have hj':j0∈xs:=by
    rcases zbq8.mp hj with rfl|hj
    ·exact absurd rfl e
    ·exact hj
   have ih:=zau1 h0 h1 h2 nd.2 hj'
   cases ef:f x with
   | none=>rw[zbv3 (by rw[h2 x e,ef]),zbv3 ef];exact ih
   | some y=>
    rw[zbu6 (b:=y) (by rw[h2 x e,ef]),zbu6 ef]
    exact (ih.cons y).trans (List.Perm.swap _ _ _)
structure zap0 (mask:Nat) (hs:List Int) (owner:Array (Option Nat)) (js:List Nat):Prop where
 sz:owner.size=mask+1
 len:js.length=hs.length
 prm:(zk9 mask owner).Perm (js.zip (List.range js.length))
 rch:∀ (i:Nat) j h,js[i]?=some j->hs[i]?=some h->∃ k,j=wk mask h k/\∀ k',k'<k->(owner.getD (wk mask h k') none).isSome=true
def layF (mask:Nat):Option (Array (Option Nat)×Nat)->Int->Option (Array (Option Nat)×Nat):=fun acc h=>do
 let x ← acc
 match x with
 | (owner,k)=>do
  let j ← SetTable.layClean.free mask owner (SetTable.turns mask) (SetTable.bits h % (mask+1)) (SetTable.bits h)
  pure (owner.setIfInBounds j (some k),k+1)
theorem zbb9 {mask:Nat}(hm:Msk mask) {hs:List Int}{owner:Array (Option Nat)}{js:List Nat}(L:zap0 mask hs owner js) (hl:hs.length<mask+1) (h:Int):∃ owner' j,layF mask (some (owner,hs.length)) h=some (owner',hs.length+1)/\zap0 mask (hs++[h]) owner' (js++[j]):=by
 have pl:(zk9 mask owner).length=hs.length:=by rw[L.prm.length_eq,List.length_zip,zbv4,Nat.min_self,L.len]
 obtain⟨k0,hk,fr,fu⟩:=zax0 hm h (ps:=(zk9 mask owner).map (·.1)) (by rw[zbp5,pl];exact hl)
 have lt:∀ k,wk mask h k<owner.size:=fun k=>by have:=zaq3 (mask:=mask) h k;rw[L.sz];omega
 have gd:∀ (k:Nat) (d:Option Nat),owner.getD (wk mask h k) d=owner[wk mask h k]'(lt k):=fun k d=>by rw[Array.getD_eq_getD_getElem?,Array.getElem?_eq_getElem (lt k)];rfl
 have free:(owner.getD (wk mask h k0) (some 0)).isNone=true:=by
  rw[zr2] at fr
  rw[gd k0 (some 0),← gd k0 none]
  cases e:owner.getD (wk mask h k0) none with
  | none=>rfl
  | some x=>exact absurd ⟨zaq3 h k0,by rw[e];rfl⟩ fr
 have full:∀ k',k'<k0->(owner.getD (wk mask h k') (some 0)).isNone=false:=fun k' hk'=>by
  obtain⟨_,e⟩:=zr2.mp (fu k' hk')
  rw[gd k' (some 0),← gd k' none]
  obtain⟨x,ex⟩:=Option.isSome_iff_exists.mp e
  rw[ex];rfl
 have fnd:=zam6 free full (mask+15) 0 (zbs4 _) (by
  have e:∃ n,n<mask+14/\(lps mask h n).1=wk mask h k0:=cov hm h (zaq3 h k0)
  obtain⟨n,hn,en⟩:=e
  have ew:wk mask h (runA mask h n)=wk mask h k0:=by
   have:=zaa5 (mask:=mask) (h:=h) (n:=n) (r:=0) (zbs4 _)
   rw[Nat.add_zero,Nat.add_zero] at this
   rw[this,en]
  have le:k0<=runA mask h n:=by
   by_cases z:runA mask h n<k0
   ·have:=fu _ z
    rw[ew] at this
    exact absurd this fr
   ·omega
  have:=zat8 (mask:=mask) (h:=h) (show n+1<=0+(mask+15) by omega)
  have:runA mask h n+runL mask h n+1<=runA mask h (0+(mask+15)):=this
  omega)
 have fnd:SetTable.layClean.free mask owner (SetTable.turns mask) (SetTable.bits h % (mask+1)) (SetTable.bits h)=some (wk mask h k0):=fnd
 refine⟨owner.setIfInBounds (wk mask h k0) (some hs.length),wk mask h k0,?_,?_⟩
 ·show (SetTable.layClean.free mask owner (SetTable.turns mask) (SetTable.bits h % (mask+1)) (SetTable.bits h)).bind _=_
  rw[fnd];rfl
 ·have at0:owner.getD (wk mask h k0) none=none:=by
   rw[gd k0 none,← gd k0 (some 0)]
   exact Option.isNone_iff_eq_none.mp free
  have g1:(owner.setIfInBounds (wk mask h k0) (some hs.length)).getD (wk mask h k0) none=some hs.length:=by
   rw[Array.getD_eq_getD_getElem?,Array.getElem?_setIfInBounds,if_pos rfl,if_pos (lt k0)];rfl
  have g2:∀ j,j≠wk mask h k0->(owner.setIfInBounds (wk mask h k0) (some hs.length)).getD j none=owner.getD j none:=fun j hj=>by
   rw[Array.getD_eq_getD_getElem?,Array.getD_eq_getD_getElem?,Array.getElem?_setIfInBounds,if_neg (Ne.symm hj)]
  refine⟨by rw[Array.size_setIfInBounds];exact L.sz,by rw[zbp9,zbp9,L.len];rfl,?_,fun i j h' e1 e2=>?_⟩
  ·have p1:(zk9 mask (owner.setIfInBounds (wk mask h k0) (some hs.length))).Perm ((wk mask h k0,hs.length) :: zk9 mask owner):=zau1 (f:=fun j=>(owner.getD j none).map fun x=>(j,x)) (g:=fun j=>((owner.setIfInBounds (wk mask h k0) (some hs.length)).getD j none).map fun x=>(j,x)) (by rw[at0];rfl) (by rw[g1];rfl) (fun j hj=>by rw[g2 j hj]) List.nodup_range (zbs1.mpr (by have:=zaq3 (mask:=mask) h k0;omega))
   have e:(js++[wk mask h k0]).zip (List.range (js++[wk mask h k0]).length)=js.zip (List.range js.length)++[(wk mask h k0,hs.length)]:=by
    rw[zbp9,zbs0,List.range_succ,List.zip_append (by rw[zbv4]),L.len]
    rfl
   rw[e]
   exact (p1.trans (L.prm.cons _)).trans (List.perm_append_comm (l₁:=[_]))
  ·have up:∀ j,(owner.getD j none).isSome=true->((owner.setIfInBounds (wk mask h k0) (some hs.length)).getD j none).isSome=true:=fun j hj=>by
    by_cases z:j=wk mask h k0
    ·rw[z,g1];rfl
    ·rw[g2 j z];exact hj
   by_cases hi:i<js.length
   ·rw[zbt9 hi] at e1
    rw[zbt9 (by rw[← L.len];exact hi)] at e2
    obtain⟨k,q1,q2⟩:=L.rch i j h' e1 e2
    exact⟨k,q1,fun k' hk'=>up _ (q2 k' hk')⟩
   ·rw[zbt5 (by omega)] at e1
    rw[zbt5 (by rw[← L.len];omega)] at e2
    have hi0:i - js.length=0:=by
     have:=(zbp8.mp e1).1
     simp at this;omega
    rw[hi0] at e1
    rw[← L.len,hi0] at e2
    cases e1
    cases e2
    exact⟨k0,rfl,fun k' hk'=>up _ (zr2.mp (fu k' hk')).2⟩
theorem zav2 {mask:Nat}(hm:Msk mask):∀ {xs hs:List Int}{owner:Array (Option Nat)}{js:List Nat},zap0 mask hs owner js->hs.length+xs.length<mask+2->∃ owner' js',xs.foldl (layF mask) (some (owner,hs.length))=some (owner',(hs++xs).length)/\zap0 mask (hs++xs) owner' js'
 | [],hs,owner,js,L,_=>⟨owner,js,by rw[List.append_nil];rfl,by rw[List.append_nil];exact L⟩
 | x :: xs,hs,owner,js,L,hl=>by
  rw[zbq5] at hl
  obtain⟨o1,j1,e1,L1⟩:=zbb9 hm L (by omega) x
  obtain⟨o2,j2,e2,L2⟩:=zav2 hm L1 (xs:=xs) (by rw[zbp9,zbs0];omega)
  rw[List.append_assoc] at L2 e2
  refine⟨o2,j2,?_,L2⟩
  rw[List.foldl_cons,e1]
  rw[zbp9,zbs0] at e2
  exact e2
theorem zba4 {mask:Nat}(hm:Msk mask) {hs:Array Int}(hl:hs.size<mask+2):∃ owner js,SetTable.layClean mask hs=some owner/\zap0 mask hs.toList owner js:=by
 have L0:zap0 mask [] (Array.replicate (mask+1) none) []:=by
  refine⟨Array.size_replicate,rfl,?_,fun i j h e=>by simp at e⟩
  have:zk9 mask (Array.replicate (mask+1) none)=[]:=by
   unfold zk9
   rw[List.filterMap_eq_nil_iff]
   intro j _
   rw[Array.getD_eq_getD_getElem?,Array.getElem?_replicate]
   split<;>rfl
  rw[this]
  exact .nil
 obtain⟨o,js,e,L⟩:=zav2 hm L0 (xs:=hs.toList) (by rw[Array.length_toList];simp;omega)
 refine⟨o,js,?_,by simpa using L⟩
 show Option.map (fun x=>x.fst) (Array.foldl (layF mask) (some (Array.replicate (mask+1) none,0)) hs)=some o
 rw[← Array.foldl_toList]
 have e:List.foldl (layF mask) (some (Array.replicate (mask+1) none,0)) hs.toList=_:=e
 rw[e]
 rfl
theorem zbk4 {mask finger moves:Nat}{led plain:Bool}(hm:Msk mask) {es:Array (Int×Value)}(hl:es.size<mask+2):∃ t2 order,SetTable.laid mask finger moves led plain (es.map fun x=>x.fst)=some (t2,order)/\t2.mask=mask/\(Array.filterMap (fun x=>es[x]?) order).size=es.size/\(Array.filterMap (fun x=>es[x]?) order).toList.Perm es.toList/\TOk t2 ((Array.filterMap (fun x=>es[x]?) order).toList.map (·.1)):=by
 obtain⟨owner,js,e,L⟩:=zba4 hm (hs:=es.map fun x=>x.fst) (by rw[Array.size_map];exact hl)
 have jl:js.length=es.size:=by rw[L.len,Array.length_toList,Array.size_map]
 refine⟨_,_,by
  show (SetTable.layClean mask (es.map fun x=>x.fst)).bind _=_
  rw[e]
  rfl,rfl,?_⟩
 have ord:(Array.filterMap (fun x=>es[x]?) (List.map (fun x=>x.snd) (zk9 mask owner)).toArray).toList=(zk9 mask owner).filterMap fun x=>es[x.2]?:=by
  rw[Array.toList_filterMap,List.filterMap_map]
  rfl
 have small:∀ z∈zk9 mask owner,∃ h,js[z.2]?=some z.1/\es[z.2]?=some h:=fun z hz=>by
  have:=L.prm.mem_iff.mp hz
  obtain⟨i,ei⟩:=zbs8 this
  rw[List.getElem?_zip_eq_some] at ei
  obtain⟨e1,e2⟩:=ei
  have hi:=(zbp8.mp e1).1
  rw[List.getElem?_range hi] at e2
  have e2:=Option.some.inj e2
  rw[← e2]
  exact⟨_,e1,Array.getElem?_eq_getElem (by omega)⟩
 have fmap:∀ (l:List (Nat×Nat)),(∀ z∈l,∃ h,es[z.2]?=some h)->(l.filterMap fun x=>es[x.2]?)=l.map fun x=>es.getD x.2 (0,.none):=fun l=>by
  induction l with
  | nil=>intro _;rfl
  | cons z l ih=>
   intro hz
   obtain⟨h,eh⟩:=hz z (.head _)
   rw[zbu6 (f:=fun x:Nat×Nat=>es[x.2]?) (a:=z) (b:=h) eh,zbt4,ih fun y hy=>hz y (.tail _ hy),Array.getD_eq_getD_getElem?,eh]
   rfl
 have em:=fmap (zk9 mask owner) (fun z hz=>by obtain⟨h,_,e⟩:=small z hz;exact⟨h,e⟩)
 have all:((js.zip (List.range js.length)).filterMap fun x=>es[x.2]?)=es.toList:=by
  have h1:((js.zip (List.range js.length)).filterMap fun x=>es[x.2]?)=((js.zip (List.range js.length)).map (·.2)).filterMap fun i=>es[i]?:=by rw[List.filterMap_map];rfl
  rw[h1,List.map_snd_zip (by rw[zbv4];exact zbq9 _),jl,← Array.length_toList]
  refine Eq.trans ?_ (PySem.List.filterMap_getElem?_range_length es.toList)
  refine zw8 fun y _=>?_
  rw[Array.getElem?_toList]
 have prm:((zk9 mask owner).filterMap fun x=>es[x.2]?).Perm es.toList:=by
  rw[← all]
  exact L.prm.filterMap _
 show (Array.filterMap (fun x=>es[x]?) (List.map (fun x=>x.snd) (zk9 mask owner)).toArray).size=es.size/\(Array.filterMap (fun x=>es[x]?) (List.map (fun x=>x.snd) (zk9 mask owner)).toArray).toList.Perm es.toList/\TOk _ ((Array.filterMap (fun x=>es[x]?) (List.map (fun x=>x.snd) (zk9 mask owner)).toArray).toList.map (·.1))
 refine⟨?_,by rw[ord];exact prm,?_⟩
 ·rw[← Array.length_toList,ord,prm.length_eq,Array.length_toList]
 ·rw[ord,em,zbt1]
  have pl:((List.map (fun x=>x.fst) (zk9 mask owner)).toArray).toList=(zk9 mask owner).map (·.1):=rfl
  refine⟨hm,rfl,?_,?_,?_,fun i h eh=>?_⟩
  ·show ((List.map (fun x=>x.fst) (zk9 mask owner)).toArray).toList.length=_
   rw[pl,zbp5,zbp5]
  ·exact zbd7 mask owner
  ·intro j hj
   exact (zr2.mp hj).1
  ·rw[zbq2] at eh
   obtain⟨z,ez,rfl⟩:=zbq7.mp eh
   obtain⟨y,e1,e2⟩:=small z (zbq0 ez)
   have eh:es.getD z.2 (0,.none)=y:=by rw[Array.getD_eq_getD_getElem?,e2];rfl
   obtain⟨k,q1,q2⟩:=L.rch z.2 z.1 y.1 e1 (by rw[Array.getElem?_toList,Array.getElem?_map,e2];rfl)
   refine⟨k,?_,fun k' hk'=>?_⟩
   ·show ((zk9 mask owner).map (·.1))[i]?=some (wk mask (es.getD z.2 (0,.none)).1 k)
    rw[eh,zbq2,ez,← q1]
    rfl
   ·show wk mask (es.getD z.2 (0,.none)).1 k'∈(zk9 mask owner).map (·.1)
    rw[eh]
    exact zr2.mpr ⟨zaq3 _ _,q2 k' hk'⟩
end L2
set_option maxHeartbeats 4000000
namespace L2
open PySem PySem.Spec PyProof.Rows
section
variable {prog:Program}{w:World}{A:Around}{E:Value->Shared->Prop}{s:Shared}
theorem zr6 {M:Model}{α β:Type}(f:α->β->Sem (ForInStep β)) (I:List α->β->Shared->Prop) (Q:β->Shared->Prop)
  (hs:∀ (x:α) (rest:List α) (b:β) (s:Shared),I (x :: rest) b s->wpAny M A (f x b) (fun r s'=>match r with|ForInStep.yield b'=>I rest b' s' | ForInStep.done b'=>Q b' s') E s)
  (hd:∀ (b:β) (s:Shared),I [] b s->Q b s):∀ (xs:List α) (b:β) (s:Shared),I xs b s->wpAny M A (forIn xs b f) Q E s
 | [],b,s,h=>by rw[List.forIn_nil];exact wpAny_pure (hd b s h)
 | x :: xs,b,s,h=>by
  rw[List.forIn_cons]
  refine wpAny_bind ?_
  have:=hs x xs b s h
  revert this
  generalize f x b=m
  intro this
  refine wpAny_mono this (fun r s' hr=>?_) (fun _ _ h=>h)
  cases r with
  | done b'=>exact wpAny_pure hr
  | yield b'=>exact zr6 f I Q hs hd xs b' s' hr
theorem zaf4 {ks:List Int}{vs:List Value}(h:PySem.ItemsAre (intKind prog w) ks vs):∀ v∈vs,carriedByValue v=true:=by
 induction h with
 | nil=>intro v hv;cases hv
 | cons h1 h2 ih=>
  intro v hv
  rcases zbq8.mp hv with rfl|hv
  ·exact (intKind prog w).byValue _ _ h1
  ·exact ih v hv
theorem noref {v:Value}(h:carriedByValue v=true):∀ a,v=Value.ref a->False:=fun a e=>by subst e;cases h
theorem zax5 {k:List Int}{p:Addr}{Q:Bool->Shared->Prop}(h:IsTupleKey (intKind prog w) s.heap k p) (q:Q false s):wpAny (model prog w) A (ofAClassStatement 8 (.ref p)) Q E s:=by
 show wpAny (model prog w) A (ofAClassStatement (7+1) (.ref p)) Q E s
 rw[ofAClassStatement.eq_2]
 refine wpAny_bind (wpAny_typeOf h.typeIs ?_)
 obtain⟨o,items,n,ho,hc,hd,hi⟩:=h
 show wpAny (model prog w) A (if ("tuple"=="tuple")=true then _ else _) Q E s
 refine wpAny_ite_true rfl ?_
 refine wpAny_bind (wpAny_pure ?_)
 refine wpAny_ite_false rfl ?_
 refine wpAny_bind (wpAny_seqItems ho hd ?_)
 refine wpAny_bind ?_
 refine wpAny_forIn_array' _ (fun rest b s'=>s'=s/\b=(none,())/\∀ v∈rest,carriedByValue v=true) _ ?_ ?_ items _ ⟨rfl,rfl,zaf4 hi⟩
 ·rintro x rest b s' ⟨rfl,rfl,hv⟩
  rw[ofAClassStatement.eq_3 _ _ (noref (hv x (.head _)))]
  refine wpAny_bind (wpAny_pure ?_)
  refine wpAny_ite_false rfl (wpAny_pure ?_)
  exact⟨rfl,rfl,fun v h=>hv v (.tail _ h)⟩
 ·rintro b s' ⟨rfl,rfl,_⟩
  exact wpAny_pure q
theorem zav3:typeLookup (Value.type "tuple") (Str.ofString "__hash__")=pure (some (.builtin "tuple.__hash__")):=by kernel_rfl
theorem zbj2 {v:Value}{n:Nat}(h:carriedByValue v=true):∃ b,hashByValue n v=pure b:=by
 cases v with
 | none=>exact⟨_,hashByValue.eq_1 _⟩
 | bool b=>exact⟨_,hashByValue.eq_2 _ _⟩
 | int i t=>exact⟨_,hashByValue.eq_3 _ _ _⟩
 | float b t=>exact⟨_,hashByValue.eq_4 _ _ _⟩
 | str x t=>exact⟨_,hashByValue.eq_5 _ _ _⟩
 | bytes b t=>exact⟨_,hashByValue.eq_6 _ _ _⟩
 | ellipsis=>exact⟨_,hashByValue.eq_7 _⟩
 | notImplemented=>exact⟨_,hashByValue.eq_8 _⟩
 | type n=>exact⟨_,hashByValue.eq_9 _ _⟩
 | builtin id=>exact⟨_,hashByValue.eq_10 _ _⟩
 | ref a=>cases h
theorem zbl3 {k:List Int}{p:Addr}{Q:Bool->Shared->Prop}(h:IsTupleKey (intKind prog w) s.heap k p) (q:∀ b,Q b s):wpAny (model prog w) A (hashByValue 8 (.ref p)) Q E s:=by
 show wpAny (model prog w) A (hashByValue (7+1) (.ref p)) Q E s
 rw[hashByValue.eq_12]
 refine wpAny_bind (wpAny_specialOf h.typeIs zav3 ?_)
 obtain⟨o,items,n,ho,hc,hd,hi⟩:=h
 refine wpAny_bind (wpAny_seqItems ho hd ?_)
 refine wpAny_bind ?_
 refine wpAny_forIn_array' _ (fun rest b s'=>s'=s/\∀ v∈rest,carriedByValue v=true) _ ?_ ?_ items _ ⟨rfl,zaf4 hi⟩
 ·rintro x rest b s' ⟨rfl,hv⟩
  obtain⟨b,eb⟩:=zbj2 (n:=7) (hv x (.head _))
  rw[eb]
  refine wpAny_bind (wpAny_pure ?_)
  cases b
  ·refine wpAny_ite_true rfl (wpAny_pure ?_)
   exact wpAny_pure (q _)
  ·refine wpAny_ite_false rfl (wpAny_pure ?_)
   exact⟨rfl,fun v h=>hv v (.tail _ h)⟩
 ·rintro⟨b,u⟩ s' ⟨rfl,_⟩
  cases b with
  | none=>exact wpAny_pure (q _)
  | some r=>exact wpAny_pure (q _)
theorem zbn0 {k:List Int}{q:Addr}{Q:Bool->Shared->Prop}(hk:IsTupleKey (intKind prog w) s.heap k q) {vs:List Value}(hv:∀ v∈vs,∃ p k',v=.ref p/\IsTupleKey (intKind prog w) s.heap k' p) (hQ:Q false s):wpAny (model prog w) A (searchCouldBeSeen (.ref q) vs) Q E s:=by
 unfold searchCouldBeSeen
 refine wpAny_bind ?_
 refine zr6 _ (fun rest b s'=>s'=s/\b=(none,())/\∀ v∈rest,∃ p k',v=.ref p/\IsTupleKey (intKind prog w) s.heap k' p) _ ?_ ?_ vs _ _ ⟨rfl,rfl,hv⟩
 ·rintro x rest b s' ⟨rfl,rfl,hv⟩
  obtain⟨p,k',rfl,hp⟩:=hv x (.head _)
  have hr:∀ v∈rest,∃ p k',v=.ref p/\IsTupleKey (intKind prog w) s'.heap k' p:=fun v h=>hv v (.tail _ h)
  show wpAny (model prog w) A (if ((q==p) || carriedByValue (Value.ref q)&&carriedByValue (Value.ref p))=true then _ else _) _ E s'
  by_cases c:((q==p) || carriedByValue (Value.ref q)&&carriedByValue (Value.ref p))=true
  ·rw[if_pos c]
   exact wpAny_pure ⟨rfl,rfl,hr⟩
  ·rw[if_neg c]
   refine wpAny_bind (wpAny_eqIsQuiet_tuple hk ?_)
   refine wpAny_ite_false rfl ?_
   refine wpAny_bind (wpAny_eqIsQuiet_tuple hp ?_)
   refine wpAny_ite_false rfl ?_
   refine wpAny_bind (zax5 hk ?_)
   refine wpAny_ite_false rfl ?_
   refine wpAny_bind (zax5 hp ?_)
   refine wpAny_ite_false rfl ?_
   exact wpAny_pure ⟨rfl,rfl,hr⟩
 ·rintro b s' ⟨rfl,rfl,_⟩
  exact wpAny_pure hQ
structure SetE (prog:Program) (w:World) (h:Heap) (a:Addr) (o:Obj) (es:Array (Int×Value)) (ep:Nat) (t:SetTable) (keys:List (List Int)):Prop where
 at_:h.get? a=some o
 ex:o.ExactSet
 dat:o.data=Data.set es ep t
 tab:TOk t (es.toList.map (·.1))
 few:es.size*5<t.mask*3
 sz:es.size=keys.length
 el:∀ e∈es.toList,∃ p k,k∈keys/\e=(tupleKeyHash (intKind prog w) k,.ref p)/\IsTupleKey (intKind prog w) h k p
 all:∀ k∈keys,∃ e∈es.toList,∃ p,e=(tupleKeyHash (intKind prog w) k,.ref p)/\IsTupleKey (intKind prog w) h k p
theorem SetE.mask {h:Heap}{a:Addr}{o:Obj}{es:Array (Int×Value)}{ep:Nat}{t:SetTable}{keys:List (List Int)}(S:SetE prog w h a o es ep t keys):Msk t.mask:=S.tab.msk
theorem TOk.fits {t:SetTable}{es:Array (Int×Value)}(T:TOk t (es.toList.map (·.1))) (few:es.size<=t.mask):t.fits es.size=true:=by
 have l:=T.len
 rw[zbp5,Array.length_toList,Array.length_toList] at l
 unfold SetTable.fits SetTable.fill
 rw[T.dum,l]
 simp
 exact few
theorem SetE.fits {h:Heap}{a:Addr}{o:Obj}{es:Array (Int×Value)}{ep:Nat}{t:SetTable}{keys:List (List Int)}(S:SetE prog w h a o es ep t keys):t.fits es.size=true:=S.tab.fits (by have:=S.few;omega)
theorem SetE.gave {h:Heap}{a:Addr}{o:Obj}{es:Array (Int×Value)}{ep:Nat}{t:SetTable}{keys:List (List Int)}(S:SetE prog w h a o es ep t keys):t.gaveWay=false:=by
 unfold SetTable.gaveWay
 rcases S.mask with e|e<;>rw[e]<;>rfl
theorem zal6 (p:Addr):isSame (.ref p) (.ref p)=pure true:=by
 show (if (p==p)=true then pure true else _)=_
 rw[if_pos (beq_self_eq_true p)]
theorem zam4 (t:SetTable):t.sameMemory t.moves t.mask=some true:=by
 unfold SetTable.sameMemory
 rw[if_pos (beq_self_eq_true _)]
theorem zay9 {a:Addr}{o:Obj}{es:Array (Int×Value)}{ep:Nat}{t:SetTable}{keys:List (List Int)}(S:SetE prog w s.heap a o es ep t keys) (hA:A.units<cLine) {k:List Int}{q:Addr}(hk:IsTupleKey (intKind prog w) s.heap k q) {k0:Nat}(free:wk t.mask (tupleKeyHash (intKind prog w) k) k0 ∉ t.place.toList) (full:∀ k',k'<k0->wk t.mask (tupleKeyHash (intKind prog w) k) k'∈t.place.toList) (hk0:k0<10*(t.mask+14)) {Q:SetFound->Shared->Prop}(q1:k∈keys->Q (.there none) s) (q2:k ∉ keys->Q (.free (wk t.mask (tupleKeyHash (intKind prog w) k) k0) false) s) :
  ∀ (fuel n:Nat) (stand:Option SetTable.Probe),n<=k0->k0 - n<fuel->stand.getD (t.probeStart (tupleKeyHash (intKind prog w) k))=stp t.mask (tupleKeyHash (intKind prog w) k) n->(∀ k',k'<n->∀ (i:Nat) p,t.place.toList[i]?=some (wk t.mask (tupleKeyHash (intKind prog w) k) k')->es.toList[i]?=some (tupleKeyHash (intKind prog w) k,.ref p)->¬ IsTupleKey (intKind prog w) s.heap k p)->wpAny (model prog w) A (setSearchFrom a (.ref q) (tupleKeyHash (intKind prog w) k) true fuel stand) Q E s
 | 0,n,stand,h1,h2,h3,h4=>by omega
 | fuel+1,n,stand,h1,h2,h3,h4=>by
  rw[setSearchFrom.eq_2]
  refine wpAny_bind (wpAny_setState_of S.at_ S.dat S.fits ?_)
  show wpAny (model prog w) A (if t.gaveWay=true then _ else _) Q E s
  rw[S.gave]
  refine wpAny_ite_false rfl ?_
  rw[h3]
  have hl:=S.tab.len
  rw[zbp5] at hl
  rcases zak8 S.tab (hashAt:=fun i=>(Option.map (fun x=>x.fst) es[i]?).getD 0) free full (10*(t.mask+15)) n h1 (by omega) with ⟨k1,i,b1,b2,b3,b4,b5,b6⟩|⟨b1,b2⟩
  ·have b5:t.probe (fun i=>(Option.map (fun x=>x.fst) es[i]?).getD 0) (tupleKeyHash (intKind prog w) k) (stp t.mask (tupleKeyHash (intKind prog w) k) n)=_:=b5
   show wpAny (model prog w) A (match t.probe (fun i=>(Option.map (fun x=>x.fst) es[i]?).getD 0) (tupleKeyHash (intKind prog w) k) (stp t.mask (tupleKeyHash (intKind prog w) k) n) with|some met=>_|_=>_) Q E s
   rw[b5]
   have hi:i<es.size:=by
    have:=(zbp8.mp b3).1
    rw[hl,Array.length_toList] at this
    exact this
   have ei:es[i]?=some es[i]:=Array.getElem?_eq_getElem hi
   have em:es[i]∈es.toList:=by rw[Array.mem_toList_iff];exact Array.getElem_mem hi
   obtain⟨p,k',hk',eq,hp⟩:=S.el _ em
   rw[eq] at ei em
   have hh:tupleKeyHash (intKind prog w) k'=tupleKeyHash (intKind prog w) k:=by
    rw[ei] at b4
    exact b4
   have inv:¬ k'=k->∀ k'',k''<k1+1->∀ (i':Nat) p',t.place.toList[i']?=some (wk t.mask (tupleKeyHash (intKind prog w) k) k'')->es.toList[i']?=some (tupleKeyHash (intKind prog w) k,.ref p')->¬ IsTupleKey (intKind prog w) s.heap k p':=fun ne k'' hk'' i' p' e1 e2 hp'=>by
    by_cases c1:k''<n
    ·exact h4 k'' c1 i' p' e1 e2 hp'
    ·by_cases c2:k''<k1
     ·have:=b6 k'' (by omega) c2 i' e1
      rw[← Array.getElem?_toList,e2] at this
      exact this rfl
     ·have:k''=k1:=by omega
      subst this
      have x1:=zr5 S.tab.srt (i:=i') (by rw[← Array.getElem?_toList];exact e1)
      have x2:=zr5 S.tab.srt (i:=i) (by rw[← Array.getElem?_toList];exact b3)
      have:i'=i:=by omega
      subst this
      rw[Array.getElem?_toList,ei] at e2
      have:=(Prod.mk.inj (Option.some.inj e2)).2
      cases this
      exact ne (IsTupleKey.inj hp hp')
   refine wpAny_ite ?_
   split
   ·refine wpAny_bind (zbn0 hk (fun v hv=>?_) ?_)
    ·obtain⟨z,hz,rfl⟩:=zbr5.mp hv
     obtain⟨hz,_⟩:=Array.mem_filter.mp (Array.mem_toList_iff.mp hz)
     obtain⟨p2,k2,_,e2,h2⟩:=S.el z (Array.mem_toList_iff.mpr hz)
     exact⟨p2,k2,by rw[e2],h2⟩
    refine wpAny_ite_false rfl ?_
    rw[ei]
    refine wpAny_bind (wpAny_holding (wpAny_eqBool_tuple hA hp hk ?_))
    refine wpAny_bind (wpAny_setState_of S.at_ S.dat S.fits ?_)
    by_cases e:k'=k
    ·rw[decide_eq_true e]
     exact wpAny_ite_true rfl (wpAny_pure (q1 (e▸hk')))
    ·rw[decide_eq_false e]
     refine wpAny_ite_false rfl ?_
     rw[zam4]
     show wpAny (model prog w) A (match t.slot (wk t.mask (tupleKeyHash (intKind prog w) k) k1) with|SetTable.Slot.live i'=>_|x=>_) Q E s
     rw[zw3 S.tab.srt (i:=i) (by rw[← Array.getElem?_toList];exact b3)]
     show wpAny (model prog w) A (match es[i]? with|some (fst,y')=>_|none=>_) Q E s
     rw[ei]
     refine wpAny_bind (wpAny_of_eq (zal6 p) ?_)
     refine wpAny_bind (wpAny_pure ?_)
     refine wpAny_ite_false rfl ?_
     exact zay9 S hA hk free full hk0 q1 q2 fuel (k1+1) (some _) (by omega) (by omega) rfl (inv e)
   ·rw[ei]
    refine wpAny_bind (wpAny_holding (wpAny_eqBool_tuple hA hp hk ?_))
    refine wpAny_bind (wpAny_setState_of S.at_ S.dat S.fits ?_)
    by_cases e:k'=k
    ·rw[decide_eq_true e]
     exact wpAny_ite_true rfl (wpAny_pure (q1 (e▸hk')))
    ·rw[decide_eq_false e]
     refine wpAny_ite_false rfl ?_
     rw[zam4]
     show wpAny (model prog w) A (match t.slot (wk t.mask (tupleKeyHash (intKind prog w) k) k1) with|SetTable.Slot.live i'=>_|x=>_) Q E s
     rw[zw3 S.tab.srt (i:=i) (by rw[← Array.getElem?_toList];exact b3)]
     show wpAny (model prog w) A (match es[i]? with|some (fst,y')=>_|none=>_) Q E s
     rw[ei]
     refine wpAny_bind (wpAny_of_eq (zal6 p) ?_)
     refine wpAny_bind (wpAny_pure ?_)
     refine wpAny_ite_false rfl ?_
     exact zay9 S hA hk free full hk0 q1 q2 fuel (k1+1) (some _) (by omega) (by omega) rfl (inv e)
  ·have b1:t.probe (fun i=>(Option.map (fun x=>x.fst) es[i]?).getD 0) (tupleKeyHash (intKind prog w) k) (stp t.mask (tupleKeyHash (intKind prog w) k) n)=_:=b1
   show wpAny (model prog w) A (match t.probe (fun i=>(Option.map (fun x=>x.fst) es[i]?).getD 0) (tupleKeyHash (intKind prog w) k) (stp t.mask (tupleKeyHash (intKind prog w) k) n) with|some met=>_|_=>_) Q E s
   rw[b1]
   refine wpAny_pure (q2 fun hin=>?_)
   obtain⟨e,he,p,rfl,hp⟩:=S.all k hin
   obtain⟨i,ei⟩:=zbs8 he
   obtain⟨kx,r1,r2⟩:=S.tab.rch i (tupleKeyHash (intKind prog w) k) (by rw[zbq2,ei];rfl)
   have lt:kx<k0:=by
    by_cases z:kx<k0
    ·exact z
    ·exfalso
     by_cases z2:kx=k0
     ·subst z2
      exact free (zbq0 r1)
     ·exact free (r2 k0 (by omega))
   by_cases c:kx<n
   ·exact h4 kx c i p r1 ei hp
   ·have:=b2 kx (by omega) lt i r1
    rw[← Array.getElem?_toList,ei] at this
    exact this rfl
theorem zax2 {h:Heap}{a:Addr}{o:Obj}{es:Array (Int×Value)}{ep:Nat}{t:SetTable}(ho:h.get? a=some o) (ex:o.ExactSet) (dat:o.data=Data.set es ep t) (es':Array (Int×Value)) (t':SetTable):∃ o',(h.update a (Obj.putSet es' t')).get? a=some o'/\o'.ExactSet/\o'.data=Data.set es' (ep+1) t'/\Heap.SameBut a h (h.update a (Obj.putSet es' t')):=by
 have e:=putSet_of es' t' dat
 have g:=Heap.get?_update_self (Obj.putSet es' t') ho (by rw[e];rfl)
 rw[e] at g
 exact⟨_,g,ex,rfl,Heap.size_update _ _ _,fun b hb=>Heap.get?_update_other h _ (Ne.symm hb)⟩
theorem zan0 {h h':Heap}{a p:Addr}{o:Obj}{k:List Int}(hk:IsTupleKey (intKind prog w) h k p) (ho:h.get? a=some o) (ex:o.ExactSet) (sb:Heap.SameBut a h h'):IsTupleKey (intKind prog w) h' k p:=by
 obtain⟨o2,items,n,g,c,d,i⟩:=hk
 have ne:p≠a:=fun e=>by
  subst e
  rw[ho] at g
  cases g
  rw[ex.1] at c
  exact absurd (Value.type.inj c) (by decide)
 exact⟨o2,items,n,by rw[sb.2 p ne];exact g,c,d,i⟩
theorem zbi4 {α:Type}{xs:List α}{p:Nat}{x y:α}:y∈xs.take p++x :: xs.drop p↔y=x∨y∈xs:=by
 rw[zbr2,zbq8]
 constructor
 ·rintro (h|h|h)
  ·exact .inr (zbw0 h)
  ·exact .inl h
  ·exact .inr (zbw1 h)
 ·rintro (h|h)
  ·exact .inr (.inl h)
  ·rw[← List.take_append_drop p xs] at h
   rcases zbr2.mp h with h|h
   ·exact .inl h
   ·exact .inr (.inr h)
theorem zbl6 (q:Addr) (es:Array (Int×Value)):byScan (.ref q) es=false:=by
 unfold byScan
 show ((false&&_)&&_)=false
 rw[Bool.false_and,Bool.false_and]
theorem SetE.put {h h':Heap}{a:Addr}{o o':Obj}{es es':Array (Int×Value)}{ep ep':Nat}{t t':SetTable}{keys:List (List Int)}(S:SetE prog w h a o es ep t keys) {k:List Int}{q:Addr}(hk:IsTupleKey (intKind prog w) h k q) (g:h'.get? a=some o') (ex:o'.ExactSet) (dat:o'.data=Data.set es' ep' t') (sb:Heap.SameBut a h h') (T:TOk t' (es'.toList.map (·.1))) (few:es'.size*5<t'.mask*3) (sz:es'.size=es.size+1) (mem:∀ e,e∈es'.toList↔e=(tupleKeyHash (intKind prog w) k,.ref q)∨e∈es.toList):SetE prog w h' a o' es' ep' t' (k :: keys):=by
 refine⟨g,ex,dat,T,few,by rw[sz,S.sz];rfl,fun e he=>?_,fun k' hk'=>?_⟩
 ·rcases (mem e).mp he with rfl|he
  ·exact⟨q,k,.head _,rfl,zan0 hk S.at_ S.ex sb⟩
  ·obtain⟨p,k',h1,h2,h3⟩:=S.el e he
   exact⟨p,k',.tail _ h1,h2,zan0 h3 S.at_ S.ex sb⟩
 ·rcases zbq8.mp hk' with rfl|hk'
  ·exact⟨_,(mem _).mpr (.inl rfl),q,rfl,zan0 hk S.at_ S.ex sb⟩
  ·obtain⟨e,he,p,h2,h3⟩:=S.all k' hk'
   exact⟨e,(mem e).mpr (.inr he),p,h2,zan0 h3 S.at_ S.ex sb⟩
theorem zaz4:SetTable.sizeAbove 20=32:=by decide +kernel
set_option maxHeartbeats 0 in
theorem zbj8 {a:Addr}{o:Obj}{es:Array (Int×Value)}{ep:Nat}{t:SetTable}{keys:List (List Int)}(S:SetE prog w s.heap a o es ep t keys) (hA:A.units<cLine) {k:List Int}{q:Addr}(hk:IsTupleKey (intKind prog w) s.heap k q) (hn:keys.length<18) {Q:Bool->Shared->Prop}(q1:k∈keys->Q false s) (q2:k ∉ keys->∀ h' o' es' ep' t',SetE prog w h' a o' es' ep' t' (k :: keys)->Heap.SameBut a s.heap h'->Q true { s with heap:=h' }):wpAny (model prog w) A (setAddHashed a (.ref q) (tupleKeyHash (intKind prog w) k)) Q E s:=by
 unfold setAddHashed
 refine wpAny_holding ?_
 show wpAny (model prog w) A (setAddHashedIn a (.ref q) (tupleKeyHash (intKind prog w) k) (99999+1)) Q E s
 rw[setAddHashedIn.eq_2]
 refine wpAny_bind (wpAny_setState_of S.at_ S.dat S.fits ?_)
 show wpAny (model prog w) A (if byScan (.ref q) es=true then _ else _) Q E s
 rw[zbl6]
 refine wpAny_ite_false rfl ?_
 have sz:=S.sz
 have few:=S.few
 have pl:t.place.toList.length=es.size:=by rw[S.tab.len,zbp5,Array.length_toList]
 obtain⟨k0,hk0,free,full⟩:=zax0 S.mask (tupleKeyHash (intKind prog w) k) (ps:=t.place.toList) (by rw[pl];omega)
 refine wpAny_bind ?_
 unfold setSearch
 refine zay9 S hA hk free full hk0 (fun hin=>?_) (fun hout=>?_) 100000 0 none (zbs4 _) (by rcases S.mask with e|e<;>rw[e] at hk0<;>omega) rfl (fun k' h=>by omega)
 ·exact wpAny_pure (q1 hin)
 ·refine wpAny_bind (wpAny_setState_of S.at_ S.dat S.fits ?_)
  obtain⟨p1,p2,p3,p4⟩:=S.tab.put free full
  have p3:(t.put (wk t.mask (tupleKeyHash (intKind prog w) k) k0)).2=SetTable.below t.place (wk t.mask (tupleKeyHash (intKind prog w) k) k0):=p3
  obtain⟨t2,et2⟩:∃ t2,(t.put (wk t.mask (tupleKeyHash (intKind prog w) k) k0)).1=t2:=⟨_,rfl⟩
  obtain⟨p,ep2⟩:∃ p,SetTable.below t.place (wk t.mask (tupleKeyHash (intKind prog w) k) k0)=p:=⟨_,rfl⟩
  have eput:t.put (wk t.mask (tupleKeyHash (intKind prog w) k) k0)=(t2,p):=by rw[← et2,← ep2,← p3]
  rw[et2,ep2] at p2
  rw[et2] at p4
  rw[ep2,zbp5,Array.length_toList] at p1
  have next:∀ (b:Bool) (J:Bool->Sem Bool),(∀ b,J b=(do
    storeSet a (SetTable.insertAt es p (tupleKeyHash (intKind prog w) k,.ref q)) (if b=true then t2 else { mask:=t2.mask,place:=t2.place,dummies:=t2.dummies,finger:=t2.finger,led:=t2.led,moves:=t2.moves,plain:=false })
    if (!false&&(if b=true then t2 else { mask:=t2.mask,place:=t2.place,dummies:=t2.dummies,finger:=t2.finger,led:=t2.led,moves:=t2.moves,plain:=false }).tooFull)=true then do
      setRelay a (SetTable.grown (es.size+1))
      pure true
     else pure true))->wpAny (model prog w) A (J b) Q E s:=fun b J hJ=>by
   rw[hJ]
   obtain⟨t3,et3⟩:∃ t3,(if b=true then t2 else { mask:=t2.mask,place:=t2.place,dummies:=t2.dummies,finger:=t2.finger,led:=t2.led,moves:=t2.moves,plain:=false })=t3:=⟨_,rfl⟩
   have e1:t3.mask=t2.mask/\t3.place=t2.place/\t3.dummies=t2.dummies:=by rw[← et3];cases b<;>exact⟨rfl,rfl,rfl⟩
   rw[et3]
   obtain⟨es2,ees2⟩:∃ es2,SetTable.insertAt es p (tupleKeyHash (intKind prog w) k,Value.ref q)=es2:=⟨_,rfl⟩
   have el2:es2.toList=es.toList.take p++(tupleKeyHash (intKind prog w) k,Value.ref q) :: es.toList.drop p:=by rw[← ees2,SetTable.toList_insertAt]
   have sz2:es2.size=es.size+1:=by rw[← Array.length_toList,el2,zv9 (by rw[Array.length_toList];exact p1),Array.length_toList]
   have T3:TOk t3 (es2.toList.map (·.1)):=by
    rw[el2,zbt3,zbt4,List.map_take,List.map_drop]
    exact p2.of e1.1 e1.2.1 e1.2.2
   have mem2:∀ e,e∈es2.toList↔e=(tupleKeyHash (intKind prog w) k,Value.ref q)∨e∈es.toList:=fun e=>by rw[el2];exact zbi4
   rw[ees2]
   obtain⟨o2,g2,ex2,dat2,sb2⟩:=zax2 S.at_ S.ex S.dat es2 t3
   refine wpAny_bind (wpAny_storeSet_of S.at_ S.dat ?_ (by rw[sz2];exact zbt7 (show es.size+1<=18 by omega) (by decide)))
   have full3:t3.fill=es.size+1:=by
    unfold SetTable.fill
    rw[T3.dum]
    have:=T3.len
    rw[zbp5,Array.length_toList,Array.length_toList] at this
    rw[this,sz2]
    rfl
   by_cases c:(es.size+1)*5≥t.mask*3
   ·have m7:t.mask=7:=by
     rcases S.mask with e|e
     ·exact e
     ·rw[e] at c;omega
    have e4:es.size=4:=by rw[m7] at c few;omega
    have m3:t3.mask=7:=by rw[e1.1,p4,m7]
    have tf:(!false&&t3.tooFull)=true:=by
     unfold SetTable.tooFull
     rw[full3,m3,e4]
     rfl
    rw[tf]
    refine wpAny_ite_true rfl ?_
    rw[e4]
    refine wpAny_bind ?_
    unfold setRelay
    refine wpAny_bind (wpAny_setState_of g2 dat2 (T3.fits (by rw[m3,sz2,e4];decide)) ?_)
    show wpAny (model prog w) A (if SetTable.sizeAbove 20>sizeLine then _ else _) _ E _
    rw[zaz4]
    refine wpAny_ite_false (by decide) ?_
    obtain⟨t4,order,l1,l2,l3,l4,l5⟩:=zbk4 (mask:=31) (finger:=t3.finger) (moves:=t3.movedTo 31) (led:=t3.led) (plain:=t3.plain) (.inr rfl) (es:=es2) (by omega)
    have rel:t3.relaid (Array.map (fun x=>x.fst) es2) 20=some (t4,order):=by
     show SetTable.laid (SetTable.sizeAbove 20 - 1) t3.finger (t3.movedTo (SetTable.sizeAbove 20 - 1)) t3.led t3.plain (Array.map (fun x=>x.fst) es2)=_
     rw[zaz4]
     exact l1
    refine wpAny_bind ?_
    show wpAny (model prog w) A (match t3.relaid (Array.map (fun x=>x.fst) es2) 20 with|some (t,order)=>_|x=>_) _ E _
    rw[rel]
    show wpAny (model prog w) A (if ((Array.filterMap (fun x=>es2[x]?) order).size != es2.size)=true then _ else _) _ E _
    rw[l3]
    refine wpAny_ite_false (by simp) (wpAny_pure ?_)
    obtain⟨o5,g5,ex5,dat5,sb5⟩:=zax2 g2 ex2 dat2 (Array.filterMap (fun x=>es2[x]?) order) t4
    refine wpAny_storeSet_of g2 dat2 ?_ (by rw[l3,sz2];exact zbt7 (show es.size+1<=18 by omega) (by decide))
    refine wpAny_pure (q2 hout _ o5 _ _ t4 (S.put hk g5 ex5 dat5 ⟨sb5.1.trans sb2.1,fun b hb=>(sb5.2 b hb).trans (sb2.2 b hb)⟩ l5 (by rw[l3,l2,sz2,e4];decide) (by rw[l3,sz2]) (fun e=>?_)) ⟨sb5.1.trans sb2.1,fun b hb=>(sb5.2 b hb).trans (sb2.2 b hb)⟩)
    rw[l4.mem_iff]
    exact mem2 e
   ·have tf:(!false&&t3.tooFull)=false:=by
     unfold SetTable.tooFull
     rw[full3,e1.1,p4]
     exact decide_eq_false c
    rw[tf]
    refine wpAny_ite_false rfl ?_
    exact wpAny_pure (q2 hout _ o2 _ _ t3 (S.put hk g2 ex2 dat2 sb2 T3 (by rw[sz2,e1.1,p4];omega) sz2 mem2) sb2)
  subst et2
  subst ep2
  show wpAny (model prog w) A (if (t.put (wk t.mask (tupleKeyHash (intKind prog w) k) k0)).1.plain=true then _ else _) Q E s
  refine wpAny_ite ?_
  split
  ·refine wpAny_bind (zbl3 hk fun b=>?_)
   exact next b _ fun b=>rfl
  ·refine wpAny_bind (wpAny_pure ?_)
   exact next true _ fun b=>rfl
end
end L2
set_option maxHeartbeats 4000000
namespace L2
open PySem PySem.Spec PyProof.Rows
def ddK:List (List Int)->List (List Int)->List (List Int)
 | acc,[]=>acc
 | acc,k :: ks=>ddK (if k∈acc then acc else k :: acc) ks
section
variable {prog:Program}{w:World}{A:Around}{E:Value->Shared->Prop}{s:Shared}
theorem zab9 {h h':Heap}{k:List Int}{p:Addr}(hk:IsTupleKey (intKind prog w) h k p) (m:∀ o,h.get? p=some o->h'.get? p=some o):IsTupleKey (intKind prog w) h' k p:=by
 obtain⟨o,i,n,g,c,d,x⟩:=hk
 exact⟨o,i,n,m o g,c,d,x⟩
theorem SetE.moved {h h':Heap}{a I:Addr}{o:Obj}{es:Array (Int×Value)}{ep:Nat}{t:SetTable}{keys:List (List Int)}(S:SetE prog w h a o es ep t keys) (hI:∃ oI,h.get? I=some oI/\oI.cls=.type "list_iterator") (m:∀ b o,¬ b∈[I]->h.get? b=some o->h'.get? b=some o):SetE prog w h' a o es ep t keys:=by
 obtain⟨oI,gI,cI⟩:=hI
 have tk:∀ {k:List Int}{p:Addr},IsTupleKey (intKind prog w) h k p->IsTupleKey (intKind prog w) h' k p:=fun {k p} hk=>by
  refine zab9 hk fun o g=>m _ o (fun hm=>?_) g
  have e:=zbu5.mp hm
  subst e
  obtain⟨o2,i,n,g2,c2,_⟩:=hk
  rw[gI] at g2
  cases g2
  rw[cI] at c2
  exact absurd (Value.type.inj c2) (by decide)
 refine⟨m _ _ (fun hm=>?_) S.at_,S.ex,S.dat,S.tab,S.few,S.sz,fun e he=>?_,fun k hk=>?_⟩
 ·have e:=zbu5.mp hm
  have g:=S.at_
  rw[e,gI] at g
  cases g
  have c:=S.ex.1
  rw[cI] at c
  exact absurd (Value.type.inj c) (by decide)
 ·obtain⟨p,k,h1,h2,h3⟩:=S.el e he
  exact⟨p,k,h1,h2,tk h3⟩
 ·obtain⟨e,he,p,h2,h3⟩:=S.all k hk
  exact⟨e,he,p,h2,tk h3⟩
theorem zai0:∀ (acc ks:List (List Int)),(ddK acc ks).length<=acc.length+ks.length
 | acc,[]=>zbq9 _
 | acc,k :: ks=>by
  have:=zai0 (if k∈acc then acc else k :: acc) ks
  have h2:(if k∈acc then acc else k :: acc).length<=acc.length+1:=by split<;>simp
  show (ddK (if k∈acc then acc else k :: acc) ks).length<=acc.length+(ks.length+1)
  omega
theorem zp4 {h:Heap}{I l:Addr}{i:Nat}(hi:h.IsListIter I l i):∃ oI,h.get? I=some oI/\oI.cls=.type "list_iterator":=by
 obtain⟨o,g,c,_⟩:=hi
 exact⟨o,g,c⟩
set_option maxHeartbeats 0 in
theorem zao7 {R:Result->Shared->Prop}{I l:Addr}{items:Array Value}(hA:A.units+5<cLine) (W:WalksS prog w A.in1 I [I,l] [I] (fun a b=>b=a) items.size (fun i v=>items[i]?=some v) (fun i s=>s.heap.IsListIter I l i/\s.heap.IsList l items)) {S:Addr}(hS:S ∉ [I,l]) {ps:List Addr}{kss:List (List Int)}(hi:items.toList=ps.map Value.ref) (hl:ps.length=kss.length) (h18:kss.length<=18) :
  ∀ (n i:Nat) (s:Shared) (acc:List (List Int)),items.size - i=n->i<=items.size->(s.heap.IsListIter I l i/\s.heap.IsList l items)->(∃ o es ep t,SetE prog w s.heap S o es ep t acc)->acc.length<=i->(∀ (j:Nat) p k,ps[j]?=some p->kss[j]?=some k->IsTupleKey (intKind prog w) s.heap k p) ->
   (∀ s' o es ep t,Moved [S,I] (fun a b=>b=a) s s'->SetE prog w s'.heap S o es ep t (ddK acc (kss.drop i))->R (.ok (.ret .none)) s')->codeAny (model prog w) A (.builtin "set.update.loop" ⟨[.ref S,.ref I],[]⟩) R s
 | 0,i,s,acc,h1,h2,h3,⟨o,es,ep,t,hE⟩,h5,h6,h7=>by
  have e:i=items.size:=by omega
  have sz:items.size=kss.length:=by rw[← Array.length_toList,hi,zbp5,hl]
  subst e
  refine codeAny_builtin F.entry_set_update_loop ?_
  rw[Around.under_plainId F.plain_set_update_loop]
  refine wpAny_bind (W.done s _ _ h3 fun s' hm=>?_)
  refine wpAny_pure (h7 s' o es ep t ⟨fun b o hb g=>hm.heap b o (fun z=>hb (.tail _ z)) g,hm.gens,hm.drawn,hm.os,hm.toks⟩ ?_)
  rw[zbw5 (by omega)]
  exact hE.moved (zp4 h3.1) hm.heap
 | n+1,i,s,acc,h1,h2,h3,⟨o,es,ep,t,hE⟩,h5,h6,h7=>by
  have sz:items.size=kss.length:=by rw[← Array.length_toList,hi,zbp5,hl]
  refine codeAny_builtin F.entry_set_update_loop ?_
  rw[Around.under_plainId F.plain_set_update_loop]
  refine wpAny_bind (W.item i s _ _ (by omega) h3 fun v s' hP hst hm=>?_)
  have hP':items.toList[i]?=some v:=by rw[Array.getElem?_toList];exact hP
  rw[hi,zbq2] at hP'
  obtain⟨p,ep1,rfl⟩:=zbq7.mp hP'
  obtain⟨k,ek⟩:∃ k,kss[i]?=some k:=⟨_,zbp6 (by omega)⟩
  have hE':=hE.moved (zp4 h3.1) hm.heap
  have tk':∀ (j:Nat) p k,ps[j]?=some p->kss[j]?=some k->IsTupleKey (intKind prog w) s'.heap k p:=fun j p k e1 e2=>by
   have hk:=h6 j p k e1 e2
   obtain⟨oI,gI,cI⟩:=zp4 h3.1
   refine zab9 hk fun o g=>hm.heap _ o (fun hm'=>?_) g
   have e:=zbu5.mp hm'
   subst e
   obtain⟨o2,i2,n2,g2,c2,_⟩:=hk
   rw[gI] at g2
   cases g2
   rw[cI] at c2
   exact absurd (Value.type.inj c2) (by decide)
  have hk:=tk' i p k ep1 ek
  refine wpAny_bind (wpAny_holding ?_)
  unfold setAdd
  refine wpAny_holding (wpAny_bind (wpAny_pyHash_tuple (by show A.in1.units<cLine;rw[zk7];omega) hk ?_))
  have fin:∀ (tk:Nat) (h':Heap) (acc':List (List Int)) (o':Obj) (es':Array (Int×Value)) (ep':Nat) (t':SetTable),s'.toks<=tk->acc'=(if k∈acc then acc else k :: acc)->SetE prog w h' S o' es' ep' t' acc'->(∀ b o,b≠S->s'.heap.get? b=some o->h'.get? b=some o)->wpAny (model prog w) A.in1 (again (Code.builtin "set.update.loop" ⟨[.ref S,.ref I],[]⟩)) (fun fin s'=>match fin with|.done f=>R (.ok f) s' | .again c'=>c'.quiet=true/\codeAny (model prog w) A c' R s') (fun e s'=>R (.error e) s') { s' with heap:=h',toks:=tk }:=fun tk h' acc' o' es' ep' t' htk eacc hE2 hk2=>by
   have nI:I≠S:=fun z=>hS (z▸.head _)
   have nl:l≠S:=fun z=>hS (z▸.tail _ (.head _))
   refine wpAny_pure ⟨plainId_quiet F.plain_set_update_loop _,zao7 hA W hS hi hl h18 n (i+1) _ acc' (by omega) (by omega) ⟨hst.1.at fun o g=>hk2 _ o nI g,hst.2.at fun o g=>hk2 _ o nl g⟩ ⟨o',es',ep',t',hE2⟩ ?_ (fun j p k e1 e2=>?_) (fun s'' o3 es3 ep3 t3 hm3 hE3=>?_)⟩
   ·rw[eacc]
    split
    ·omega
    ·rw[zbq5];omega
   ·have hk:=tk' j p k e1 e2
    refine zab9 hk fun o g=>hk2 _ o (fun z=>?_) g
    subst z
    obtain⟨o2,i2,n2,g2,c2,_⟩:=hk
    rw[hE'.at_] at g2
    cases g2
    have:=hE'.ex.1
    rw[c2] at this
    exact absurd (Value.type.inj this) (by decide)
   ·refine h7 s'' o3 es3 ep3 t3 ⟨fun b o hb g=>?_,hm3.gens.trans hm.gens,hm3.drawn.trans hm.drawn,hm3.os.trans hm.os,zbt7 hm.toks (zbt7 htk hm3.toks)⟩ ?_
    ·have b1:b≠S:=fun z=>hb (z▸.head _)
     exact hm3.heap b o hb (hk2 b o b1 (hm.heap b o (fun z=>hb (.tail _ z)) g))
    ·rw[List.drop_eq_getElem_cons (show i<kss.length by omega),(zbp8.mp ek).2]
     show SetE prog w s''.heap S o3 es3 ep3 t3 (ddK (if k∈acc then acc else k :: acc) (kss.drop (i+1)))
     rw[← eacc]
     exact hE3
  refine zbj8 (s:={ s' with toks:=s'.toks+(k.length+1) }) hE' (by show A.in1.units<cLine;rw[zk7];omega) hk (by omega) (fun hin=>?_) (fun hout h' o' es' ep' t' hE2 sb=>?_)
  ·exact fin _ s'.heap acc o es ep t (by omega) (by rw[if_pos hin]) hE' (fun b o _ g=>g)
  ·exact fin _ h' (k :: acc) o' es' ep' t' (by show s'.toks<=s'.toks+(k.length+1);omega) (by rw[if_neg hout]) hE2 (fun b o hb g=>by rw[sb.2 b hb];exact g)
set_option maxHeartbeats 0 in
theorem zv7 {l:Addr}{items:Array Value}{ps:List Addr}{kss:List (List Int)}{Q:Value->Shared->Prop}(hh:A.handled=none) (hA:A.units+40<cLine) (hl:s.heap.IsList l items) (hi:items.toList=ps.map Value.ref) (hn:ps.length=kss.length) (h18:kss.length<=18) (hk:∀ (j:Nat) p k,ps[j]?=some p->kss[j]?=some k->IsTupleKey (intKind prog w) s.heap k p)
  (h:∀ h' tk o es ep t,SetE prog w h' s.heap.objs.size o es ep t (ddK [] kss)->(∀ b o,s.heap.get? b=some o->h'.get? b=some o)->Q (.ref s.heap.objs.size) { s with heap:=h',toks:=tk }):wpAny (model prog w) A (call (.type "set") [.ref l]) Q E s:=by
 obtain⟨c,tl,hmro⟩:=F.called_set.mro
 have hmade:=F.called_set.made
 have hsub:=F.called_set.sub
 refine wpAny_call (codeAny_of_tree ?_)
 refine wpAny_pure ⟨Code.quiet_builtin _ (by decide +kernel),codeAny_builtin F.entry_type_call ?_⟩
 rw[Around.under_plain (weight_type_call_type "set" [Value.ref l] []) rfl]
 have h1:=F.called_set.notType
 have h2:=F.called_set.canCreate
 have hct:=F.typeCall_set_1 (Value.ref l)
 unfold Builtin.«type.__call__»
 refine wpAny_ite_false (by decide) ?_
 refine wpAny_ite_false (by kernel_rfl) ?_
 refine wpAny_bind (wpAny_of_eq hct ?_)
 refine wpAny_bind (wpAny_of_eq hmro ?_)
 refine wpAny_ite_false rfl ?_
 refine wpAny_bind (wpAny_of_eq hmade ?_)
 refine wpAny_bind (wpAny_pure ?_)
 refine wpAny_bind (wpAny_holding (wpAny_call (codeAny_mono (code_set_new_1 (E:=E) (Q₁:=fun obj s₁=>∃ led,obj=Value.ref s.heap.objs.size/\s₁={ s with heap:=s.heap.push { cls:=.type "set",data:=.set #[] 0 (SetTable.fresh 0 0 led) } }) (.ref l) fun led=>⟨led,rfl,rfl⟩) fun r s₁ hr=>?_)))
 match r,hr with
 | .error e,hr=>exact hr
 | .ok (.ret v),⟨led,e1,e2⟩=>
  subst e1
  subst e2
  have hS:(s.heap.push { cls:=.type "set",data:=.set #[] 0 (SetTable.fresh 0 0 led) }).get? s.heap.objs.size=some { cls:=.type "set",data:=.set #[] 0 (SetTable.fresh 0 0 led) }:=zbr8 _ rfl
  have hT:({ s with heap:=s.heap.push { cls:=.type "set",data:=.set #[] 0 (SetTable.fresh 0 0 led) } }:Shared).TypeIs (.ref s.heap.objs.size) "set":=⟨_,hS,rfl⟩
  have hli:=F.called_set.init.lookup
  have hbi:=F.called_set.init.bind (Value.ref s.heap.objs.size)
  refine wpAny_bind (wpAny_isInstance hT hsub ?_)
  refine wpAny_ite_false rfl ?_
  refine wpAny_bind (wpAny_holding ?_)
  refine wpAny_bind (wpAny_specialOf hT hli ?_)
  refine wpAny_holding ?_
  refine wpAny_bind (wpAny_of_eq hbi ?_)
  refine wpAny_bind (wpAny_call (codeAny_mono (R:=wants (fun r s₂=>r=Value.none/\Q (.ref s.heap.objs.size) s₂) E) (codeAny_call_builtin F.called_set.init.plain F.entry_set_init (check_set_init_1 hT ?_)) fun r s₂ hr=>?_))
  ·obtain⟨ol,hol,hcl,nl,hdl⟩:=id hl
   have hol':=zbq1 { cls:=.type "set",data:=.set #[] 0 (SetTable.fresh 0 0 led) } hol
   unfold Builtin.«set.__init__»
   refine wpAny_bind (wpAny_ite_true rfl (wpAny_pure ?_))
   unfold typeNameOfCut shownTypeOf
   refine wpAny_bind ?_
   refine wpAny_bind (wpAny_bind (wpAny_typeOf hT (wpAny_ite_false (by decide) (wpAny_pure ?_))))
   refine wpAny_pure ?_
   refine wpAny_bind ?_
   unfold checkCount
   refine wpAny_ite_false rfl ?_
   refine wpAny_ite_false rfl ?_
   refine wpAny_ite_false rfl (wpAny_pure ?_)
   refine wpAny_bind (wpAny_pure ?_)
   have fits0:(SetTable.fresh 0 0 led).fits (#[]:Array (Int×Value)).size=true:=rfl
   unfold setUsed
   refine wpAny_bind (wpAny_bind (wpAny_setState_of hS rfl fits0 (wpAny_pure ?_)))
   refine wpAny_ite_false rfl ?_
   refine wpAny_bind ?_
   unfold Builtin.Frozenset.updateFrom Builtin.Frozenset.isAnySet
   have hTl:({ s with heap:=s.heap.push { cls:=.type "set",data:=.set #[] 0 (SetTable.fresh 0 0 led) } }:Shared).TypeIs (.ref l) "list":=⟨_,hol',hcl⟩
   refine wpAny_bind (wpAny_bind (wpAny_isInstance hTl F.sub_list_set ?_))
   refine wpAny_isInstance hTl F.sub_list_frozenset ?_
   refine wpAny_ite_false rfl ?_
   refine wpAny_bind (wpAny_typeOf hTl ?_)
   refine wpAny_ite_false (by decide) ?_
   have hl1:(s.heap.push { cls:=.type "set",data:=.set #[] 0 (SetTable.fresh 0 0 led) }).IsList l items:=⟨ol,hol',hcl,nl,hdl⟩
   refine wpAny_bind (wpAny_pyIter_list hl1 ?_)
   refine wpAny_bind (wpAny_runValue ?_)
   have lt:@LT.lt Nat _ l s.heap.objs.size:=zbr4 hol
   have psz:(s.heap.push { cls:=.type "set",data:=.set #[] 0 (SetTable.fresh 0 0 led) }).objs.size=s.heap.objs.size+1:=Array.size_push _
   have neI:l≠(s.heap.push { cls:=.type "set",data:=.set #[] 0 (SetTable.fresh 0 0 led) }).objs.size:=zbs3 (by rw[psz];exact Nat.lt_succ_of_lt lt)
   have neS:s.heap.objs.size ∉ [(s.heap.push { cls:=.type "set",data:=.set #[] 0 (SetTable.fresh 0 0 led) }).objs.size,l]:=fun z=>by
    rcases zbq8.mp z with z|z
    ·rw[psz] at z;exact absurd z (zbs3 (Nat.lt_succ_self _))
    ·exact absurd (zbu5.mp z).symm (zbs3 lt)
   have up:∀ b o,s.heap.get? b=some o->((s.heap.push { cls:=.type "set",data:=.set #[] 0 (SetTable.fresh 0 0 led) }).push { cls:=.type "list_iterator",data:=.fields #[.ref l,.int 0 0] }).get? b=some o:=fun b o g=>zbq1 _ (zbq1 _ g)
   refine zao7 (A:=A.in1.in1) (by rw[zk7,zk7];omega) (Walks.list (by exact hh) _ l neI items).toS neS hi hn h18 (items.size - 0) 0 _ [] rfl (zbs4 _) ⟨⟨_,zbr8 _ rfl,rfl,rfl⟩,hl1.at fun o g=>zbq1 _ g⟩ ⟨{ cls:=.type "set",data:=.set #[] 0 (SetTable.fresh 0 0 led) },#[],0,SetTable.fresh 0 0 led,?_⟩ (zbs4 _) (fun j p k e1 e2=>zab9 (hk j p k e1 e2) fun o g=>up p o g) (fun s' o es ep t hm hE=>?_)
   ·refine⟨zbq1 _ hS,⟨rfl,rfl,rfl⟩,rfl,⟨.inl rfl,rfl,rfl,List.Pairwise.nil,(fun j hj=>by cases hj),(fun i h e=>by simp at e)⟩,(show 0*5<7*3 by decide),rfl,(fun e he=>by cases he),(fun k hk=>by cases hk)⟩
   ·refine wpAny_pure (wpAny_pure ⟨rfl,?_⟩)
    rw[Moved.eq_with hm]
    refine h s'.heap s'.toks o es ep t hE fun b o g=>hm.heap b o (fun z=>?_) (up b o g)
    have lb:@LT.lt Nat _ b s.heap.objs.size:=zbr4 g
    rcases zbq8.mp z with z|z
    ·exact absurd z (zbs3 lb)
    ·have z:=zbu5.mp z
     rw[psz] at z
     exact absurd z (zbs3 (Nat.lt_succ_of_lt lb))
  ·match r,hr with
   | .error e,hr=>exact hr
   | .ok .next,hr=>exact hr
   | .ok .brk,hr=>exact hr
   | .ok .cont,hr=>exact hr
   | .ok (.ret v),⟨e1,hq⟩=>
    subst e1
    refine wpAny_pure ?_
    refine wpAny_ite_false rfl ?_
    exact wpAny_pure hq
 | .ok .next,hr=>exact hr
 | .ok .brk,hr=>exact hr
 | .ok .cont,hr=>exact hr
end
end L2
set_option maxHeartbeats 4000000
namespace L2
open PySem PySem.Spec PyProof.Rows PySem.W
theorem bt_set:bootBuiltins "set"=some (.type "set"):=by decide +kernel
def zx6 (k:Int×Int):List Int:=[k.1,k.2]
section
variable {X:Cx}{K:zbp7}
@[irreducible] def rLenS (K:zbp7) (a:Addr) (H:Hp) (Q:VK):Prop:=∃ (ps:List Addr) (ks:List (Int×Int)),SqL K H a (ps.map V.ref)/\ps.length=ks.length/\ks.length<=18/\(∀ (i:Nat) p k,ps[i]?=some p->ks[i]?=some k->H p=some (.tup [.int k.1,.int k.2]))/\Q (.int (ddK [] (ks.map zx6)).length) H
def qLenS (K:zbp7) (ta:TA):TE:=fun σ H Q=>ta σ H fun vs H1=>match vs with
 | [.ref a]=>rLenS K a H1 Q
 | _=>False
theorem key2 {P:Program}{w:World}{pins:List (Addr×Obj)}{s:Shared}{σ:St}{H:Hp}(I:Inv X pins σ H s) {p:Addr}{a b:Int}(h:H p=some (.tup [.int a,.int b])):IsTupleKey (intKind P w) s.heap [a,b] p:=by
 obtain⟨its,r,pl,hz⟩:=I.tuple (SqT.of (K:=X.K) h)
 cases r with
 | cons h1 r=>
  cases r with
  | cons h2 r=>
   cases r
   obtain⟨t1,rfl⟩:=h1
   obtain⟨t2,rfl⟩:=h2
   obtain⟨o,g,c,n,d⟩:=pl
   exact⟨o,_,n,g,c,d,.cons (intKind_is P w a t1) (.cons (intKind_is P w b t2) .nil)⟩
theorem peLenS {e:Expr}{ta:TA}{p p2 pos pos2:Pos}(hK:X.K=K) (hu:X.A.units+40<cLine) (hl:X.mg "len"=none) (hm:X.mg "set"=none) (ha:PA X [e] ta) (hc:X.calm=true:=by rfl) (hg:Gl X "set":=by rfl) (hg2:Gl X "len":=by rfl) (hs:starEach [e] X.env=[(false,eval e X.env)]:=by rfl)
  (he:starEach [.Call (.Name "set" p2) [e] [] pos2] X.env=[(false,eval (.Call (.Name "set" p2) [e] [] pos2) X.env)]:=by rfl) :
  PE X (.Call (.Name "len" p) [.Call (.Name "set" p2) [e] [] pos2] [] pos) (qLenS K ta):=by
 subst hK
 intro pins s σ H Q I h
 refine wpAny_Call_Name_kw (zx3 I hg2 hl zi6 ?_)
 refine PyProof.Rows.callWith_builtin1 ?_ (by rw[he];rfl) rfl
 rw[he]
 show wpAny _ _ (spliced ((false,eval (.Call (.Name "set" p2) [e] [] pos2) X.env) :: [])) _ _ s
 refine Calls.spliced_cons ?_
 refine Call_ (zx3 I hg hm bt_set (PyProof.Rows.callWith_type1 (thn (ha pos2 pins s σ H _ I h) fun us s1 ⟨vs,H1,I1,r1,q1⟩=>?_) hs rfl))
 dsimp only at q1
 split at q1
 ·rename_i a
  unfold rLenS at q1
  obtain⟨ps,ks,hq,hn,h18,hp,q⟩:=q1
  obtain⟨u,rfl,rx⟩:=zy4 r1
  cases rx
  obtain⟨its,rv,pl,hz⟩:=I1.list hq
  have e:=zy8 rv
  subst e
  refine zv7 (ps:=ps) (kss:=ks.map zx6) (I1.ok.hd hc) hu pl.isList rfl (by rw[zbp5];exact hn) (by rw[zbp5];exact h18) (fun j p k e1 e2=>?_) (fun h' tk o es ep t hE hkeep=>Calls.spliced_nil ?_)
  ·rw[zbq2] at e2
   obtain⟨k',ek,rfl⟩:=zbq7.mp e2
   exact key2 I1 (hp j p k' e1 ek)
  ·have sz:=hE.sz
   have dl:=zai0 [] (ks.map zx6)
   rw[zbp5] at dl
   have small:(es.size:Int)<2 ^ 63:=by
    have:es.size<=18:=by rw[sz];simp at dl;omega
    omega
   refine call_len_set hE.at_ hE.ex hE.dat hE.fits small ?_
   rw[sz]
   exact⟨.int _,H1,I1.kept hkeep,⟨_,rfl⟩,q⟩
 ·exact q1.elim
theorem zbk6 {a:Addr}{ps:List Addr}{ks:List (Int×Int)}{H:Hp}{Q:VK}(h:H a=some (.lst (ps.map V.ref))) (hn:ps.length=ks.length) (h18:ks.length<=18) (hp:∀ (i:Nat) p k,ps[i]?=some p->ks[i]?=some k->H p=some (.tup [.int k.1,.int k.2])) (q:Q (.int (ddK [] (ks.map zx6)).length) H):rLenS K a H Q:=by unfold rLenS;exact⟨ps,ks,SqL.of h,hn,h18,hp,q⟩
theorem zbg8:∀ (acc ks:List (List Int)),(ddK acc ks).length=acc.length+ks.length↔ks.Nodup/\∀ k∈ks,k ∉ acc
 | acc,[]=>⟨fun _=>⟨List.nodup_nil,fun k hk=>by cases hk⟩,fun _=>rfl⟩
 | acc,k :: ks=>by
  show (ddK (if k∈acc then acc else k :: acc) ks).length=acc.length+(ks.length+1)↔_
  by_cases c:k∈acc
  ·rw[if_pos c]
   have:=zai0 acc ks
   exact⟨fun e=>by omega,fun h=>absurd c (h.2 k (.head _))⟩
  ·rw[if_neg c]
   have ih:=zbg8 (k :: acc) ks
   rw[zbq5] at ih
   rw[show acc.length+(ks.length+1)=acc.length+1+ks.length by omega,ih,zbu9]
   constructor
   ·rintro⟨h1,h2⟩
    refine⟨⟨fun hk=>h2 k hk (.head _),h1⟩,fun y hy=>?_⟩
    rcases zbq8.mp hy with rfl|hy
    ·exact c
    ·exact fun z=>h2 y hy (.tail _ z)
   ·rintro⟨⟨h1,h2⟩,h3⟩
    refine⟨h2,fun y hy z=>?_⟩
    rcases zbq8.mp z with rfl|z
    ·exact h1 hy
    ·exact h3 y (.tail _ hy) z
theorem dd_len {ks:List (Int×Int)}:((ks.length:Int)=((ddK [] (ks.map zx6)).length:Int))↔ks.Nodup:=by
 have h:=zbg8 [] (ks.map zx6)
 rw[zbp5] at h
 have inj:(ks.map zx6).Nodup↔ks.Nodup:=by
  constructor
  ·intro h
   exact List.Pairwise.of_map zx6 (fun a b hab e=>hab (by rw[e])) h
  ·intro h
   exact List.Pairwise.map zx6 (fun a b hab e=>hab (by
    unfold zx6 at e
    injection e with e1 e2
    injection e2 with e2 _
    exact Prod.ext e1 e2)) h
 rw[inj] at h
 constructor
 ·intro e
  exact (h.mp (by rw[zbr1];omega)).1
 ·intro nd
  have:=h.mpr ⟨nd,fun k _ hk=>by cases hk⟩
  rw[zbr1] at this
  omega
end
end L2
set_option maxHeartbeats 4000000
namespace L2
open PySem PySem.Spec PyProof.Rows PySem.W
theorem ord_I (xs:Nat->Int):Ord (fun i j=>decide (xs i<xs j)) where
 as:=fun i j h=>by
  have h:=of_decide_eq_true h
  exact decide_eq_false (by omega)
 tr:=fun i j k h1 h2=>by
  have h1:=of_decide_eq_false h1
  have h2:=of_decide_eq_false h2
  exact decide_eq_false (by omega)
theorem zam3 {xs:Nat->Int}:∀ {vs:List Value}{k:Nat},(∀ i,i<vs.length->∃ t,vs.getD i Value.none=.int (xs (k+i)) t)->IntsAre vs ((List.range vs.length).map fun i=>xs (k+i))
 | [],k,_=>.nil
 | v :: vs,k,h=>by
  obtain⟨t,e⟩:=h 0 (by simp)
  have e:v=.int (xs (k+0)) t:=by simpa using e
  rw[zbq5,List.range_succ_eq_map,zbt4,zbt1,e]
  refine .cons _ t ?_
  have:=zam3 (xs:=xs) (vs:=vs) (k:=k+1) (fun i hi=>by
   obtain⟨t,e⟩:=h (i+1) (by simpa using hi)
   exact⟨t,by rw[show k+1+i=k+(i+1) by omega];simpa using e⟩)
  have ef:(fun i=>xs (k+1+i))=((fun i=>xs (k+i))∘Nat.succ):=by
   funext i
   show xs (k+1+i)=xs (k+(i+1))
   rw[show k+1+i=k+(i+1) by omega]
  rw[ef] at this
  exact this
section
variable {prog:Program}{w:World}{A:Around}{E:Value->Shared->Prop}{s:Shared}
theorem zav1 {D:Addr}{vs:List Value}{xs:Nat->Int}{P:PySem.Fin->Shared->Prop}(ho:s.heap.get? D=some (seqObj "list" vs.toArray 0)) (h64:vs.length<64)
  (H:∀ i,i<vs.length->∃ t,vs.getD i Value.none=.int (xs i) t)
  (h:∀ (p:List Nat) (c:Nat) (hF:Heap),p.Perm (List.range vs.length)->p.Pairwise (fun i j=>decide (xs j<xs i)=false)->(∀ b o,b≠D->s.heap.get? b=some o->hF.get? b=some o)->hF.get? D=some (seqObj "list" (zbw7 (p.map fun i=>vs.getD i Value.none)) c)->P (.done (.ret .none)) { s with heap:=hF }) :
  wpAny (model prog w) A (Builtin.«list.sort» ⟨[.ref D],[]⟩) P E s:=by
 by_cases h2:vs.length<2
 ·refine zam2 ho h2 ?_
  obtain⟨c,hc⟩:=zs3 (vs:=vs) (out:=vs.toArray) ho
  refine h (List.range vs.length) c _ (List.Perm.refl _) ?_ (fun b o ne e=>zq0 ne e) ?_
  ·have:vs.length=0∨vs.length=1:=by omega
   rcases this with e|e<;>rw[e]
   ·exact List.Pairwise.nil
   ·exact List.pairwise_singleton _ _
  ·rw[hc]
   have e:(List.range vs.length).map (fun i=>vs.getD i Value.none)=vs:=by
    apply zbv2 (by simp)
    intro i h1 h2
    simp at h1 h2
    simp[h2]
   rw[e]
 ·have ia:=zam3 (xs:=xs) (vs:=vs) (k:=0) (fun i hi=>by rw[Nat.zero_add];exact H i hi)
  refine zax8 (κ:=oneType') (lt:=fun i j=>decide (xs i<xs j)) ho (by omega) h64 (fun Q q=>wpAny_of_eq (ksk_kind (keys:=vs.toArray) ia (by rw[zbq3];omega)) q) (fun i j C li lj q=>?_) (zba2 (ord_I xs) (by omega)) fun p pz pR=>?_
  ·obtain⟨t,e1⟩:=H i li
   obtain⟨u,e2⟩:=H j lj
   rw[e1,e2,keyLt'_oneType]
   exact oneLt_int q
  ·obtain⟨c,hc⟩:=zs3 (vs:=vs) (out:=zbw7 (p.toList.map fun i=>vs.getD i Value.none)) ho
   refine h p.toList c _ pR.1 ?_ (fun b o ne e=>zq0 ne e) hc
   rw[zbu3]
   intro i j hi hj hij
   rw[Array.length_toList] at hi hj
   have:=pR.2 i j (Nat.le_of_lt hij) (by omega)
   unfold gp at this
   simpa [Array.getD,hi,hj] using this
theorem zak1 {d:Addr}{es:Array DictEntry}{ep:Nat}{xs:Nat->Int}{Q:Value->Shared->Prop}(lo:(d==sysModules)=false) (hh:A.handled=none) (x:RawD s.heap d es ep) (h64:es.size<64)
  (H:∀ (i:Nat) (e:DictEntry),es[i]?=some e->∃ t,e.key=Value.int (xs i) t)
  (h:∀ (h1 hF:Heap) (tk c:Nat) (p:List Nat) (vs:List Value),(∀ b o,s.heap.get? b=some o->h1.get? b=some o)->(∀ b o,h1.get? b=some o->hF.get? b=some o)->p.Perm (List.range es.size)->p.Pairwise (fun i j=>decide (xs j<xs i)=false)->vs=es.toList.map (·.key) ->
   hF.get? h1.objs.size=some (seqObj "list" (zbw7 (p.map fun i=>vs.getD i Value.none)) c)->Q (.ref h1.objs.size) { s with heap:=hF,toks:=tk }) :
  wpAny (model prog w) A (call (.builtin "sorted") [.ref d]) Q E s:=by
 have zl:es.size<=sizeLine:=by rw[sizeLine_eq];omega
 refine Calls.call_function_entry kind_sorted plain_sorted entry_sorted (args_sorted1 _) ?_
 unfold Builtin.«sorted»
 refine wpAny_bind (m:=checkCount "sorted" 1 1 _) (wpAny_pure (wpAny_bind (kdu_collect (A:=A.in1) (zaw3 lo) hh x zl fun h1 tk acc k1 it=>?_)))
 have len:acc.toList.length=es.size:=by rw[Array.length_toList];exact it.1
 have ev:acc.toList=es.toList.map (·.key):=by
  apply zbv2 (by rw[len,zbp5,Array.length_toList])
  intro i a1 a2
  rw[Array.length_toList] at a1
  obtain⟨e,e1,e2⟩:=it.2 i acc[i] (by simp[a1])
  simp only[Array.getElem_toList,List.getElem_map]
  rw[e2]
  obtain⟨q1,q2⟩:=Array.getElem?_eq_some_iff.mp e1
  rw[← q2]
 refine wpAny_bind (wpAny_newList ?_ (by rw[len];exact zl))
 have hD:(h1.push (seqObj "list" acc.toList.toArray 0)).get? h1.objs.size=some (seqObj "list" acc.toList.toArray 0):=zbr8 _ rfl
 show wpAny (model prog w) _ _ _ _ { s with heap:=h1.push (seqObj "list" acc.toList.toArray 0),toks:=tk }
 refine wpAny_bind (wpAny_holding (wpAny_call_entry slot_list_sort ⟨_,hD,rfl⟩ entry_list_sort (zav1 (xs:=xs) (s:={ s with heap:=h1.push (seqObj "list" acc.toList.toArray 0),toks:=tk }) hD (by rw[len];exact h64) (fun i hi=>?_) fun p c hF pp po kF eF=>⟨_,rfl,?_⟩) (args_list_sort _)))
 ·rw[len] at hi
  have e:acc.toList.getD i Value.none=es[i].key:=by rw[ev];simp[hi]
  rw[e]
  exact H i es[i] (by simp[hi])
 ·refine wpAny_pure ⟨_,rfl,h h1 hF tk c p acc.toList k1 (fun b o e=>kF b o (zbs3 (zbr4 e)) (zbq1 _ e)) (by rw[← len];exact pp) po ev eF⟩
theorem zap9 {l:Addr}{us:List Value}{xs:Nat->Int×Int}{Q:Value->Shared->Prop}(hl:s.heap.IsList l us.toArray) (h64:us.length<64)
  (H:∀ i,i<us.length->TupI s.heap (us.getD i Value.none) (xs i))
  (h:∀ (h1 hF:Heap) (c:Nat) (p:List Nat),(∀ b o,s.heap.get? b=some o->h1.get? b=some o)->(∀ b o,h1.get? b=some o->hF.get? b=some o)->s.heap.objs.size<=h1.objs.size->p.Perm (List.range us.length)->p.Pairwise (fun i j=>ltP (xs j) (xs i)=false) ->
   hF.get? h1.objs.size=some (seqObj "list" (zbw7 (p.map fun i=>us.getD i Value.none)) c)->Q (.ref h1.objs.size) { s with heap:=hF }) :
  wpAny (model prog w) A (call (.builtin "sorted") [.ref l]) Q E s:=by
 have zl:us.length<=sizeLine:=by rw[sizeLine_eq];omega
 refine Calls.call_function_entry kind_sorted plain_sorted entry_sorted (args_sorted1 _) ?_
 unfold Builtin.«sorted»
 refine wpAny_bind (m:=checkCount "sorted" 1 1 _) (wpAny_pure (wpAny_bind (collect_list (A:=A.in1) hl ?_ zl)))
 obtain⟨h1,eh1⟩:∃ h1,(s.heap.push (seqObj "list" #[] 0)).update s.heap.objs.size (Obj.mapSeq fun x=>x++us.toArray)=h1:=⟨_,rfl⟩
 have k1:∀ b o,s.heap.get? b=some o->h1.get? b=some o:=fun b o e=>by
  rw[← eh1]
  exact (Heap.get?_update_ne _ _ _ _ (zbs3 (zbr4 e))).trans (zbq1 _ e)
 have sz:s.heap.objs.size<=h1.objs.size:=by
  rw[← eh1,Heap.size_update]
  show s.heap.objs.size<=(s.heap.objs.push _).size
  rw[Array.size_push];omega
 rw[eh1]
 refine wpAny_bind (wpAny_newList ?_ zl)
 have hD:(h1.push (seqObj "list" us.toArray 0)).get? h1.objs.size=some (seqObj "list" us.toArray 0):=zbr8 _ rfl
 show wpAny (model prog w) _ _ _ _ { s with heap:=h1.push (seqObj "list" us.toArray 0) }
 refine wpAny_bind (wpAny_holding (wpAny_call_entry slot_list_sort ⟨_,hD,rfl⟩ entry_list_sort (zaf2 (xs:=xs) (s:={ s with heap:=h1.push (seqObj "list" us.toArray 0) }) hD h64 (fun i hi=>?_) fun p c hF pp po kF eF=>⟨_,rfl,?_⟩) (args_list_sort _)))
 ·exact ((H i hi).to k1).to fun b o q=>zbq1 _ q
 ·refine wpAny_pure ⟨_,rfl,h h1 hF c p k1 (fun b o e=>kF b o (zbs3 (zbr4 e)) (zbq1 _ e)) sz pp po eF⟩
end
section
variable {X:Cx}{K:zbp7}
@[irreducible] def rSoX (K:zbp7) (a:Addr) (H:Hp) (Q:VK):Prop:=
 (∃ (ps:List Addr) (ks:List (Int×Int)),SqL K H a (ps.map V.ref)/\ps.length<64/\Paired (fun b x=>H b=some (.tup [.int x.1,.int x.2])) ps ks /\
  ∀ p H' (bs:List Addr) (ls:List (Int×Int)),H p=none->Same H H'->ls.Perm ks->ls.Pairwise (fun x y=>ltP y x=false)->Paired (fun b x=>H' b=some (.tup [.int x.1,.int x.2])) bs ls->H' p=some (.lst (bs.map V.ref))->Q (.ref p) H') ∨
 ∃ kv:List (Int×Int),H a=some (.dK (dI kv))/\kv.length<64/\∀ p H' (ms:List Int),H p=none->Same H H'->ms.Perm (kv.map (·.1))->ms.Pairwise (·<=·)->H' p=some (.lst (ms.map V.int))->Q (.ref p) H'
def rSoXM (K:zbp7):List V->Hp->VK->Prop:=fun xs H Q=>match xs with
 | [.ref p]=>rSoX K p H Q
 | _=>False
theorem zbm7 {as:List Addr}:Vals (as.map V.ref) (as.map Value.ref):=by
 induction as with
 | nil=>exact .nil
 | cons a l ih=>exact .cons rfl ih
theorem zak4 {ns:List (Int×Tok)}:Vals (ns.map fun n=>V.int n.1) (ns.map fun n=>Value.int n.1 n.2):=by
 induction ns with
 | nil=>exact .nil
 | cons a l ih=>exact .cons ⟨_,rfl⟩ ih
theorem zae8 {P:Program}{w:World}:∀ {kv:List (Int×Int)}{vs:List (Key×Value)}{es:List DictEntry},KV (dI kv) vs->Pairs (zg2 P w) es vs->es.length=kv.length/\∀ (i:Nat) (e:DictEntry),es[i]?=some e->∃ t,e.key=Value.int ((kv.map (·.1)).getD i 0) t
 | [],vs,es,h1,h2=>by
  cases h1
  cases h2
  exact⟨rfl,fun i e h=>by simp at h⟩
 | z :: kv,vs,es,h1,h2=>by
  cases h1 with
  | cons a b=>
   cases h2 with
   | @cons e0 _ es0 _ c d e=>
    obtain⟨l,r⟩:=zae8 b e
    refine⟨by rw[zbq5,zbq5,l],fun i x h=>?_⟩
    cases i with
    | zero=>
     cases h
     have a1:(Sum.inl z.1:Key)=_:=a.1
     rw[← a1] at c
     have c:Value.isInt z.1 e0.key=true:=c
     cases hk:e0.key with
     | int n t=>
      rw[hk] at c
      have:n=z.1:=by
       have c:(n==z.1)=true∨(z.1==n)=true:=by first|exact .inl c|exact .inr c
       rcases c with c|c
       ·exact eq_of_beq c
       ·exact (eq_of_beq c).symm
      subst this
      exact⟨t,rfl⟩
     | _=>rw[hk] at c;cases c
    | succ i=>exact r i x h
theorem zas7 (hK:X.K=K) (hc:X.calm=true):zl0 X (.builtin "sorted") (rSoXM K):=fun pins s σ H xs us Q I r h=>by
 subst hK
 unfold rSoXM at h
 split at h
 ·rename_i a
  unfold rSoX at h
  obtain⟨u1,rfl,rx⟩:=zy4 r
  cases rx
  rcases h with ⟨ps,ks,h1,h2,h3,h4⟩|⟨kv,h1,h2,h3⟩
  ·obtain⟨its,rv,pl,hz⟩:=I.list h1
   have e:=zy8 rv
   subst e
   have pl':=h3.length
   have at_:∀ i,(hi:i<ps.length)->H ps[i]=some (.tup [.int (ks.getD i (0,0)).1,.int (ks.getD i (0,0)).2]):=fun i hi=>by
    have hk:i<ks.length:=pl'▸hi
    have:=zn5 h3 i ps[i] ks[i] (zbp6 hi) (zbp6 hk)
    rw[zbq4,zbp6 hk]
    exact this
   refine zap9 (xs:=fun i=>ks.getD i (0,0)) pl.isList (by rw[zbp5];exact h2) (fun i hi=>?_) fun h1' hF c pm k1 kF sz pp po eF=>?_
   ·rw[zbp5] at hi
    obtain⟨_,its',rv',ob,b1,b2,n,b3⟩:=(show zg6 X.prog X.w H s.heap ps[i] (.tup [.int (ks.getD i (0,0)).1,.int (ks.getD i (0,0)).2]) from I.hok _ _ (at_ i hi))
    obtain⟨v1,v2,rfl,w1,w2⟩:=zaq8 rv'
    obtain⟨t1,rfl⟩:=w1
    obtain⟨t2,rfl⟩:=w2
    have eg:(ps.map Value.ref).getD i Value.none=.ref ps[i]:=by rw[zbq4,zbq2,zbp6 hi];rfl
    rw[eg]
    exact⟨ps[i],ob,t1,t2,n,rfl,b1,b2,b3⟩
   ·rw[zbp5] at pp
    have I1:Inv X pins σ H { s with heap:=h1' }:=I.kept (t':=s.toks) k1
    have fr:H h1'.objs.size=none:=I1.fresh
    have mem:∀ i,i∈pm->i<ps.length:=fun i hi=>zbs1.mp (pp.mem_iff.mp hi)
    have vals:(pm.map fun i=>(ps.map Value.ref).getD i Value.none)=(pm.map fun i=>ps.getD i 0).map Value.ref:=by
     rw[zbt1]
     refine zbu0 fun i hi=>?_
     have hi':=mem i hi
     show (ps.map Value.ref).getD i Value.none=Value.ref (ps.getD i 0)
     rw[zbq4,zbq4,zbq2,zbp6 hi']
     rfl
    have ek:(List.range ps.length).map (fun i=>ks.getD i (0,0))=ks:=by
     rw[pl']
     apply zbv2 (by simp)
     intro i a1 a2
     simp at a1
     simp[a1]
    have lz:(pm.map fun i=>ps.getD i 0).length<=sizeLine:=by rw[zbp5,pp.length_eq,zbv4,sizeLine_eq];omega
    refine⟨.ref _,_,I1.laid (h':=hF) (t':=s.toks) (o:=.lst ((pm.map fun i=>ps.getD i 0).map V.ref)) kF (zbq9 _) ?_,rfl,h4 _ _ (pm.map fun i=>ps.getD i 0) (pm.map fun i=>ks.getD i (0,0)) fr (Same.upd fr) ?_ ?_ ?_ zb7⟩
    ·exact⟨by rw[zbp5];exact lz,_,c,zbm7,by rw[eF,vals]⟩
    ·have q:=pp.map fun i=>ks.getD i (0,0)
     rw[ek] at q
     exact q
    ·rw[List.pairwise_map]
     exact po
    ·refine zs5 (by rw[zbp5,zbp5]) fun i b x q1 q2=>?_
     rw[zbq2] at q1 q2
     obtain⟨j,j1,j2⟩:=zbq7.mp q1
     rw[j1] at q2
     have hj:=mem j (zbq0 j1)
     have q2:ks.getD j (0,0)=x:=Option.some.inj q2
     have j2:ps.getD j 0=b:=j2
     rw[← j2,← q2,zbq4,zbp6 hj]
     exact (Same.upd fr) _ _ (at_ j hj)
  ·obtain⟨zl,lo,vs,kvr,o,es,ep,e1,e2,e3,e4,e5,e6⟩:=zaq5 I.hok h1
   obtain⟨el,ek⟩:=zae8 kvr e5
   rw[Array.length_toList] at el
   refine zak1 (xs:=fun i=>(kv.map (·.1)).getD i 0) lo (I.ok.hd hc) (d:=a) (es:=es) (ep:=ep) ⟨o,e1,e2,e3⟩ (by omega) (fun i e q=>ek i e (by rw[Array.getElem?_toList];exact q)) fun h' hF tk c pm vs' k1 kF pp po ev eF=>?_
   have I1:Inv X pins σ H { s with heap:=h',toks:=tk }:=I.kept k1
   have fr:H h'.objs.size=none:=I1.fresh
   have mem:∀ i,i∈pm->i<kv.length:=fun i hi=>by have:=zbs1.mp (pp.mem_iff.mp hi);omega
   have km:(List.range kv.length).map (fun i=>(kv.map (·.1)).getD i 0)=kv.map (·.1):=by
    apply zbv2 (by simp)
    intro i a1 a2
    simp at a1
    simp[a1]
   have tok:∀ i,∃ t,i<kv.length->vs'.getD i Value.none=Value.int ((kv.map (·.1)).getD i 0) t:=fun i=>by
    by_cases hi:i<kv.length
    ·have hes:i<es.size:=by omega
     obtain⟨t,et⟩:=ek i es[i] (by rw[Array.getElem?_toList];simp[hes])
     exact⟨t,fun _=>by rw[ev];simp[hes,et]⟩
    ·exact⟨default,fun z=>absurd z hi⟩
   obtain⟨tk',htk⟩:=Classical.axiomOfChoice tok
   have vals:(pm.map fun i=>vs'.getD i Value.none)=(pm.map fun i=>((kv.map (·.1)).getD i 0,tk' i)).map fun n=>Value.int n.1 n.2:=by
    rw[zbt1]
    exact zbu0 fun i hi=>htk i (mem i hi)
   refine⟨.ref _,_,I1.laid (h':=hF) (t':=tk) (o:=.lst ((pm.map fun i=>(kv.map (·.1)).getD i 0).map V.int)) kF (zbq9 _) ?_,rfl,h3 _ _ (pm.map fun i=>(kv.map (·.1)).getD i 0) fr (Same.upd fr) ?_ ?_ zb7⟩
   ·refine⟨by rw[zbp5,zbp5,pp.length_eq,zbv4,sizeLine_eq];omega,_,c,?_,by rw[eF,vals]⟩
    have:=zak4 (ns:=pm.map fun i=>((kv.map (·.1)).getD i 0,tk' i))
    rw[zbt1] at this
    rw[zbt1]
    exact this
   ·have q:=(show pm.Perm (List.range kv.length) from el▸pp).map fun i=>(kv.map (·.1)).getD i 0
    rw[km] at q
    exact q
   ·rw[List.pairwise_map]
    exact po.imp fun {i j} h=>by have:=of_decide_eq_false h;omega
 ·exact h.elim
theorem soL_rd {a:Addr}{H:Hp}{Q:VK}{ps:List Addr}{ks:List (Int×Int)}(h:H a=some (.lst (ps.map V.ref))) (hl:ps.length<64) (pr:Paired (fun b x=>H b=some (.tup [.int x.1,.int x.2])) ps ks)
  (q:∀ p H' (bs:List Addr) (ls:List (Int×Int)),H p=none->Same H H'->ls.Perm ks->ls.Pairwise (fun x y=>ltP y x=false)->Paired (fun b x=>H' b=some (.tup [.int x.1,.int x.2])) bs ls->H' p=some (.lst (bs.map V.ref))->Q (.ref p) H'):rSoX K a H Q:=by unfold rSoX;exact .inl ⟨ps,ks,SqL.of h,hl,pr,q⟩
theorem zz3 {a:Addr}{H:Hp}{Q:VK}{kv:List (Int×Int)}(h:H a=some (.dK (dI kv))) (hl:kv.length<64) (q:∀ p H' (ms:List Int),H p=none->Same H H'->ms.Perm (kv.map (·.1))->ms.Pairwise (·<=·)->H' p=some (.lst (ms.map V.int))->Q (.ref p) H'):rSoX K a H Q:=by unfold rSoX;exact .inr ⟨kv,h,hl,q⟩
end
end L2
set_option maxHeartbeats 1000000
namespace G
open PySem L2
def top (i:Nat):Stmt:=PySem.Challenge.pw_hostfields_k21_streams_looked_at.main.body.getD i (.Pass ⟨0,0,0,0⟩)
abbrev zl8:Stmt:=top 1
theorem zaj5:zc8 ["thing"] ["thing"] (za7 zl8):=⟨rfl,rfl,rfl,by decide +kernel,rfl,by decide +kernel,by decide +kernel⟩
abbrev zn0:Stmt:=top 2
theorem zar5:zc8 ["thing","least"] ["thing","least"] (za7 zn0):=⟨rfl,rfl,rfl,by decide +kernel,rfl,by decide +kernel,by decide +kernel⟩
abbrev zi1:Stmt:=top 3
theorem zab8:zc8 ["thing","least","most"] ["thing","least","most"] (za7 zi1):=⟨rfl,rfl,rfl,by decide +kernel,rfl,by decide +kernel,by decide +kernel⟩
abbrev zk1:Stmt:=top 5
theorem zp5:zc8 ["hosts","fields","stream","comes_full","goes_empty"] ["hosts","fields","stream"] (za7 zk1):=⟨rfl,rfl,rfl,by decide +kernel,rfl,by decide +kernel,by decide +kernel⟩
abbrev zp7:Stmt:=top 6
theorem zaz6:zc8 ["stream"] ["stream"] (za7 zp7):=⟨rfl,rfl,rfl,by decide +kernel,rfl,by decide +kernel,by decide +kernel⟩
abbrev zp9:Stmt:=top 7
theorem zaz2:zc8 ["row"] ["row"] (za7 zp9):=⟨rfl,rfl,rfl,by decide +kernel,rfl,by decide +kernel,by decide +kernel⟩
abbrev zn3:Stmt:=top 8
theorem zar4:zc8 ["thing"] ["thing"] (za7 zn3):=⟨rfl,rfl,rfl,by decide +kernel,rfl,by decide +kernel,by decide +kernel⟩
abbrev zt2:Stmt:=top 9
theorem zao3:zc8 ["ahead","row","leaving"] ["ahead","row"] (za7 zt2):=⟨rfl,rfl,rfl,by decide +kernel,rfl,by decide +kernel,by decide +kernel⟩
abbrev zp6:Stmt:=top 10
theorem zr9:zc8 ["pairs","sums","key","amount"] ["pairs"] (za7 zp6):=⟨rfl,rfl,rfl,by decide +kernel,rfl,by decide +kernel,by decide +kernel⟩
abbrev zl7:Stmt:=top 12
theorem zy5:zc8 ["_law_number","_law_k","_law_mixed"] ["_law_number","_law_k"] (za7 zl7):=⟨rfl,rfl,rfl,by decide +kernel,rfl,by decide +kernel,by decide +kernel⟩
abbrev zf7:Stmt:=top 13
theorem zx1:zc8 ["_law_script","_law_k"] ["_law_script","_law_k"] (za7 zf7):=⟨rfl,rfl,rfl,by decide +kernel,rfl,by decide +kernel,by decide +kernel⟩
abbrev zj1:Stmt:=top 14
theorem zt9:zc8 ["_law_script","_law_k","_law_cell"] ["_law_script","_law_k"] (za7 zj1):=⟨rfl,rfl,rfl,by decide +kernel,rfl,by decide +kernel,by decide +kernel⟩
abbrev zj2:Stmt:=top 15
theorem zp2:zc8 ["_law_left_here","_law_base","_law_mixed","_law_digit"] ["_law_left_here","_law_base"] (za7 zj2):=⟨rfl,rfl,rfl,by decide +kernel,rfl,by decide +kernel,by decide +kernel⟩
abbrev zj8:Stmt:=top 16
theorem zi5:zc8 ["_law_left_here","_law_hosts","_law_many","_law_plan_here","_law_rest","_law_k","_law_at"] ["_law_left_here","_law_hosts","_law_many"] (za7 zj8):=⟨rfl,rfl,rfl,by decide +kernel,rfl,by decide +kernel,by decide +kernel⟩
abbrev zl5:Stmt:=top 17
theorem zj5:zc8 ["_law_left_here","_law_most","_law_fields","_law_parts","_law_hosts","_law_many","_law_mix_here","_law_k","_law_weight"] ["_law_left_here","_law_most","_law_fields","_law_parts"] (za7 zl5):=⟨rfl,rfl,rfl,by decide +kernel,rfl,by decide +kernel,by decide +kernel⟩
abbrev zi2:Stmt:=top 18
theorem zh2:zc8 ["_law_mix_here","_law_flows_here","_law_plan_here","_law_weight","_law_k","_law_spot"] ["_law_mix_here"] (za7 zi2):=⟨rfl,rfl,rfl,by decide +kernel,rfl,by decide +kernel,by decide +kernel⟩
abbrev zi4:Stmt:=top 19
theorem zad3:zc8 ["_law_thing"] ["_law_thing"] (za7 zi4):=⟨rfl,rfl,rfl,by decide +kernel,rfl,by decide +kernel,by decide +kernel⟩
abbrev zh1:Stmt:=top 20
theorem zm7:zc8 ["_law_row","_law_hosts","_law_part","_law_spots"] ["_law_row","_law_hosts"] (za7 zh1):=⟨rfl,rfl,rfl,by decide +kernel,rfl,by decide +kernel,by decide +kernel⟩
abbrev zd9:Stmt:=top 21
theorem zb3:zc8 ["_law_hosts","_law_many","_law_stream","_law_come","_law_k","_law_taken","_law_gone","_law_rest","_law_sent","_law_flow"] ["_law_hosts","_law_many","_law_stream"] (za7 zd9):=⟨rfl,rfl,rfl,by decide +kernel,rfl,by decide +kernel,by decide +kernel⟩
abbrev zj7:Stmt:=top 22
theorem zae1:zc8 ["_law_stream"] ["_law_stream"] (za7 zj7):=⟨rfl,rfl,rfl,by decide +kernel,rfl,by decide +kernel,by decide +kernel⟩
abbrev ze9:Stmt:=top 23
theorem zb0:zc8 ["_law_left_here","_law_row","_law_at","_law_other","_law_rest","_law_sent","_law_flow","_law_choice","_law_parts","_law_moved"] ["_law_left_here","_law_row"] (za7 ze9):=⟨rfl,rfl,rfl,by decide +kernel,rfl,by decide +kernel,by decide +kernel⟩
abbrev zj9:Stmt:=top 24
theorem zo6:zc8 ["_law_left_here","_law_stream","_law_at","_law_choice"] ["_law_left_here","_law_stream"] (za7 zj9):=⟨rfl,rfl,rfl,by decide +kernel,rfl,by decide +kernel,by decide +kernel⟩
abbrev zh3:Stmt:=top 25
theorem zk3:zc8 ["_law_left_here","_law_mix_here","_law_plan_here","_law_step","_law_k"] ["_law_left_here","_law_mix_here"] (za7 zh3):=⟨rfl,rfl,rfl,by decide +kernel,rfl,by decide +kernel,by decide +kernel⟩
abbrev zac7:Stmt:=top 26
theorem zk4:zc8 ["_law_script","_law_cell","_law_left_here","_law_mix_here","_law_hosts","_law_many","_law_stream","_law_turn","_law_some","_law_other","_law_size","_law_asked","_law_handed","_law_told","_law_due"] ["_law_script"] (za7 zac7):=⟨rfl,rfl,rfl,by decide +kernel,rfl,by decide +kernel,by decide +kernel⟩
theorem nb_0:(["thing"]:List Str).Nodup:=by decide +kernel
theorem nb_1:(["one","other"]:List Str).Nodup:=by decide +kernel
theorem nb_2:(["left","sent","flow"]:List Str).Nodup:=by decide +kernel
theorem nb_3:(["row"]:List Str).Nodup:=by decide +kernel
theorem nb_4:(["left","sent","flow","hosts"]:List Str).Nodup:=by decide +kernel
theorem nb_5:(["left","sent","flow"]:List Str).Nodup:=by decide +kernel
theorem nb_6:(["ahead","row"]:List Str).Nodup:=by decide +kernel
theorem nb_7:(["_law_place"]:List Str).Nodup:=by decide +kernel
theorem nb_8:(["_law_flow"]:List Str).Nodup:=by decide +kernel
theorem nb_9:(["_law_rest","_law_sent","_law_flow"]:List Str).Nodup:=by decide +kernel
theorem nb_10:(["_law_one"]:List Str).Nodup:=by decide +kernel
theorem nb_11:(["_law_part"]:List Str).Nodup:=by decide +kernel
theorem nb_12:(["_law_row"]:List Str).Nodup:=by decide +kernel
structure Nm (mg:Str->Option Value):Prop where
 all_:mg "all"=none
 bool_:mg "bool"=none
 int_:mg "int"=none
 isinstance_:mg "isinstance"=none
 len_:mg "len"=none
 list_:mg "list"=none
 max_:mg "max"=none
 min_:mg "min"=none
 range_:mg "range"=none
 set_:mg "set"=none
 sorted_:mg "sorted"=none
 sum_:mg "sum"=none
 tuple_:mg "tuple"=none
 zip_:mg "zip"=none
local macro_rules | `(tactic| walk_at "hp")=>`(tactic| first|assumption|(refine Same.at (H:=?H) ?s ?e;(case s=>assumption);(case e=>walk_at "hp"))|(refine Chg.at (a:=?a) (H:=?H) ?c ?e ?n;(case c=>assumption);(case n=>walk_at "ne");(case e=>walk_at "hp"))|fail "hp")
local macro_rules | `(tactic| walk_at "ne")=>`(tactic| first|assumption|(apply Ne.symm;assumption)|fail "ne")
local macro_rules | `(tactic| walk_at "wh")=>`(tactic| (conv=>whnf))
local macro_rules | `(tactic| walk_at "st")=>`(tactic| (conv=>whnf);first
 | refine zbl8 (by omega) (by omega) ?_
 | refine zai7 (by omega) (by omega) ?_
 | refine zq5 (by omega) (fun r h0 h1=>?_)
 | refine div_rd (by omega) (by omega) ?_
 | (refine zbf4 ⟨by decide,by decide,by decide⟩ ?_;simp only[Int.reduceToNat,Int.reducePow])
 | (refine zh4 (xs:=?xs) (v:=?v) ?hp ?ev ?_;(case hp=>walk_at "hp");(case ev=>rfl))
 | (refine zd4 (xs:=?xs) (v:=?v) ?hp ?ev ?_;(case hp=>walk_at "hp");(case ev=>rfl))
 | refine zb8 (fun p H' hf hs ha=>?_)
 | refine zc4 (fun p H' hf hs ha=>?_)
 | refine zab4 ?_
 | (refine zat3 (xs:=?xs) ?hp ?_;(case hp=>walk_at "hp"))
 | (refine zaw2 (xs:=?xs) ?hp ?_;(case hp=>walk_at "hp"))
 | (refine zai6 (xs:=?xs) ?hp ?_;(case hp=>walk_at "hp"))
 | (refine zg3 (xs:=?xs) ?hp ?_;(case hp=>walk_at "hp"))
 | refine zx8 ?_
 | refine br_T ?_
 | refine br_F ?_
 | refine br_dT (by omega) ?_
 | refine br_dF (by omega) ?_
 | fail "st")
def stp (g:Nat->Nat->Int) (c:Nat):Nat->Nat->Int
 | 0,t=>g 0 t
 | f+1,t=>g (f+1) t+if c<=t then stp g c f (t - c) else 0
def pl (ns:List Nat):List V:=ns.map fun (n:Nat)=>V.int (n:Int)
def il (ns:List Nat):List Int:=ns.map fun (n:Nat)=>(n:Int)
local macro_rules | `(tactic| walk_at "om")=>`(tactic| first|decide|omega)
section
variable {P:Program}{w:World}{K:zbp7}{mg:Str->Option Value}{base:Heap}
def isW:PyData->Bool
 | .int _=>true
 | _=>false
def zo3 (l:Int):PyData->Bool
 | .int i=>decide (l<=i)
 | _=>false
def zu1 (l m:Int):PyData->Bool
 | .int i=>decide (l<=i/\i<=m)
 | _=>false
theorem zbd3 {p q:Prop}[Decidable p] [Decidable q] (h:p):decide (p/\q)=decide q:=by simp[h]
theorem zbb6 {p q:Prop}[Decidable p] [Decidable q] (h:¬ p):decide (p/\q)=false:=by simp[h]
@[irreducible] def zi0:Sp:=fun vs H Q _=>∃ (v:V) (d:PyData),vs=[v]/\ShV H v d/\Q (.bl (isW d)) H
theorem zbm6 {H:Hp}{v:V}{d:PyData}{Q:VK}{E:XK}(h:ShV H v d) (q:Q (.bl (isW d)) H):zi0 [v] H Q E:=by unfold zi0;exact⟨v,d,rfl,h,q⟩
theorem zai9 {f:Addr}{fd:FuncData}(F:Fun K "is_whole" "is_whole" zl8 f fd) (N:Nm mg):FnOk P w K mg base CX0 1 f fd ["thing"] zi0:=by
 refine F.ok zaj5 (fun vs H Q E h=>by unfold zi0 at h;obtain⟨_,_,rfl,_⟩:=h;rfl) (fun cdv A outer s H vs Q E hr h=>?_)
 unfold zi0 at h
 obtain⟨v,d,rfl,h,q⟩:=h
 refine⟨_,(za8 (zc2 (zu2 (pB (zt6 (K:=K) rfl) N.isinstance_ zb5 (za0 (pq 0) (za0 (pTy N.int_ zbg2) za3))) (zt8 (peNot (pB (zt6 (K:=K) rfl) N.isinstance_ zb5 (za0 (pq 0) (za0 (pTy N.bool_ zaj4) za3)))))))),?_⟩
 refine zk2 h (.inl rfl) ?_
 cases h
 case int i=>
  refine br_T ?_
  refine zab4 ?_
  walk_at "wh"
  exact q
 case bl b=>
  refine br_T ?_
  refine zx8 ?_
  walk_at "wh"
  exact q
 all_goals (walk_at "wh";refine br_F ?_;walk_at "wh";exact q)
@[irreducible] def zi3:Sp:=fun vs H Q _=>∃ (v:V) (d:PyData) (l:Int),vs=[v,.int l]/\ShV H v d/\Q (.bl (zo3 l d)) H
theorem zaj8 {H:Hp}{v:V}{d:PyData}{l:Int}{Q:VK}{E:XK}(h:ShV H v d) (q:Q (.bl (zo3 l d)) H):zi3 [v,.int l] H Q E:=by unfold zi3;exact⟨v,d,l,rfl,h,q⟩
theorem zap1 {f:Addr}{fd:FuncData}(F:Fun K "is_from" "is_from" zn0 f fd) (N:Nm mg) (zbo9:Def P w K mg base CX0 1 "is_whole" ["thing"] zi0):FnOk P w K mg base CX0 2 f fd ["thing","least"] zi3:=by
 refine F.ok zar5 (fun vs H Q E h=>by unfold zi3 at h;obtain⟨_,_,_,rfl,_⟩:=h;rfl) (fun cdv A outer s H vs Q E hr h=>?_)
 unfold zi3 at h
 obtain⟨v,d,l,rfl,h,q⟩:=h
 refine⟨_,(za8 (zc2 (zu2 (pD zbo9 hr zd5 (za0 (pq 0) za3)) (zt8 (peC oLe (pq 1) (pq 0)))))),?_⟩
 refine zbm6 h ?_
 cases h
 case int i=>
  refine br_T ?_
  walk_at "wh"
  exact q
 all_goals (walk_at "wh";refine br_F ?_;walk_at "wh";exact q)
@[irreducible] def zf4:Sp:=fun vs H Q _=>∃ (v:V) (d:PyData) (l m:Int),vs=[v,.int l,.int m]/\ShV H v d/\Q (.bl (zu1 l m d)) H
theorem zbi5 {H:Hp}{v:V}{d:PyData}{l m:Int}{Q:VK}{E:XK}(h:ShV H v d) (q:Q (.bl (zu1 l m d)) H):zf4 [v,.int l,.int m] H Q E:=by unfold zf4;exact⟨v,d,l,m,rfl,h,q⟩
theorem zac9 {f:Addr}{fd:FuncData}(F:Fun K "is_between" "is_between" zi1 f fd) (N:Nm mg) (zbn5:Def P w K mg base CX0 2 "is_from" ["thing","least"] zi3):FnOk P w K mg base CX0 3 f fd ["thing","least","most"] zf4:=by
 refine F.ok zab8 (fun vs H Q E h=>by unfold zf4 at h;obtain⟨_,_,_,_,rfl,_⟩:=h;rfl) (fun cdv A outer s H vs Q E hr h=>?_)
 unfold zf4 at h
 obtain⟨v,d,l,m,rfl,h,q⟩:=h
 refine⟨_,(za8 (zc2 (zu2 (pD zbn5 hr zd5 (za0 (pq 0) (za0 (pq 1) za3))) (zt8 (peC oLe (pq 0) (pq 2)))))),?_⟩
 refine zaj8 h ?_
 cases h
 case int i=>
  have q:Q (.bl (decide (l<=i/\i<=m))) H:=q
  refine zd3 (fun h=>?_) (fun h=>?_)
  ·walk_at "wh"
   rw[zbd3 h] at q
   exact q
  ·walk_at "wh"
   rw[zbb6 h] at q
   exact q
 all_goals (walk_at "wh";refine br_F ?_;walk_at "wh";exact q)
def zb6:PyData->List PyData
 | .list ds=>ds
 | _=>[]
def intD:PyData->Int
 | .int i=>i
 | _=>0
theorem zx2 {l:Int}{d:PyData}(h:zo3 l d=true):∃ i:Int,d=.int i/\l<=i:=by
 cases d with
 | int i=>exact⟨i,rfl,of_decide_eq_true h⟩
 | _=>simp[zo3] at h
theorem zq8 {ds:List PyData}(h:sml (.list ds)=true):ds.length<=1000/\∀ d∈ds,sml d=true:=by
 simp only[sml,zbr3,decide_eq_true_eq] at h
 exact⟨h.1,zz6 h.2⟩
theorem zz7 {ds:List PyData}(g:PyData->Bool):(List.range ds.length).map (fun i=>V.bl (g (ds.getD i .none)))=(ds.map g).map V.bl:=by
 apply List.ext_getElem?
 intro i
 rw[zbq2,zbq2,zbq2]
 by_cases h:i<ds.length
 ·rw[List.getElem?_range h,zbp6 h]
  simp[h]
 ·rw[zbu7 (by simp;omega),zbu7 (by walk_at "om")]
  rfl
theorem zal1 {ds:List PyData}(g:PyData->Bool):(ds.map g).all id=ds.all g:=by rw[zbw9];rfl
theorem zbm1 {H:Hp}{xs:List V}{ds:List PyData}(l:ShL H xs ds) (e:xs.length=2):∃ x y a b,xs=[x,y]/\ds=[a,b]/\ShV H x a/\ShV H y b:=by
 cases l with
 | nil=>simp at e
 | cons h1 l=>
  cases l with
  | nil=>simp at e
  | cons h2 l=>
   cases l with
   | nil=>exact⟨_,_,_,_,rfl,rfl,h1,h2⟩
   | cons _ _=>simp at e
theorem getD_some {ds:List PyData}{i:Nat}{d:PyData}(h:ds[i]?=some d):ds.getD i .none=d:=by rw[zbq4,h];rfl
structure zj4 (H:Hp) (m:Addr) (ts:List (Addr×Addr)) (ms:List (List Int×Int)):Prop where
 out:H m=some (.lst (ts.map fun t=>V.ref t.1))
 len:ts.length=ms.length
 part:∀ (i:Nat) t x,ts[i]?=some t->ms[i]?=some x->H t.1=some (.tup [.ref t.2,.int x.2])/\H t.2=some (.lst (x.1.map V.int))
theorem zj4.same {H H':Hp}{m:Addr}{ts:List (Addr×Addr)}{ms:List (List Int×Int)}(M:zj4 H m ts ms) (s:Same H H'):zj4 H' m ts ms:=⟨s _ _ M.out,M.len,fun i t x h1 h2=>⟨s _ _ (M.part i t x h1 h2).1,s _ _ (M.part i t x h1 h2).2⟩⟩
theorem zj4.get {H:Hp}{m:Addr}{ts:List (Addr×Addr)}{ms:List (List Int×Int)}(M:zj4 H m ts ms) {i:Nat}(hi:i<ms.length):∃ t x,ts[i]?=some t/\ms[i]?=some x/\H t.1=some (.tup [.ref t.2,.int x.2])/\H t.2=some (.lst (x.1.map V.int)):=
 ⟨_,_,zbp6 (by have:=M.len;omega),zbp6 hi,M.part i _ _ (zbp6 (by have:=M.len;omega)) (zbp6 hi)⟩
theorem zj4.elt {H:Hp}{m:Addr}{ts:List (Addr×Addr)}{ms:List (List Int×Int)}(M:zj4 H m ts ms) {i:Nat}{v:V}(e:(ts.map fun t=>V.ref t.1)[i]?=some v):∃ t x,v=.ref t.1/\ts[i]?=some t/\ms[i]?=some x/\H t.1=some (.tup [.ref t.2,.int x.2])/\H t.2=some (.lst (x.1.map V.int)):=by
 rw[zbq2] at e
 obtain⟨t,et,rfl⟩:=zbq7.mp e
 obtain⟨t',x,h1,h2,h3⟩:=M.get (i:=i) (by have:=(zbp8.mp et).1;have:=M.len;omega)
 rw[et] at h1
 cases h1
 exact⟨t,x,rfl,et,h2,h3⟩
theorem zj4.ix {H:Hp}{m:Addr}{ts:List (Addr×Addr)}{ms:List (List Int×Int)}(M:zj4 H m ts ms) {k:Nat}{x:List Int×Int}(e:ms[k]?=some x):∃ t,ts[k]?=some t/\atI (ts.map fun t=>V.ref t.1) (k:Int)=some (.ref t.1)/\H t.1=some (.tup [.ref t.2,.int x.2])/\H t.2=some (.lst (x.1.map V.int)):=by
 obtain⟨t,x',h1,h2,h3⟩:=M.get (i:=k) ((zbp8.mp e).1)
 rw[e] at h2
 cases h2
 exact⟨t,h1,zm2 (by rw[zbq2,h1];rfl),h3⟩
def rm (p:Addr) (H:Hp):Hp:=fun b=>if b=p then none else H b
def nw (H H':Hp):Hp:=fun b=>match H b with
 | none=>H' b
 | some _=>none
theorem zg1 {p b:Addr}{H:Hp}{o:HO}(n:b≠p) (h:H b=some o):rm p H b=some o:=by unfold rm;rw[if_neg n];exact h
theorem zz1 {p b:Addr}{H:Hp}{o:HO}(h:rm p H b=some o):b≠p/\H b=some o:=by
 unfold rm at h
 by_cases e:b=p
 ·rw[if_pos e] at h;cases h
 ·rw[if_neg e] at h;exact⟨e,h⟩
theorem zai5 {b:Addr}{H H':Hp}{o:HO}(n:H b=none) (h:H' b=some o):nw H H' b=some o:=by unfold nw;rw[n];exact h
theorem zw9 {b:Addr}{H H':Hp}{o:HO}(h:nw H H' b=some o):H b=none/\H' b=some o:=by
 unfold nw at h
 cases e:H b with
 | none=>rw[e] at h;exact⟨rfl,h⟩
 | some v=>rw[e] at h;cases h
theorem zn7 (p:Addr) (H:Hp):Same (rm p H) H:=fun b o h=>(zz1 h).2
theorem zbl5 (H H':Hp):Same (nw H H') H':=fun b o h=>(zw9 h).2
theorem Same.rm {p:Addr}{H H':Hp}(s:Same H H'):Same (rm p H) (G.rm p H'):=fun b o h=>zg1 (zz1 h).1 (s _ _ (zz1 h).2)
theorem Chg.rm {p:Addr}{H H':Hp}(s:Chg p H H'):Same (rm p H) (G.rm p H'):=fun b o h=>zg1 (zz1 h).1 (s _ _ (zz1 h).1 (zz1 h).2)
theorem nw_up {H H' H'':Hp}(s:Same H' H''):Same (nw H H') (nw H H''):=fun b o h=>zai5 (zw9 h).1 (s _ _ (zw9 h).2)
theorem zbm8 {H0 H H':Hp}(s:Same H0 H):Same (nw H H') (nw H0 H'):=fun b o h=>zai5 (s.free (zw9 h).1) (zw9 h).2
theorem nw_rm {p:Addr}{o:HO}{H H':Hp}(hp:H p=some o):Same (nw H H') (rm p H'):=fun b o h=>zg1 (fun z=>by have:=(zw9 h).1;rw[z,hp] at this;cases this) (zw9 h).2
def zm4:PyData->Bool
 | .tuple [a,b,c]=>zo3 0 a&&zu1 0 (intD a) b&&zo3 1 c
 | _=>false
theorem zab5 {ds:List PyData}(h:ds.length≠3):zm4 (.tuple ds)=false:=by
 match ds,h with
 | [],_=>rfl
 | [_],_=>rfl
 | [_,_],_=>rfl
 | [_,_,_],h=>simp at h
 | _ :: _ :: _ :: _ :: _,_=>rfl
theorem zx4 {H:Hp}{xs:List V}{ds:List PyData}(l:ShL H xs ds) (e:xs.length=3):∃ x y z a b c,xs=[x,y,z]/\ds=[a,b,c]/\ShV H x a/\ShV H y b/\ShV H z c:=by
 cases l with
 | nil=>simp at e
 | cons h1 l=>
  obtain⟨y,z,b,c,rfl,rfl,h2,h3⟩:=zbm1 l (by simpa using e)
  exact⟨_,_,_,_,_,_,rfl,rfl,h1,h2,h3⟩
@[irreducible] def zk0:Sp:=fun vs H Q _=>∃ (v:V) (d:PyData),vs=[v]/\ShV H v d/\Q (.bl (zm4 d)) H
theorem zbd5 {H:Hp}{v:V}{d:PyData}{Q:VK}{E:XK}(h:ShV H v d) (q:Q (.bl (zm4 d)) H):zk0 [v] H Q E:=by unfold zk0;exact⟨v,d,rfl,h,q⟩
theorem zap4 {f:Addr}{fd:FuncData}(F:Fun K "is_flow" "is_flow" zn3 f fd) (N:Nm mg) (zbo0:Def P w K mg base CX0 3 "is_between" ["thing","least","most"] zf4) (zbn5:Def P w K mg base CX0 2 "is_from" ["thing","least"] zi3):FnOk P w K mg base CX0 4 f fd ["thing"] zk0:=by
 refine F.ok zar4 (fun vs H Q E h=>by unfold zk0 at h;obtain⟨_,_,rfl,_⟩:=h;rfl) (fun cdv A outer s H vs Q E hr h=>?_)
 unfold zk0 at h
 obtain⟨v,d,rfl,h,q⟩:=h
 have hu:=hu40 hr
 refine⟨_,(za4 (psIf (ptW (pwOr (zm9 (ptV (pB (zt6 (K:=K) rfl) N.isinstance_ zb5 (za0 (pq 0) (za0 (pTy N.tuple_ zu9) za3))))) (zs4 (ptC (zac5 (K:=K) rfl (by exact hu)) (pB (zo1 (K:=K) rfl) N.len_ zi6 (za0 (pq 0) za3)) za2)))) (za8 (zc2 zt1)) zf1)
   (za8 (zc2 (zu2 (pD zbn5 hr zd5 (za0 (zd1 (K:=K) rfl (pq 0) za2) (za0 za2 za3))) (zu2 (pD zbo0 hr zd5 (za0 (zd1 (K:=K) rfl (pq 0) za2) (za0 za2 (za0 (zd1 (K:=K) rfl (pq 0) za2) za3)))) (zt8 (pD zbn5 hr zd5 (za0 (zd1 (K:=K) rfl (pq 0) za2) (za0 za2 za3))))))))),?_⟩
 refine zk2 h (.inr (.inr (.inr rfl))) ?_
 cases h
 case tup t xs ds e l=>
  have ll:=l.len
  refine zc9 (br_T ?_)
  refine zai6 e ?_
  refine zc9 (zd3 (fun h3=>?_) (fun h3=>?_))
  ·obtain⟨x,y,z,a,b,c,rfl,rfl,ha,hb,hc⟩:=zx4 l (by walk_at "om")
   have q:Q (.bl (zo3 0 a&&zu1 0 (intD a) b&&zo3 1 c)) H:=q
   refine zh4 (v:=x) e rfl ?_
   refine zaj8 ha ?_
   cases e1:zo3 0 a
   ·rw[e1] at q
    refine br_F ?_
    walk_at "wh"
    exact q
   ·rw[e1,zbu2] at q
    obtain⟨i,rfl,hi⟩:=zx2 e1
    cases ha
    refine br_T ?_
    refine zh4 (v:=y) e rfl ?_
    refine zh4 (v:=.int i) e rfl ?_
    refine zbi5 hb ?_
    have q:Q (.bl (zu1 0 i b&&zo3 1 c)) H:=q
    cases e2:zu1 0 i b
    ·rw[e2] at q
     refine br_F ?_
     walk_at "wh"
     exact q
    ·rw[e2,zbu2] at q
     refine br_T ?_
     refine zh4 (v:=z) e rfl ?_
     refine zaj8 hc ?_
     walk_at "wh"
     exact q
  ·rw[zab5 (by walk_at "om")] at q
   walk_at "wh"
   exact q
 all_goals (walk_at "wh";refine zc9 (br_F ?_);walk_at "wh";refine br_T ?_;walk_at "wh";exact q)
theorem zad5 {l m:Int}{d:PyData}(h:zu1 l m d=true):∃ i,d=.int i/\l<=i/\i<=m:=by
 cases d with
 | int i=>have:=of_decide_eq_true h;exact⟨i,rfl,this⟩
 | _=>simp[zu1] at h
theorem zaa8 {H:Hp}{v:V}{d:PyData}(h:ShV H v d) (e:zm4 d=true):∃ (t:Addr) (i j w:Int),v=.ref t/\H t=some (.tup [.int i,.int j,.int w])/\d=.tuple [.int i,.int j,.int w]/\0<=j/\j<=i/\1<=w:=by
 cases h
 case tup t xs ds e1 l=>
  have l3:ds.length=3:=Classical.byContradiction fun z=>by rw[zab5 z] at e;cases e
  obtain⟨x,y,z,a,b,c,rfl,rfl,ha,hb,hc⟩:=zx4 l (by rw[l.len];exact l3)
  have e:(zo3 0 a&&zu1 0 (intD a) b&&zo3 1 c)=true:=e
  rw[zbr3,zbr3] at e
  obtain⟨i,rfl,hi⟩:=zx2 e.1.1
  obtain⟨j,rfl,hj1,hj2⟩:=zad5 e.1.2
  obtain⟨w,rfl,hw⟩:=zx2 e.2
  cases ha
  cases hb
  cases hc
  exact⟨t,i,j,w,rfl,e1,rfl,hj1,hj2,hw⟩
 all_goals simp[zm4] at e
def keyD:PyData->Int×Int
 | .tuple (a :: b :: _)=>(intD a,intD b)
 | _=>(0,0)
def incD (ds:List PyData):Bool:=(List.range (ds.length - 1)).all fun i=>ltP (keyD (ds.getD i .none)) (keyD (ds.getD (i+1) .none))
def rowD:PyData->Bool
 | .list ds=>ds.all zm4&&incD ds
 | _=>false
@[irreducible] def zk6:Sp:=fun vs H Q _=>∃ (v:V) (d:PyData),vs=[v]/\ShV H v d/\sml d=true/\∀ H',Same H H'->Q (.bl (rowD d)) H'
theorem zas3 {H:Hp}{v:V}{d:PyData}{Q:VK}{E:XK}(h:ShV H v d) (hs:sml d=true) (q:∀ H',Same H H'->Q (.bl (rowD d)) H'):zk6 [v] H Q E:=by unfold zk6;exact⟨v,d,rfl,h,hs,q⟩
theorem zay6 {f:Addr}{fd:FuncData}(F:Fun K "is_row" "is_row" zp9 f fd) (N:Nm mg) (zbp2:Def P w K mg base CX0 4 "is_flow" ["thing"] zk0):FnOk P w K mg base CX0 5 f fd ["row"] zk6:=by
 refine F.ok zaz2 (fun vs H Q E h=>by unfold zk6 at h;obtain⟨_,_,rfl,_⟩:=h;rfl) (fun cdv A outer s H vs Q E hr h=>?_)
 unfold zk6 at h
 obtain⟨v,d,rfl,h,hs,q⟩:=h
 have hu:=hu40 hr
 refine⟨_,(za4 (psIf (ptW (pwOr (zm9 (ptV (pB (zt6 (K:=K) rfl) N.isinstance_ zb5 (za0 (pq 0) (za0 (pTy N.list_ zm6) za3))))) (zs4 (zm9 (ptV (pB (zar0 (K:=K) rfl rfl) N.all_ zaa1 (za0 (zo4 (N:=["thing"]) (ks:=[none]) (zi7 (K:=K) rfl (pq 0)) (fun cl C s3 H3 fp=>(za9 (i:=0) nb_0 rfl (by first|exact Or.inl rfl|exact Or.inr rfl))) (fun cl C s3 H3 fp=>zj3) (fun cl C s3 H3 fp=>(pD zbp2 hr zd5 (za0 (pq 0) za3))) (.skip .nil)) za3))))))) (za8 (zc2 zt1)) zf1)
   (za8 (zc2 (pB (zar0 (K:=K) rfl rfl) N.all_ zaa1 (za0 (zo4 (N:=["one","other"]) (ks:=[none,none]) (zbg3 (K:=K) rfl N.zip_ (za0 (pq 0) (za0 (zb4 (slXK (K:=K) rfl) (pq 0) (ze1 za2) zd2) za3))) (fun cl C s3 H3 fp=>(zo9 (K:=K) (n:=2) rfl rfl (zc6 (za9 (i:=0) nb_1 rfl (by first|exact Or.inl rfl|exact Or.inr rfl)) (zc6 (za9 (i:=1) nb_1 rfl (by first|exact Or.inl rfl|exact Or.inr rfl)) zo5)))) (fun cl C s3 H3 fp=>zj3) (fun cl C s3 H3 fp=>(peC (oLtX (by exact hu)) (zb4 (slXK (K:=K) rfl) (pq 0) zd2 (ze1 za2)) (zb4 (slXK (K:=K) rfl) (pq 1) zd2 (ze1 za2)))) (.skip (.skip .nil))) za3))))),?_⟩
 refine zk2 h (.inr (.inr (.inl rfl))) ?_
 cases h
 case lst a xs ds e l=>
  have ll:=l.len
  obtain⟨dl,dm⟩:=zq8 hs
  refine zc9 (br_T ?_)
  refine zd6 e ?_
  refine zy6 (Wk.list (SqL.of e)) (by rw[sizeLine_eq];omega) (fun i=>.bl (zm4 (ds.getD i .none))) (fun _=>true) (fun j σ=>∃ t:Option V,σ=[t]) ⟨none,rfl⟩ ?_ ?_
  ·rintro j x σ H1 R S hj s1 hx ⟨t,rfl⟩ k _
   obtain⟨d,ed,hd⟩:=l.get j x hx
   refine br_T ?_
   refine zbd5 (hd.same s1) ?_
   walk_at "wh"
   rw[← getD_some ed]
   exact k rfl _ _ (Same.refl _) ⟨_,rfl⟩
  intro acc H1 f1 s1 h1
  rw[zq2,ll,zz7 zm4] at h1
  refine zaa0 h1 ?_
  rw[zal1]
  cases ea:ds.all zm4
  ·walk_at "wh"
   refine zc9 (br_F ?_)
   walk_at "wh"
   have q:Q (.bl (ds.all zm4&&incD ds)) H1:=q _ s1
   rw[ea] at q
   exact q
  have ea':∀ d∈ds,zm4 d=true:=zbr0.mp ea
  refine zc9 (br_T ?_)
  have e1:=s1 _ _ e
  refine zf9 (SqL.of e1) (fun p2 H2 f2 s2 h2=>?_)
  rw[zp8 (by walk_at "om")] at h2
  refine zbg9 (SqL.of (s2 _ _ e1)) (SqL.of h2) ?_
  refine zy6 (Wk.zipN (n:=ds.length - 1) (SqL.of (s2 _ _ e1)) (SqL.of h2) (by walk_at "om") (by rw[zbu1];show _<=_ - 1;omega) (.inr (by rw[zbu1,ll];rfl))) (by rw[sizeLine_eq];omega) (fun i=>.bl (ltP (keyD (ds.getD i .none)) (keyD (ds.getD (i+1) .none)))) (fun _=>true) (fun j σ=>∃ t u:Option V,σ=[t,u]) ⟨none,none,rfl⟩ ?_ ?_
  ·rintro j v σ H3 R S hj s3 ⟨p,x,y,rfl,hp,hx,hy⟩ ⟨t,u,rfl⟩ k _
   rw[List.getElem?_drop,show (1:Int).toNat+j=j+1 by show 1+j=j+1;omega] at hy
   obtain⟨d,ed,hd⟩:=l.get j x hx
   obtain⟨d',ed',hd'⟩:=l.get (j+1) y hy
   have s03:=(s1.trans s2).trans s3
   obtain⟨t1,i1,j1,w1,rfl,ht1,rfl,_⟩:=zaa8 (hd.same s03) (ea' d (zbq0 ed))
   obtain⟨t2,i2,j2,w2,rfl,ht2,rfl,_⟩:=zaa8 (hd'.same s03) (ea' d' (zbq0 ed'))
   rw[getD_some ed,getD_some ed'] at k
   refine zk8 hp ?_
   refine br_T ?_
   refine zat5 ht1 (fun p4 H4 f4 s4 h4=>?_)
   refine zat5 (s4 _ _ ht2) (fun p5 H5 f5 s5 h5=>?_)
   refine ltP_rd (x:=(i1,j1)) (y:=(i2,j2)) (s5 _ _ h4) h5 ?_
   walk_at "wh"
   exact k rfl _ _ (s4.trans s5) ⟨_,_,rfl⟩
  intro acc2 H3 f3 s3 h3
  rw[zq2] at h3
  have h3:H3 acc2=some (.lst (((List.range (ds.length - 1)).map fun i=>ltP (keyD (ds.getD i .none)) (keyD (ds.getD (i+1) .none))).map V.bl)):=by rw[h3,zbt1];rfl
  refine zaa0 h3 ?_
  have q:Q (.bl (ds.all zm4&&incD ds)) H3:=q _ ((s1.trans s2).trans s3)
  rw[ea,zbu2] at q
  rw[zbw9]
  exact q
 all_goals (walk_at "wh";refine zc9 (br_F ?_);walk_at "wh";refine br_T ?_;walk_at "wh";exact q _ (Same.refl _))
def valG {κ:Type}[DecidableEq κ] (kv:List (κ×Int)) (k:κ):Option Int:=(kv.find? fun z=>decide (z.1=k)).map (·.2)
def putG {κ:Type}[DecidableEq κ] (kv:List (κ×Int)) (k:κ) (n:Int):List (κ×Int):=if (kv.any fun z=>decide (z.1=k))=true then kv.map (fun z=>if z.1=k then (z.1,n) else z) else kv++[(k,n)]
def addG {κ:Type}[DecidableEq κ] (s:List (κ×Int)) (z:κ×Int):List (κ×Int):=putG s z.1 ((valG s z.1).getD 0+z.2)
def sumG {κ:Type}[DecidableEq κ] (zs:List (κ×Int)):List (κ×Int):=zs.foldl addG []
def dF {κ κ':Type}(f:κ->κ') (kv:List (κ×Int)):List (κ'×V):=kv.map fun z=>(f z.1,V.int z.2)
section
variable {κ κ':Type}[DecidableEq κ] [DecidableEq κ']
theorem zl3 {z:κ×Int}{kv:List (κ×Int)}{k:κ}(e:z.1=k):valG (z :: kv) k=some z.2:=by unfold valG;rw[zbv5,decide_eq_true e];rfl
theorem zl2 {z:κ×Int}{kv:List (κ×Int)}{k:κ}(e:¬ z.1=k):valG (z :: kv) k=valG kv k:=by unfold valG;rw[zbv5,decide_eq_false e]
theorem zq7 {f:κ->κ'}(hf:∀ a b,f a=f b->a=b) (k:κ):∀ kv:List (κ×Int),valV (dF f kv) (f k)=(valG kv k).map V.int
 | []=>rfl
 | z :: kv=>by
  show valV ((f z.1,V.int z.2) :: dF f kv) (f k)=_
  by_cases e:z.1=k
  ·rw[zr8 (p:=(f z.1,V.int z.2)) (congrArg f e),zl3 e];rfl
  ·rw[zr7 (p:=(f z.1,V.int z.2)) (fun q=>e (hf _ _ q)),zq7 hf k kv,zl2 e]
theorem zy3 {f:κ->κ'}(hf:∀ a b,f a=f b->a=b) (kv:List (κ×Int)) (k:κ) (n:Int):putK (dF f kv) (f k) (.int n)=dF f (putG kv k n):=by
 unfold putK putG dF
 have e1:((kv.map fun z=>(f z.1,V.int z.2)).any fun kv=>decide (kv.1=f k))=kv.any fun z=>decide (z.1=k):=by
  rw[List.any_map]
  congr 1;funext z
  exact decide_eq_decide.mpr ⟨hf _ _,congrArg f⟩
 rw[e1]
 split
 ·rw[zbt1,zbt1]
  refine zbu0 fun z _=>?_
  show (if f z.1=f k then (f z.1,V.int n) else (f z.1,V.int z.2))=(f (if z.1=k then (z.1,n) else z).1,V.int (if z.1=k then (z.1,n) else z).2)
  by_cases e:z.1=k
  ·rw[if_pos (congrArg f e),if_pos e]
  ·rw[if_neg (fun q=>e (hf _ _ q)),if_neg e]
 ·rw[zbt3];rfl
theorem zbe3 (kv:List (κ×Int)) (k:κ) (n:Int):(putG kv k n).length<=kv.length+1:=by
 unfold putG
 split
 ·rw[zbp5];omega
 ·rw[zbp9];exact zbq9 _
theorem zs1 (zs:List (κ×Int)) (z:κ×Int):sumG (zs++[z])=addG (sumG zs) z:=by unfold sumG;rw[List.foldl_append];rfl
theorem zm5 (zs:List (κ×Int)):(sumG zs).length<=zs.length:=by
 have:∀ (zs s:List (κ×Int)),(zs.foldl addG s).length<=s.length+zs.length:=fun zs=>by
  induction zs with
  | nil=>exact fun s=>zbq9 _
  | cons z zs ih=>
   intro s
   have h1:=ih (addG s z)
   have h2:(addG s z).length<=s.length+1:=zbe3 _ _ _
   rw[List.foldl_cons,zbq5]
   omega
 have:=this zs []
 unfold sumG
 simpa using this
theorem zs2 {zs:List (κ×Int)}{i:Nat}{z:κ×Int}(h:zs[i]?=some z):sumG (zs.take (i+1))=addG (sumG (zs.take i)) z:=by
 rw[List.take_succ,h];exact zs1 _ _
end
theorem zq3 (a b:Int) (h:(Sum.inl a:Key)=Sum.inl b):a=b:=Sum.inl.inj h
theorem zw7 (a b:Int×Int) (h:pK a=pK b):a=b:=by
 unfold pK at h
 simp only[List.cons.injEq,Sum.inl.injEq,and_true] at h
 exact Prod.ext h.1 h.2
@[irreducible] def zm0:Sp:=fun vs H Q _=>
 (∃ (p:Addr) (ts:List Addr) (zs:List (Int×Int)),vs=[.ref p]/\H p=some (.lst (ts.map V.ref))/\ts.length=zs.length/\zs.length<=2000/\(∀ (i:Nat) t z,ts[i]?=some t->zs[i]?=some z->H t=some (.tup [.int z.1,.int z.2]))/\∀ r H',H r=none->Same H H'->H' r=some (.dK (dF Sum.inl (sumG zs)))->Q (.ref r) H') ∨
 ∃ (p:Addr) (ts:List (Addr×Addr)) (zs:List ((Int×Int)×Int)),vs=[.ref p]/\H p=some (.lst (ts.map fun t=>V.ref t.1))/\ts.length=zs.length/\zs.length<=2000/\(∀ (i:Nat) t z,ts[i]?=some t->zs[i]?=some z->H t.1=some (.tup [.ref t.2,.int z.2])/\H t.2=some (.tup (pV z.1)))/\∀ r H',H r=none->Same H H'->H' r=some (.dT (dF pK (sumG zs)))->Q (.ref r) H'
theorem zaa6 {H:Hp}{p:Addr}{ts:List Addr}{zs:List (Int×Int)}{Q:VK}{E:XK}(hp:H p=some (.lst (ts.map V.ref))) (hl:ts.length=zs.length) (hz:zs.length<=2000) (ht:∀ (i:Nat) t z,ts[i]?=some t->zs[i]?=some z->H t=some (.tup [.int z.1,.int z.2])) (q:∀ r H',H r=none->Same H H'->H' r=some (.dK (dF Sum.inl (sumG zs)))->Q (.ref r) H'):zm0 [.ref p] H Q E:=by
 unfold zm0;exact .inl ⟨p,ts,zs,rfl,hp,hl,hz,ht,q⟩
theorem zaz7 {f:Addr}{fd:FuncData}(F:Fun K "summed" "summed" zp6 f fd) (N:Nm mg):FnOk P w K mg base CX0 1 f fd ["pairs"] zm0:=by
 refine F.ok zr9 (fun vs H Q E h=>by unfold zm0 at h;rcases h with ⟨_,_,_,rfl,_⟩|⟨_,_,_,rfl,_⟩<;>rfl) (fun cdv A outer s H vs Q E hr h=>?_)
 unfold zm0 at h
 have hu:=hu40 hr
 refine⟨_,(za4 (psS (i:=1) zr9.nd zy7)
   (za4 (zu5 PassesOwn.never rfl (zi7 (K:=K) rfl (pq 0)) (zo9 (K:=K) (n:=2) rfl rfl (zc6 (za9 (i:=2) zr9.nd rfl (by first|exact Or.inl rfl|exact Or.inr rfl)) (zc6 (za9 (i:=3) zr9.nd rfl (by first|exact Or.inl rfl|exact Or.inr rfl)) zo5))) (za8 (zao0 (by exact hu) (pq 1) (pq 2) (zc1 oAdd (zv3 (by exact hu) (pq 1) (pq 2) za2) (pq 3)))))
   (za8 (zc2 (pq 1))))),?_⟩
 rcases h with ⟨p,ts,zs,rfl,hp,hl,hz,ht,q⟩|⟨p,ts,zs,rfl,hp,hl,hz,ht,q⟩
 ·walk_at "wh"
  refine zan1 (fun r H1 f1 s1 h1=>?_)
  have npr:p≠r:=za5 hp f1
  refine zd6 (s1 _ _ hp) ?_
  refine zk5 (xs:=ts.map V.ref) (fun i σ I=>∃ t u:Option V,σ=[some (.ref p),some (.ref r),t,u]/\Chg r H1 I/\I r=some (.dK (dF Sum.inl (sumG (zs.take i))))) ?_ ?_ ?_ ?_
  ·exact⟨_,_,rfl,Chg.refl _ _,h1⟩
  ·rintro i σ I _ ⟨_,_,_,c,_⟩
   exact SqL.of (c _ _ npr (s1 _ _ hp))
  ·rintro i v σ I hi ⟨t',u',rfl,c,hr'⟩
   rw[zbq2] at hi
   obtain⟨t,et,rfl⟩:=zbq7.mp hi
   obtain⟨z,ez⟩:∃ z,zs[i]?=some z:=⟨_,zbp6 (by have:=(zbp8.mp et).1;omega)⟩
   have e0:=ht i t z et ez
   have e1:=c _ _ (za5 e0 f1) (s1 _ _ e0)
   refine zk8 e1 ?_
   refine zai1 hr' ?_
   refine zai4 hr' ?_
   have ev:(valV (dF Sum.inl (sumG (zs.take i))) (Sum.inl z.1:Key)).getD (V.int 0)=.int ((valG (sumG (zs.take i)) z.1).getD 0):=by
    rw[zq7 zq3]
    cases valG (sumG (zs.take i)) z.1<;>rfl
   rw[ev]
   refine zaw6 hr' (by unfold dF;rw[zbp5,sizeLine_eq];have:=zm5 (zs.take i);rw[zbt0] at this;omega) (fun I2 c2 h2=>?_)
   rw[zy3 zq3] at h2
   walk_at "wh"
   exact⟨_,_,rfl,c.trans c2,by rw[zs2 ez];exact h2⟩
  ·rintro σ I ⟨t',u',rfl,c,hr'⟩
   rw[zbp5,hl,zbx0] at hr'
   walk_at "wh"
   exact q r I f1 (s1.chg f1 c) hr'
 ·walk_at "wh"
  refine zbh7 (fun r H1 f1 s1 h1=>?_)
  have npr:p≠r:=za5 hp f1
  refine zd6 (s1 _ _ hp) ?_
  refine zk5 (xs:=ts.map fun t=>V.ref t.1) (fun i σ I=>∃ t u:Option V,σ=[some (.ref p),some (.ref r),t,u]/\Chg r H1 I/\I r=some (.dT (dF pK (sumG (zs.take i))))) ?_ ?_ ?_ ?_
  ·exact⟨_,_,rfl,Chg.refl _ _,h1⟩
  ·rintro i σ I _ ⟨_,_,_,c,_⟩
   exact SqL.of (c _ _ npr (s1 _ _ hp))
  ·rintro i v σ I hi ⟨t',u',rfl,c,hr'⟩
   rw[zbq2] at hi
   obtain⟨t,et,rfl⟩:=zbq7.mp hi
   obtain⟨z,ez⟩:∃ z,zs[i]?=some z:=⟨_,zbp6 (by have:=(zbp8.mp et).1;omega)⟩
   obtain⟨e0,e0'⟩:=ht i t z et ez
   have e1:=c _ _ (za5 e0 f1) (s1 _ _ e0)
   have e2:=c _ _ (za5 e0' f1) (s1 _ _ e0')
   refine zk8 e1 ?_
   refine zas1 hr' ?_
   refine zba0 hr' (k:=pK z.1) e2 ?_
   have ev:(valV (dF pK (sumG (zs.take i))) (pK z.1)).getD (V.int 0)=.int ((valG (sumG (zs.take i)) z.1).getD 0):=by
    rw[zq7 zw7]
    cases valG (sumG (zs.take i)) z.1<;>rfl
   rw[ev]
   refine zbh1 hr' (k:=pK z.1) e2 (by unfold dF;rw[zbp5,sizeLine_eq];have:=zm5 (zs.take i);rw[zbt0] at this;omega) (fun I2 c2 h2=>?_)
   rw[zy3 zw7] at h2
   walk_at "wh"
   exact⟨_,_,rfl,c.trans c2,by rw[zs2 ez];exact h2⟩
  ·rintro σ I ⟨t',u',rfl,c,hr'⟩
   rw[zbp5,hl,zbx0] at hr'
   walk_at "wh"
   exact q r I f1 (s1.chg f1 c) hr'
def triD:PyData->Int×Int×Int
 | .tuple [a,b,c]=>(intD a,intD b,intD c)
 | _=>(0,0,0)
def rowF (d:PyData):List (Int×Int×Int):=(zb6 d).map triD
def zr1:PyData->Bool
 | .list ds=>decide (0<ds.length)&&rowD (ds.getD 0 .none)&&decide (0<(zb6 (ds.getD 0 .none)).length)
 | _=>false
theorem zz9 {H:Hp}{v:V}{d:PyData}(h:ShV H v d) (e:rowD d=true):∃ (a:Addr) (ts:List Addr) (ds:List PyData),v=.ref a/\d=.list ds/\H a=some (.lst (ts.map V.ref))/\ts.length=ds.length/\(∀ (i:Nat) t x,ts[i]?=some t->(rowF d)[i]?=some x->H t=some (.tup [.int x.1,.int x.2.1,.int x.2.2]))/\∀ x∈rowF d,0<=x.2.1/\x.2.1<=x.1/\1<=x.2.2:=by
 cases h
 case lst a xs ds e1 l=>
  have e:(ds.all zm4&&incD ds)=true:=e
  have ea:=zbr0.mp (Bool.and_eq_true_iff.mp e).1
  have key:∀ {xs:List V}{ds:List PyData},ShL H xs ds->(∀ d∈ds,zm4 d=true)->∃ ts:List Addr,xs=ts.map V.ref/\(∀ (i:Nat) t x,ts[i]?=some t->(ds.map triD)[i]?=some x->H t=some (.tup [.int x.1,.int x.2.1,.int x.2.2]))/\∀ x∈ds.map triD,0<=x.2.1/\x.2.1<=x.1/\1<=x.2.2:=fun {xs ds} l ea=>by
   induction ds generalizing xs with
   | nil=>cases l;exact⟨[],rfl,fun i t x h=>by simp at h,fun x h=>by cases h⟩
   | cons d ds ih=>
    cases l with
    | cons h1 l=>
     obtain⟨ts,rfl,k1,k2⟩:=ih l fun d hd=>ea d (.tail _ hd)
     obtain⟨t,i,j,w,rfl,ht,rfl,hj1,hj2,hw⟩:=zaa8 h1 (ea _ (.head _))
     refine⟨t :: ts,rfl,fun n t' x g1 g2=>?_,fun x hx=>?_⟩
     ·match n with
      | 0=>cases g1;cases g2;exact ht
      | n+1=>exact k1 n t' x g1 g2
     ·rcases zbq8.mp hx with rfl|hx
      ·exact⟨hj1,hj2,hw⟩
      ·exact k2 x hx
  obtain⟨ts,rfl,k1,k2⟩:=key l ea
  exact⟨a,ts,ds,rfl,rfl,e1,by have:=l.len;rwa [zbp5] at this,k1,k2⟩
 all_goals simp[rowD] at e
theorem zh7 (ds:List PyData):(rowF (.list ds)).length=ds.length:=by unfold rowF;rw[zbp5];rfl
@[irreducible] def zm1:Sp:=fun vs H Q _=>∃ (v:V) (d:PyData),vs=[v]/\ShV H v d/\sml d=true/\∀ H',Same H H'->Q (.bl (zr1 d)) H'
theorem zap2 {H:Hp}{v:V}{d:PyData}{Q:VK}{E:XK}(h:ShV H v d) (hs:sml d=true) (q:∀ H',Same H H'->Q (.bl (zr1 d)) H'):zm1 [v] H Q E:=by unfold zm1;exact⟨v,d,rfl,h,hs,q⟩
theorem zat4 {f:Addr}{fd:FuncData}(F:Fun K "begins" "begins" zp7 f fd) (N:Nm mg) (zbo2:Def P w K mg base CX0 5 "is_row" ["row"] zk6):FnOk P w K mg base CX0 6 f fd ["stream"] zm1:=by
 refine F.ok zaz6 (fun vs H Q E h=>by unfold zm1 at h;obtain⟨_,_,rfl,_⟩:=h;rfl) (fun cdv A outer s H vs Q E hr h=>?_)
 unfold zm1 at h
 obtain⟨v,d,rfl,h,hs,q⟩:=h
 have hu:=hu40 hr
 refine⟨_,(za8 (zc2 (zu2 (pB (zt6 (K:=K) rfl) N.isinstance_ zb5 (za0 (pq 0) (za0 (pTy N.list_ zm6) za3))) (zu2 (peC oGt (pB (zo1 (K:=K) rfl) N.len_ zi6 (za0 (pq 0) za3)) za2) (zu2 (pD zbo2 hr zd5 (za0 (zd1 (K:=K) rfl (pq 0) za2) za3)) (zt8 (peC oGt (pB (zo1 (K:=K) rfl) N.len_ zi6 (za0 (zd1 (K:=K) rfl (pq 0) za2) za3)) za2))))))),?_⟩
 refine zk2 h (.inr (.inr (.inl rfl))) ?_
 cases h
 case lst a xs ds e l=>
  have ll:=l.len
  obtain⟨dl,dm⟩:=zq8 hs
  have q:∀ H',Same H H'->Q (.bl (decide (0<ds.length)&&rowD (ds.getD 0 .none)&&decide (0<(zb6 (ds.getD 0 .none)).length))) H':=q
  refine br_T ?_
  refine zg3 e ?_
  rw[ll]
  refine zd3 (fun h0=>?_) (fun h0=>?_)
  ·rw[decide_eq_true (show 0<ds.length by walk_at "om"),zbu2] at q
   obtain⟨x0,ex0⟩:∃ x,xs[0]?=some x:=⟨_,zbp6 (by walk_at "om")⟩
   obtain⟨d0,ed0,hd0⟩:=l.get 0 x0 ex0
   rw[getD_some ed0] at q
   have at0:atI xs 0=some x0:=zm2 (j:=0) ex0
   refine zd4 (v:=x0) e at0 ?_
   refine zas3 hd0 (dm d0 (zbq0 ed0)) (fun H1 s1=>?_)
   cases er:rowD d0
   ·have q:=q _ s1
    rw[er] at q
    refine br_F ?_
    walk_at "wh"
    exact q
   ·have q:=q _ s1
    rw[er,zbu2] at q
    obtain⟨b,ts,es,rfl,rfl,hb,hl,_⟩:=zz9 hd0 er
    refine br_T ?_
    refine zd4 (v:=.ref b) (s1 _ _ e) at0 ?_
    refine zg3 (s1 _ _ hb) ?_
    rw[zbp5,hl]
    walk_at "wh"
    have ed:decide ((es.length:Int)>0)=decide (0<(zb6 (.list es)).length):=decide_eq_decide.mpr (by show (es.length:Int)>0↔0<es.length;omega)
    first|(rw[← ed] at q;exact q)|exact q
  ·have q:=q _ (Same.refl _)
   rw[decide_eq_false (show ¬ 0<ds.length by walk_at "om")] at q
   walk_at "wh"
   exact q
 all_goals (walk_at "wh";refine br_F ?_;walk_at "wh";exact q _ (Same.refl _))
def zm3 (a b:PyData):Bool:=eqDI (sumG ((rowF a).map fun z=>(z.1 - z.2.1,z.2.2))) (sumG ((rowF b).map fun z=>(z.1,z.2.2)))
@[irreducible] def zn9:Sp:=fun vs H Q _=>∃ (v u:V) (d e:PyData),vs=[v,u]/\ShV H v d/\ShV H u e/\rowD d=true/\rowD e=true/\(zb6 d).length<=1000/\(zb6 e).length<=1000/\∀ H',Same H H'->Q (.bl (zm3 d e)) H'
theorem zat2 {H:Hp}{v u:V}{d e:PyData}{Q:VK}{E:XK}(hv:ShV H v d) (hu:ShV H u e) (rd:rowD d=true) (re:rowD e=true) (ld:(zb6 d).length<=1000) (le:(zb6 e).length<=1000) (q:∀ H',Same H H'->Q (.bl (zm3 d e)) H'):zn9 [v,u] H Q E:=by unfold zn9;exact⟨v,u,d,e,rfl,hv,hu,rd,re,ld,le,q⟩
theorem zbc8 {f:Addr}{fd:FuncData}(F:Fun K "meets" "meets" zt2 f fd) (N:Nm mg) (zbp1:Def P w K mg base CX0 1 "summed" ["pairs"] zm0):FnOk P w K mg base CX0 2 f fd ["ahead","row"] zn9:=by
 refine F.ok zao3 (fun vs H Q E h=>by unfold zn9 at h;obtain⟨_,_,_,_,rfl,_⟩:=h;rfl) (fun cdv A outer s H vs Q E hr h=>?_)
 unfold zn9 at h
 obtain⟨v,u,d,e,rfl,hv,hu',rd,re,ld,le,q⟩:=h
 have hu:=hu40 hr
 obtain⟨a,ts,ds,rfl,rfl,ha,hl,hp,_⟩:=zz9 hv rd
 obtain⟨b,us,es,rfl,rfl,hb,hl',hp',_⟩:=zz9 hu' re
 have ld:ds.length<=1000:=ld
 have le:es.length<=1000:=le
 refine⟨_,(za4 (psS (i:=2) zao3.nd (pD zbp1 hr zd5 (za0 (zo4 (N:=["left","sent","flow"]) (ks:=[none,none,none]) (zi7 (K:=K) rfl (pq 0)) (fun cl C s3 H3 fp=>(zo9 (K:=K) (n:=3) rfl rfl (zc6 (za9 (i:=0) nb_2 rfl (by first|exact Or.inl rfl|exact Or.inr rfl)) (zc6 (za9 (i:=1) nb_2 rfl (by first|exact Or.inl rfl|exact Or.inr rfl)) (zc6 (za9 (i:=2) nb_2 rfl (by first|exact Or.inl rfl|exact Or.inr rfl)) zo5))))) (fun cl C s3 H3 fp=>zj3) (fun cl C s3 H3 fp=>(zx7 (za0 (zc1 oSub (pq 0) (pq 1)) (za0 (pq 2) za3)))) (.skip (.skip (.skip .nil)))) za3)))
   (za8 (zc2 (peC (zn2 (K:=K) rfl (by exact hu)) (pq 2) (pD zbp1 hr zd5 (za0 (zo4 (N:=["left","sent","flow"]) (ks:=[none,none,none]) (zi7 (K:=K) rfl (pq 1)) (fun cl C s3 H3 fp=>(zo9 (K:=K) (n:=3) rfl rfl (zc6 (za9 (i:=0) nb_2 rfl (by first|exact Or.inl rfl|exact Or.inr rfl)) (zc6 (za9 (i:=1) nb_2 rfl (by first|exact Or.inl rfl|exact Or.inr rfl)) (zc6 (za9 (i:=2) nb_2 rfl (by first|exact Or.inl rfl|exact Or.inr rfl)) zo5))))) (fun cl C s3 H3 fp=>zj3) (fun cl C s3 H3 fp=>(zx7 (za0 (pq 0) (za0 (pq 2) za3)))) (.skip (.skip (.skip .nil)))) za3)))))),?_⟩
 refine zd6 ha ?_
 refine zaf7 (Wk.list (SqL.of ha)) (by rw[zbp5,sizeLine_eq];omega) (fun i=>.tup [.int (((rowF (.list ds)).getD i (0,0,0)).1 - ((rowF (.list ds)).getD i (0,0,0)).2.1),.int ((rowF (.list ds)).getD i (0,0,0)).2.2]) (fun j σ=>∃ t u w:Option V,σ=[t,u,w]) ⟨none,none,none,rfl⟩ ?_ ?_
 ·rintro i x σ I R S hi s1 hx ⟨_,_,_,rfl⟩ k
  rw[zbp5] at hi
  rw[zbq2] at hx
  obtain⟨t,et,rfl⟩:=zbq7.mp hx
  obtain⟨z,ez⟩:∃ z,(rowF (.list ds))[i]?=some z:=⟨_,zbp6 (by rw[zh7];omega)⟩
  rw[show (rowF (.list ds)).getD i (0,0,0)=z by rw[zbq4,ez];rfl] at k
  refine zk8 (s1 _ _ (hp i t z et ez)) ?_
  refine br_T ?_
  refine zb8 (fun p I1 f1 r1 k1=>?_)
  walk_at "wh"
  exact k _ _ _ f1 r1 k1 ⟨_,_,_,rfl⟩
 rintro l1 ps1 H1 F1
 rw[zbp5] at F1
 refine zaa6 (zs:=(rowF (.list ds)).map fun z=>(z.1 - z.2.1,z.2.2)) F1.out (by rw[F1.len,zbp5,zh7];exact hl) (by rw[zbp5,zh7];omega) (fun i t z g1 g2=>?_) (fun r2 H2 f2 s2 h2=>?_)
 ·rw[zbq2] at g2
  obtain⟨y,ey,rfl⟩:=zbq7.mp g2
  have:=(F1.row i t g1).2
  rw[show (rowF (.list ds)).getD i (0,0,0)=y by rw[zbq4,ey];rfl] at this
  exact this
 have hb2:=s2 _ _ (F1.same _ _ hb)
 refine zd6 hb2 ?_
 refine zaf7 (Wk.list (SqL.of hb2)) (by rw[zbp5,sizeLine_eq];omega) (fun i=>.tup [.int ((rowF (.list es)).getD i (0,0,0)).1,.int ((rowF (.list es)).getD i (0,0,0)).2.2]) (fun j σ=>∃ t u w:Option V,σ=[t,u,w]) ⟨none,none,none,rfl⟩ ?_ ?_
 ·rintro i x σ I R S hi s1 hx ⟨_,_,_,rfl⟩ k
  rw[zbp5] at hi
  rw[zbq2] at hx
  obtain⟨t,et,rfl⟩:=zbq7.mp hx
  obtain⟨z,ez⟩:∃ z,(rowF (.list es))[i]?=some z:=⟨_,zbp6 (by rw[zh7];omega)⟩
  rw[show (rowF (.list es)).getD i (0,0,0)=z by rw[zbq4,ez];rfl] at k
  refine zk8 (s1 _ _ (s2 _ _ (F1.same _ _ (hp' i t z et ez)))) ?_
  refine br_T ?_
  refine zb8 (fun p I1 f1 r1 k1=>?_)
  walk_at "wh"
  exact k _ _ _ f1 r1 k1 ⟨_,_,_,rfl⟩
 rintro l3 ps3 H3 F3
 rw[zbp5] at F3
 refine zaa6 (zs:=(rowF (.list es)).map fun z=>(z.1,z.2.2)) F3.out (by rw[F3.len,zbp5,zh7];exact hl') (by rw[zbp5,zh7];omega) (fun i t z g1 g2=>?_) (fun r4 H4 f4 s4 h4=>?_)
 ·rw[zbq2] at g2
  obtain⟨y,ey,rfl⟩:=zbq7.mp g2
  have:=(F3.row i t g1).2
  rw[show (rowF (.list es)).getD i (0,0,0)=y by rw[zbq4,ey];rfl] at this
  exact this
 refine zbh5 (s4 _ _ (F3.same _ _ h2)) h4 ?_
 walk_at "wh"
 exact q _ (((F1.same.trans s2).trans F3.same).trans s4)
def zu0 (h:Int) (d:PyData):Bool:=(rowF d).all fun z=>decide (z.1=h)
def zad6 (d:PyData):Bool:=(rowF d).all fun z=>decide (z.1=z.2.1)
def zn6 (ds:List PyData):Bool:=(List.range (ds.length - 1)).all fun i=>zm3 (ds.getD i .none) (ds.getD (i+1) .none)
def zf8 (h f:Int) (d:PyData):Bool:=zr1 d&&(decide (((zb6 d).length:Int)=f)&&((zb6 d).all rowD&&(zu0 h ((zb6 d).getD 0 .none)&&(zad6 ((zb6 d).getD ((zb6 d).length - 1) .none)&&zn6 (zb6 d)))))
theorem zam0 {α:Type}(g:α->Bool) (xs:List α):(xs.map g).all id=xs.all g:=by rw[zbw9];rfl
theorem zah1 {xs:List (Int×Int×Int)}(g:Int×Int×Int->Bool):(List.range xs.length).map (fun i=>V.bl (g (xs.getD i (0,0,0))))=(xs.map g).map V.bl:=by
 apply List.ext_getElem?
 intro i
 rw[zbq2,zbq2,zbq2]
 by_cases h:i<xs.length
 ·rw[List.getElem?_range h,zbp6 h]
  simp[h]
 ·rw[zbu7 (by simp;omega),zbu7 (by walk_at "om")]
  rfl
@[irreducible] def zg4:Sp:=fun vs H Q _=>∃ (h f:Int) (v:V) (d:PyData),vs=[.int h,.int f,v]/\ShV H v d/\sml d=true/\∀ H',Same H H'->Q (.bl (zf8 h f d)) H'
theorem zaq6 {H:Hp}{h f:Int}{v:V}{d:PyData}{Q:VK}{E:XK}(hv:ShV H v d) (hs:sml d=true) (q:∀ H',Same H H'->Q (.bl (zf8 h f d)) H'):zg4 [.int h,.int f,v] H Q E:=by unfold zg4;exact⟨h,f,v,d,rfl,hv,hs,q⟩
set_option maxHeartbeats 0 in
theorem zae2 {f:Addr}{fd:FuncData}(F:Fun K "is_stream" "is_stream" zk1 f fd) (N:Nm mg) (zbp3:Def P w K mg base CX0 6 "begins" ["stream"] zm1) (zbo2:Def P w K mg base CX0 5 "is_row" ["row"] zk6) (zbp4:Def P w K mg base CX0 2 "meets" ["ahead","row"] zn9):FnOk P w K mg base CX0 7 f fd ["hosts","fields","stream"] zg4:=by
 refine F.ok zp5 (fun vs H Q E h=>by unfold zg4 at h;obtain⟨_,_,_,_,rfl,_⟩:=h;rfl) (fun cdv A outer s H vs Q E hr h=>?_)
 unfold zg4 at h
 obtain⟨h,f,v,d,rfl,hv,hs,q⟩:=h
 have hu:=hu40 hr
 refine⟨_,(za4 (psIf (ptW (pwOr (zm9 (ptV (pD zbp3 hr zd5 (za0 (pq 2) za3)))) (pwOr (ptC (zac5 (K:=K) rfl (by exact hu)) (pB (zo1 (K:=K) rfl) N.len_ zi6 (za0 (pq 2) za3)) (pq 1)) (zs4 (zm9 (ptV (pB (zar0 (K:=K) rfl rfl) N.all_ zaa1 (za0 (zo4 (N:=["row"]) (ks:=[none]) (zi7 (K:=K) rfl (pq 2)) (fun cl C s3 H3 fp=>(za9 (i:=0) nb_3 rfl (by first|exact Or.inl rfl|exact Or.inr rfl))) (fun cl C s3 H3 fp=>zj3) (fun cl C s3 H3 fp=>(pD zbo2 hr zd5 (za0 (pq 0) za3))) (.skip .nil)) za3)))))))) (za8 (zc2 zt1)) zf1)
   (za4 (psS (i:=3) zp5.nd (pB (zar0 (K:=K) rfl rfl) N.all_ zaa1 (za0 (zo4 (N:=["left","sent","flow","hosts"]) (ks:=[none,none,none,some 0]) (zi7 (K:=K) rfl (zd1 (K:=K) rfl (pq 2) za2)) (fun cl C s3 H3 fp=>(zo9 (K:=K) (n:=3) rfl rfl (zc6 (za9 (i:=0) nb_4 rfl (by first|exact Or.inl rfl|exact Or.inr rfl)) (zc6 (za9 (i:=1) nb_4 rfl (by first|exact Or.inl rfl|exact Or.inr rfl)) (zc6 (za9 (i:=2) nb_4 rfl (by first|exact Or.inl rfl|exact Or.inr rfl)) zo5))))) (fun cl C s3 H3 fp=>zj3) (fun cl C s3 H3 fp=>(peC (zn2 (K:=K) rfl (by exact hu)) (pq 0) (pq 3))) (.skip (.skip (.skip (.take rfl rfl (by first|exact Or.inl rfl|exact Or.inr rfl) .nil))))) za3)))
   (za4 (psS (i:=4) zp5.nd (pB (zar0 (K:=K) rfl rfl) N.all_ zaa1 (za0 (zo4 (N:=["left","sent","flow"]) (ks:=[none,none,none]) (zi7 (K:=K) rfl (zd1 (K:=K) rfl (pq 2) (zaj6 uNeg za2))) (fun cl C s3 H3 fp=>(zo9 (K:=K) (n:=3) rfl rfl (zc6 (za9 (i:=0) nb_5 rfl (by first|exact Or.inl rfl|exact Or.inr rfl)) (zc6 (za9 (i:=1) nb_5 rfl (by first|exact Or.inl rfl|exact Or.inr rfl)) (zc6 (za9 (i:=2) nb_5 rfl (by first|exact Or.inl rfl|exact Or.inr rfl)) zo5))))) (fun cl C s3 H3 fp=>zj3) (fun cl C s3 H3 fp=>(peC (zn2 (K:=K) rfl (by exact hu)) (pq 0) (pq 1))) (.skip (.skip (.skip .nil)))) za3)))
   (za8 (zc2 (zu2 (pq 3) (zu2 (pq 4) (zt8 (pB (zar0 (K:=K) rfl rfl) N.all_ zaa1 (za0 (zo4 (N:=["ahead","row"]) (ks:=[none,none]) (zbg3 (K:=K) rfl N.zip_ (za0 (pq 2) (za0 (zb4 (slXK (K:=K) rfl) (pq 2) (ze1 za2) zd2) za3))) (fun cl C s3 H3 fp=>(zo9 (K:=K) (n:=2) rfl rfl (zc6 (za9 (i:=0) nb_6 rfl (by first|exact Or.inl rfl|exact Or.inr rfl)) (zc6 (za9 (i:=1) nb_6 rfl (by first|exact Or.inl rfl|exact Or.inr rfl)) zo5)))) (fun cl C s3 H3 fp=>zj3) (fun cl C s3 H3 fp=>(pD zbp4 hr zd5 (za0 (pq 0) (za0 (pq 1) za3)))) (.skip (.skip .nil))) za3)))))))))),?_⟩
 refine zap2 hv hs (fun H1 s1=>?_)
 unfold zf8 at q
 cases eb:zr1 d
 ·have q:=q _ s1
  rw[eb] at q
  refine zc9 (br_F ?_)
  refine br_T ?_
  walk_at "wh"
  exact q
 cases hv
 case lst a xs ds e l=>
  have q:∀ H',Same H H'->Q (.bl (true&&(decide ((ds.length:Int)=f)&&(ds.all rowD&&(zu0 h (ds.getD 0 .none)&&(zad6 (ds.getD (ds.length - 1) .none)&&zn6 ds)))))) H':=fun H' s'=>by
   have q:=q H' s'
   rw[eb] at q
   exact q
  have ll:=l.len
  obtain⟨dl,dm⟩:=zq8 hs
  have d0:0<ds.length:=by
   have eb:(decide (0<ds.length)&&rowD (ds.getD 0 .none)&&decide (0<(zb6 (ds.getD 0 .none)).length))=true:=eb
   rw[zbr3,zbr3] at eb
   exact of_decide_eq_true eb.1.1
  have e1:=s1 _ _ e
  refine zc9 (br_T ?_)
  refine zg3 e1 ?_
  rw[ll]
  refine zc9 (zd3 (fun hf=>?_) (fun hf=>?_))
  ·rw[decide_eq_true hf,zbu2,zbu2] at q
   refine zd6 e1 ?_
   refine zy6 (Wk.list (SqL.of e1)) (by rw[sizeLine_eq];omega) (fun i=>.bl (rowD (ds.getD i .none))) (fun _=>true) (fun j σ=>∃ t:Option V,σ=[t]) ⟨none,rfl⟩ ?_ ?_
   ·rintro j x σ H2 R S hj s2 hx ⟨t,rfl⟩ k _
    obtain⟨d,ed,hd⟩:=l.get j x hx
    refine br_T ?_
    refine zas3 (hd.same (s1.trans s2)) (dm d (zbq0 ed)) (fun H3 s3=>?_)
    walk_at "wh"
    rw[← getD_some ed]
    exact k rfl _ _ s3 ⟨_,rfl⟩
   intro acc H2 f2 s2 h2
   rw[zq2,ll,zz7 rowD] at h2
   have s02:=s1.trans s2
   refine zaa0 h2 ?_
   rw[zal1]
   cases ea:ds.all rowD
   ·have q:=q _ s02
    rw[ea] at q
    refine zc9 (br_F ?_)
    walk_at "wh"
    exact q
   have ea':∀ d∈ds,rowD d=true:=zbr0.mp ea
   rw[ea,zbu2] at q
   refine zc9 (br_T ?_)
   obtain⟨x0,ex0⟩:∃ x,xs[0]?=some x:=⟨_,zbp6 (by walk_at "om")⟩
   obtain⟨d0',ed0,hd0⟩:=l.get 0 x0 ex0
   have m0:=dm d0' (zbq0 ed0)
   obtain⟨r0,ts0,es0,rfl,rfl,hr0,hl0,hp0,_⟩:=zz9 hd0 (ea' d0' (zbq0 ed0))
   have b0:=(zq8 m0).1
   rw[getD_some ed0] at q
   have e2:=s2 _ _ e1
   refine zd4 (v:=.ref r0) e2 (zm2 (j:=0) ex0) ?_
   refine zd6 (s02 _ _ hr0) ?_
   refine zy6 (Wk.list (SqL.of (s02 _ _ hr0))) (by rw[zbp5,sizeLine_eq];omega) (fun i=>.bl (decide (((rowF (.list es0)).getD i (0,0,0)).1=h))) (fun _=>true) (fun j σ=>∃ t u w:Option V,σ=[t,u,w,some (.int h)]) ⟨none,none,none,rfl⟩ ?_ ?_
   ·rintro i x σ I R S hi s3 hx ⟨_,_,_,rfl⟩ k _
    rw[zbp5] at hi
    rw[zbq2] at hx
    obtain⟨t,et,rfl⟩:=zbq7.mp hx
    obtain⟨z,ez⟩:∃ z,(rowF (.list es0))[i]?=some z:=⟨_,zbp6 (by rw[zh7];omega)⟩
    rw[show (rowF (.list es0)).getD i (0,0,0)=z by rw[zbq4,ez];rfl] at k
    refine zk8 (s3 _ _ (s02 _ _ (hp0 i t z et ez))) ?_
    refine br_T ?_
    walk_at "wh"
    exact k rfl _ _ (Same.refl _) ⟨_,_,_,rfl⟩
   intro acc3 H3 f3 s3 h3
   rw[zq2,zbp5,hl0,← zh7 es0,zah1 fun z=>decide (z.1=h)] at h3
   refine zaa0 h3 ?_
   rw[zam0]
   obtain⟨x1,ex1⟩:∃ x,xs[ds.length - 1]?=some x:=⟨_,zbp6 (by walk_at "om")⟩
   obtain⟨d1',ed1,hd1⟩:=l.get _ x1 ex1
   have m1:=dm d1' (zbq0 ed1)
   obtain⟨r1,ts1,es1,rfl,rfl,hr1,hl1,hp1,_⟩:=zz9 hd1 (ea' d1' (zbq0 ed1))
   have b1:=(zq8 m1).1
   rw[getD_some ed1] at q
   have s03:=s02.trans s3
   have e3:=s3 _ _ e2
   refine zd4 (v:=.ref r1) e3 (zaz0 (n:=ds.length - 1) (by walk_at "om") ex1) ?_
   refine zd6 (s03 _ _ hr1) ?_
   refine zy6 (Wk.list (SqL.of (s03 _ _ hr1))) (by rw[zbp5,sizeLine_eq];omega) (fun i=>.bl (decide (((rowF (.list es1)).getD i (0,0,0)).1=((rowF (.list es1)).getD i (0,0,0)).2.1))) (fun _=>true) (fun j σ=>∃ t u w:Option V,σ=[t,u,w]) ⟨none,none,none,rfl⟩ ?_ ?_
   ·rintro i x σ I R S hi s4 hx ⟨_,_,_,rfl⟩ k _
    rw[zbp5] at hi
    rw[zbq2] at hx
    obtain⟨t,et,rfl⟩:=zbq7.mp hx
    obtain⟨z,ez⟩:∃ z,(rowF (.list es1))[i]?=some z:=⟨_,zbp6 (by rw[zh7];omega)⟩
    rw[show (rowF (.list es1)).getD i (0,0,0)=z by rw[zbq4,ez];rfl] at k
    refine zk8 (s4 _ _ (s03 _ _ (hp1 i t z et ez))) ?_
    refine br_T ?_
    walk_at "wh"
    exact k rfl _ _ (Same.refl _) ⟨_,_,_,rfl⟩
   intro acc4 H4 f4 s4 h4
   rw[zq2,zbp5,hl1,← zh7 es1,zah1 fun z=>decide (z.1=z.2.1)] at h4
   refine zaa0 h4 ?_
   rw[zam0]
   have s04:=s03.trans s4
   have e4:=s4 _ _ e3
   have q:∀ H',Same H H'->Q (.bl ((rowF (.list es0)).all (fun z=>decide (z.1=h))&&((rowF (.list es1)).all (fun z=>decide (z.1=z.2.1))&&zn6 ds))) H':=q
   walk_at "wh"
   cases e5:(rowF (.list es0)).all (fun z=>decide (z.1=h))
   ·have q:=q _ s04
    rw[e5] at q
    refine br_F ?_
    walk_at "wh"
    exact q
   rw[e5,zbu2] at q
   refine br_T ?_
   walk_at "wh"
   cases e6:(rowF (.list es1)).all (fun z=>decide (z.1=z.2.1))
   ·have q:=q _ s04
    rw[e6] at q
    refine br_F ?_
    walk_at "wh"
    exact q
   rw[e6,zbu2] at q
   refine br_T ?_
   refine zf9 (SqL.of e4) (fun p5 H5 f5 s5 h5=>?_)
   rw[zp8 (by walk_at "om")] at h5
   have s05:=s04.trans s5
   refine zbg9 (SqL.of (s5 _ _ e4)) (SqL.of h5) ?_
   refine zy6 (Wk.zipN (n:=ds.length - 1) (SqL.of (s5 _ _ e4)) (SqL.of h5) (by walk_at "om") (by rw[zbu1];show _<=_ - 1;omega) (.inr (by rw[zbu1,ll];rfl))) (by rw[sizeLine_eq];omega) (fun i=>.bl (zm3 (ds.getD i .none) (ds.getD (i+1) .none))) (fun _=>true) (fun j σ=>∃ t u:Option V,σ=[t,u]) ⟨none,none,rfl⟩ ?_ ?_
   ·rintro j v σ H6 R S hj s6 ⟨p,x,y,rfl,hp,hx,hy⟩ ⟨t,u,rfl⟩ k _
    rw[List.getElem?_drop,show (1:Int).toNat+j=j+1 by show 1+j=j+1;omega] at hy
    obtain⟨d,ed,hd⟩:=l.get j x hx
    obtain⟨d',ed',hd'⟩:=l.get (j+1) y hy
    have s06:=s05.trans s6
    rw[getD_some ed,getD_some ed'] at k
    have il:∀ {d:PyData},sml d=true->rowD d=true->(zb6 d).length<=1000:=fun {d} m r=>by
     cases d with
     | list es=>exact (zq8 m).1
     | _=>simp[rowD] at r
    have rd:=ea' d (zbq0 ed)
    have rd':=ea' d' (zbq0 ed')
    refine zk8 hp ?_
    refine br_T ?_
    refine zat2 (hd.same s06) (hd'.same s06) rd rd' (il (dm d (zbq0 ed)) rd) (il (dm d' (zbq0 ed')) rd') (fun H7 s7=>?_)
    walk_at "wh"
    exact k rfl _ _ s7 ⟨_,_,rfl⟩
   intro acc6 H6 f6 s6 h6
   rw[zq2] at h6
   have h6:H6 acc6=some (.lst (((List.range (ds.length - 1)).map fun i=>zm3 (ds.getD i .none) (ds.getD (i+1) .none)).map V.bl)):=by rw[h6,zbt1];rfl
   refine zaa0 h6 ?_
   rw[zbw9]
   exact q _ (s05.trans s6)
  ·have q:=q _ s1
   rw[decide_eq_false hf] at q
   refine br_T ?_
   walk_at "wh"
   exact q
 all_goals simp[zr1] at eb
structure RwAt (H:Hp) (p:Addr) (bs:List Addr) (xs:List (Int×Int×Int)):Prop where
 out:H p=some (.lst (bs.map V.ref))
 len:bs.length=xs.length
 row:∀ (i:Nat) b x,bs[i]?=some b->xs[i]?=some x->H b=some (.tup [.int x.1,.int x.2.1,.int x.2.2])
theorem RwAt.same {H H':Hp}{p:Addr}{bs:List Addr}{xs:List (Int×Int×Int)}(R:RwAt H p bs xs) (s:Same H H'):RwAt H' p bs xs:=⟨s _ _ R.out,R.len,fun i b x e1 e2=>s _ _ (R.row i b x e1 e2)⟩
def flw (ms:List (List Int×Int)) (i:Nat):List ((Int×Int)×Int):=ms.map fun x=>(((x.1.drop i).sum,x.1.getD i 0),x.2)
def keyT (z:Int×Int×Int):Int×Int:=(z.1,z.2.1)
def zy9 (ms:List (List Int×Int)) (i:Nat) (xs:List (Int×Int×Int)):Prop:=OrdK (xs.map keyT)/\(∀ k,k∈xs.map keyT↔k∈(sumG (flw ms i)).map (·.1))/\∀ z∈xs,valG (sumG (flw ms i)) (keyT z)=some z.2.2
theorem zam1 {κ:Type}[DecidableEq κ] {k:κ}:∀ {kv:List (κ×Int)},k∈kv.map (·.1)->∃ n,valG kv k=some n
 | [],h=>by cases h
 | z :: kv,h=>by
  by_cases e:z.1=k
  ·exact⟨z.2,zl3 e⟩
  ·rw[zl2 e]
   rw[zbt4] at h
   rcases zbq8.mp h with h|h
   ·exact absurd h.symm e
   ·exact zam1 h
structure StAt (H:Hp) (p:Addr) (rs:List (Addr×List Addr)) (xss:List (List (Int×Int×Int))):Prop where
 out:H p=some (.lst (rs.map fun r=>V.ref r.1))
 len:rs.length=xss.length
 row:∀ (i:Nat) r xs,rs[i]?=some r->xss[i]?=some xs->RwAt (rm p H) r.1 r.2 xs
 nd:(rs.map (·.1)).Nodup
theorem StAt.same {H H':Hp}{p:Addr}{rs:List (Addr×List Addr)}{xss:List (List (Int×Int×Int))}(R:StAt H p rs xss) (s:Same H H'):StAt H' p rs xss:=⟨s _ _ R.out,R.len,fun i r xs e1 e2=>(R.row i r xs e1 e2).same (Same.rm s),R.nd⟩
def StmIs (ms:List (List Int×Int)) (f:Nat) (xss:List (List (Int×Int×Int))):Prop:=xss.length=f/\∀ (i:Nat) xs,xss[i]?=some xs->zy9 ms i xs/\xs.length<=ms.length
theorem zf0 {α:Type}{as:List α}{a b:α}{i:Nat}(h:(as++[a])[i]?=some b):(i<as.length/\as[i]?=some b)∨(i=as.length/\b=a):=by
 by_cases hi:i<as.length
 ·rw[zbt9 hi] at h
  exact .inl ⟨hi,h⟩
 ·rw[zbt5 (by walk_at "om")] at h
  have:i - as.length=0:=by
   have:=(zbp8.mp h).1
   simp at this;omega
  rw[this] at h
  cases h
  exact .inr ⟨by walk_at "om",rfl⟩
theorem zbk1 {H1 I I1:Hp}{acc r:Addr}{rs:List (Addr×List Addr)}{xss:List (List (Int×Int×Int))}{bs:List Addr}(nd:(rs.map (·.1)).Nodup) (hl:rs.length=xss.length) (rp:∀ (i:Nat) r xs,rs[i]?=some r->xss[i]?=some xs->RwAt (rm acc (nw H1 I)) r.1 r.2 xs) (hr:I r=none):((rs++[(r,bs)]).map (·.1)).Nodup:=by
 rw[zbt3,List.nodup_append]
 refine⟨nd,by simp,fun a ha b hb=>?_⟩
 obtain⟨r',hr',rfl⟩:=zbr5.mp ha
 obtain⟨i,ei⟩:=zbs8 hr'
 obtain⟨xs,ex⟩:∃ xs,xss[i]?=some xs:=⟨_,zbp6 (by have:=(zbp8.mp ei).1;omega)⟩
 have o:=zbl5 _ _ _ _ (zn7 _ _ _ _ (rp i r' xs ei ex).out)
 rw[show b=r by simpa using hb]
 exact za5 o hr
theorem zba9 {H:Hp}:∀ {xs:List V}{ds:List PyData}{ys:List V}{es:List PyData},ShL H xs ds->ShL H ys es->ShL H (xs++ys) (ds++es)
 | _,_,_,_,.nil,b=>b
 | _,_,_,_,.cons h a,b=>.cons h (zba9 a b)
theorem zy1 {d:PyData}:∀ {ds:List PyData},d∈ds->d.depth<=PyData.depthAll ds
 | [],h=>by cases h
 | e :: ds,h=>by
  rw[show PyData.depthAll (e :: ds)=max e.depth (PyData.depthAll ds) from rfl]
  rcases zbq8.mp h with rfl|h
  ·exact Nat.le_max_left _ _
  ·exact zbt7 (zy1 h) (Nat.le_max_right _ _)
def zb2 (H:Hp) (a:Addr) (b:Int):Prop:=∃ x y z:Int,H a=some (.lst [.int x,.int y,.int z])/\(y=1∨(y=0/\0<=x/\x<2147483629))/\0<=z/\z<=b
theorem zb2.same {H H':Hp}{a:Addr}{b:Int}(h:zb2 H a b) (s:Same H H'):zb2 H' a b:=by
 obtain⟨x,y,z,e,r⟩:=h
 exact⟨x,y,z,s _ _ e,r⟩
local macro_rules | `(tactic| walk_at "la")=>`(tactic| first|assumption|(refine zb2.same (H:=?H) ?l ?s;(case s=>assumption);(case l=>walk_at "la"))|fail "la")
theorem zb2.up {H:Hp}{a:Addr}{b c:Int}(h:zb2 H a b) (l:b<=c):zb2 H a c:=by
 obtain⟨x,y,z,e1,e2,e3,e4⟩:=h
 exact⟨x,y,z,e1,e2,e3,by walk_at "om"⟩
theorem zb2.ne {H:Hp}{a p:Addr}{b:Int}(h:zb2 H a b) (f:H p=none):p≠a:=by
 obtain⟨x,y,z,e,_⟩:=h
 exact Ne.symm (za5 e f)
local macro_rules | `(tactic| walk_at "ne")=>`(tactic| first|assumption|(apply Ne.symm;assumption)|(refine zb2.ne (H:=?H) (b:=?b) ?l ?f;(case f=>assumption);(case l=>walk_at "la"))|fail "ne")
@[irreducible] def zh8:Sp:=fun vs H Q _=>∃ n k:Int,vs=[.int n,.int k]/\0<=n/\n<2147483629/\0<=k/\k<=10000000/\∀ r:Int,0<=r->r<2147483587->Q (.int r) H
theorem zan6 {H:Hp}{n k:Int}{Q:VK}{E:XK}(h0:0<=n) (h1:n<2147483629) (h2:0<=k) (h3:k<=10000000) (q:∀ r:Int,0<=r->r<2147483587->Q (.int r) H):zh8 [.int n,.int k] H Q E:=by
 unfold zh8;exact⟨n,k,rfl,h0,h1,h2,h3,q⟩
theorem zak6 {f:Addr}{fd:FuncData}(F:Fun K "_law_mix" "_law_mix" zl7 f fd) (N:Nm mg):FnOk P w K mg base CX0 1 f fd ["_law_number","_law_k"] zh8:=by
 refine F.ok zy5 (fun vs H Q E h=>by unfold zh8 at h;obtain⟨n,k,rfl,_⟩:=h;rfl) (fun cdv A outer s H vs Q E hr h=>?_)
 unfold zh8 at h
 obtain⟨n,k,rfl,h1,h2,h3,h4,q⟩:=h
 refine⟨_,(za4 (psS (i:=2) zy5.nd (zc1 oMod (zc1 oMul (zc1 oAdd (zc1 oAdd (zc1 oMul (pq 0) (pq 0)) (zc1 oMul (pq 1) (pq 0))) (zc1 oMul (zc1 oMul za2 (pq 1)) (pq 1))) za2) za2))
   (za8 (zc2 (zc1 oMod (zc1 oMul (pq 2) (pq 2)) za2)))),?_⟩
 repeat walk_at "st"
 walk_at "wh"
 exact q _ (by assumption) (by assumption)
@[irreducible] def zd7:Sp:=fun vs H Q _=>∃ (a:Addr) (z:Int),vs=[.ref a,.int 0]/\H a=some (.lst [.int z])/\Q (.int z) H
theorem zar6 {H:Hp}{a:Addr}{z:Int}{Q:VK}{E:XK}(h:H a=some (.lst [.int z])) (q:Q (.int z) H):zd7 [.ref a,.int 0] H Q E:=by unfold zd7;exact⟨a,z,rfl,h,q⟩
theorem zv6 {f:Addr}{fd:FuncData}(F:Fun K "_law_cell_at" "_law_cell_at" zf7 f fd) (N:Nm mg):FnOk P w K mg base CX0 1 f fd ["_law_script","_law_k"] zd7:=by
 refine F.ok zx1 (fun vs H Q E h=>by unfold zd7 at h;obtain⟨_,_,rfl,_⟩:=h;rfl) (fun cdv A outer s H vs Q E hr h=>?_)
 unfold zd7 at h
 obtain⟨a,z,rfl,h,q⟩:=h
 have hu:=hu40 hr
 refine⟨_,(za4 (psIf (ptC (oLtX (by exact hu)) (pq 1) (pB (zo1 (K:=K) rfl) N.len_ zi6 (za0 (pq 0) za3))) (za8 (zc2 (zd1 (K:=K) rfl (pq 0) (pq 1)))) zf1)
   (za8 (zc2 za2))),?_⟩
 refine zg3 h ?_
 refine br_dT (by show (0:Int)<((1:Nat):Int);decide) ?_
 refine zd4 (v:=.int z) h rfl ?_
 walk_at "wh"
 exact q
@[irreducible] def zg8:Sp:=fun vs H Q _=>∃ (a:Addr) (z:Int),vs=[.ref a,.int 0]/\H a=some (.lst [.int z])/\∀ p H',H p=none->Same H H'->zb2 H' p 0->Q (.ref p) H'
theorem zbm3 {H:Hp}{a:Addr}{z:Int}{Q:VK}{E:XK}(h:H a=some (.lst [.int z])) (q:∀ p H',H p=none->Same H H'->zb2 H' p 0->Q (.ref p) H'):zg8 [.ref a,.int 0] H Q E:=by unfold zg8;exact⟨a,z,rfl,h,q⟩
theorem zag5 {f:Addr}{fd:FuncData}(F:Fun K "_law_left" "_law_left" zj1 f fd) (N:Nm mg) (zbn7:Def P w K mg base CX0 1 "_law_cell_at" ["_law_script","_law_k"] zd7):FnOk P w K mg base CX0 2 f fd ["_law_script","_law_k"] zg8:=by
 refine F.ok zt9 (fun vs H Q E h=>by unfold zg8 at h;obtain⟨_,_,rfl,_⟩:=h;rfl) (fun cdv A outer s H vs Q E hr h=>?_)
 unfold zg8 at h
 obtain⟨a,z,rfl,h,q⟩:=h
 have hu:=hu40 hr
 refine⟨_,(za4 (psS (i:=2) zt9.nd (pD zbn7 hr zd5 (za0 (pq 0) (za0 (pq 1) za3))))
   (za4 (psIf (ptC (oLtX (by exact hu)) (pq 2) (zc1 oPow za2 za2)) (za8 (zc2 (zp0 (za0 (zc1 oMod (pq 2) za2) (za0 za2 (za0 za2 za3)))))) zf1)
   (za8 (zc2 (zp0 (za0 (zc1 oSub (pq 2) (zc1 oPow za2 za2)) (za0 za2 (za0 za2 za3)))))))),?_⟩
 refine zar6 h ?_
 walk_at "st"
 refine zd3 (fun h=>?_) (fun h=>?_)
 ·repeat walk_at "st"
  walk_at "wh"
  exact q _ _ (by assumption) (by assumption) ⟨_,_,_,by assumption,.inr ⟨rfl,by assumption,by assumption⟩,by walk_at "om",by walk_at "om"⟩
 ·repeat walk_at "st"
  walk_at "wh"
  exact q _ _ (by assumption) (by assumption) ⟨_,_,_,by assumption,.inl rfl,by walk_at "om",by walk_at "om"⟩
@[irreducible] def zc5:Sp:=fun vs H Q _=>∃ (a:Addr) (m b:Int),vs=[.ref a,.int m]/\zb2 H a b/\b<=1000000/\0<m/\m<10 ^ 60/\∀ (d:Int) H',0<=d->d<m->Chg a H H'->zb2 H' a (b+1)->Q (.int d) H'
theorem ze5 {H:Hp}{a:Addr}{m b:Int}{Q:VK}{E:XK}(hL:zb2 H a b) (hb:b<=1000000) (h0:0<m) (h1:m<10 ^ 60) (q:∀ (d:Int) H',0<=d->d<m->Chg a H H'->zb2 H' a (b+1)->Q (.int d) H'):zc5 [.ref a,.int m] H Q E:=by
 unfold zc5;exact⟨a,m,b,rfl,hL,hb,h0,h1,q⟩
theorem zaf3 {f:Addr}{fd:FuncData}(F:Fun K "_law_draw" "_law_draw" zj2 f fd) (N:Nm mg) (zbo3:Def P w K mg base CX0 1 "_law_mix" ["_law_number","_law_k"] zh8):FnOk P w K mg base CX0 2 f fd ["_law_left_here","_law_base"] zc5:=by
 refine F.ok zp2 (fun vs H Q E h=>by unfold zc5 at h;obtain⟨a,m,b,rfl,_⟩:=h;rfl) (fun cdv A outer s H vs Q E hr h=>?_)
 unfold zc5 at h
 obtain⟨a,m,b,rfl,⟨x,y,z,hl,hy,hz0,hz1⟩,hb,hm0,hm1,q⟩:=h
 have hu:=hu40 hr
 refine⟨_,(za4 (zad8 (zc1 oAdd (zd1 (K:=K) rfl (pq 0) za2) za2) (zaf6 (pq 0) za2 setM))
   (za4 (psIf (ptC (zn2 (K:=K) rfl (by exact hu)) (zd1 (K:=K) rfl (pq 0) za2) za2) (za4 (psS (i:=2) zp2.nd (pD zbo3 hr zd5 (za0 (zd1 (K:=K) rfl (pq 0) za2) (za0 (zd1 (K:=K) rfl (pq 0) za2) za3))))
   (za4 (psIf (ptC oGt (pq 1) (zc1 oPow za2 za2)) (za8 (zc2 (zc1 oMod (zc1 oMul (pq 2) (zc1 oAdd (zc1 oPow (pD zbo3 hr zd5 (za0 (zd1 (K:=K) rfl (pq 0) za2) (za0 (zc1 oAdd (zd1 (K:=K) rfl (pq 0) za2) za2) za3))) za2) za2)) (pq 1)))) zf1)
   (za8 (zc2 (zc1 oMod (zc1 oMod (zc1 oMul (pq 2) (zc1 oAdd (pq 2) za2)) za2) (pq 1)))))) zf1)
   (za4 (psS (i:=3) zp2.nd (zc1 oMod (zd1 (K:=K) rfl (pq 0) za2) (pq 1)))
   (za4 (zad8 (zc1 oDiv (zd1 (K:=K) rfl (pq 0) za2) (pq 1)) (zaf6 (pq 0) za2 setM))
   (za8 (zc2 (pq 3))))))),?_⟩
 walk_at "st"
 refine zag0 hl (by rfl) (fun H1 c1 h1=>?_)
 have h1:H1 a=some (.lst [.int x,.int y,.int (z+1)]):=h1
 refine zd4 (v:=.int y) h1 rfl ?_
 refine zd3 (fun h=>?_) (fun h=>?_)
 ·obtain⟨hx0,hx1⟩:0<=x/\x<2147483629:=by walk_at "om"
  subst h
  refine zd4 (v:=.int x) h1 rfl ?_
  refine zd4 (v:=.int (z+1)) h1 rfl ?_
  refine zan6 hx0 hx1 (by walk_at "om") (by walk_at "om") (fun r r0 r1=>?_)
  walk_at "st"
  refine zd3 (fun g=>?_) (fun g=>?_)
  ·walk_at "wh"
   refine zd4 (v:=.int x) h1 rfl ?_
   refine zd4 (v:=.int (z+1)) h1 rfl ?_
   refine zan6 hx0 hx1 (by walk_at "om") (by walk_at "om") (fun r2 r20 r21=>?_)
   refine zbf4 ⟨by decide,by decide,by walk_at "om"⟩ ?_
   refine zai7 (by walk_at "om") (by walk_at "om") ?_
   refine zq5 (by walk_at "om") (fun d d0 d1=>?_)
   walk_at "wh"
   exact q _ _ d0 d1 c1 ⟨_,_,_,h1,.inr ⟨rfl,hx0,hx1⟩,by walk_at "om",by walk_at "om"⟩
  ·walk_at "wh"
   refine zai7 (by walk_at "om") (by walk_at "om") ?_
   refine zq5 (by walk_at "om") (fun d1 d10 d11=>?_)
   refine zq5 (by walk_at "om") (fun d d0 d1=>?_)
   walk_at "wh"
   exact q _ _ d0 d1 c1 ⟨_,_,_,h1,.inr ⟨rfl,hx0,hx1⟩,by walk_at "om",by walk_at "om"⟩
 ·have hy1:y=1:=by walk_at "om"
  subst hy1
  refine zd4 (v:=.int x) h1 rfl ?_
  refine zq5 (by walk_at "om") (fun d d0 d1=>?_)
  refine zd4 (v:=.int x) h1 rfl ?_
  walk_at "st"
  refine zag0 h1 (by rfl) (fun H2 c2 h2=>?_)
  walk_at "wh"
  exact q _ _ d0 d1 (c1.trans c2) ⟨_,_,_,h2,.inl rfl,by walk_at "om",by walk_at "om"⟩
theorem zb2.chg {H H':Hp}{a p:Addr}{b:Int}(h:zb2 H a b) (c:Chg p H H') (n:a≠p):zb2 H' a b:=by
 obtain⟨x,y,z,e,r⟩:=h
 exact⟨x,y,z,c _ _ n e,r⟩
theorem zb2.some {H:Hp}{a:Addr}{b:Int}(h:zb2 H a b):∃ o,H a=some o:=by
 obtain⟨x,y,z,e,r⟩:=h
 exact⟨_,e⟩
theorem Chg.free' {a l:Addr}{H H':Hp}(x:Chg a H H') (h:H' l=none) (n:l≠a):H l=none:=by
 cases e:H l with
 | none=>rfl
 | some o=>
  have:=x l o n e
  rw[h] at this
  cases this
def okD (n:Nat) (d:PyData):Prop:=sml d=true/\d.canLay0=true/\d.depth<=n
def Rd (H:Hp) (v:V) (n:Nat):Prop:=∃ d,ShV H v d/\okD n d/\(zb6 d).length<60
theorem Rd.same {H H':Hp}{v:V}{n:Nat}(h:Rd H v n) (s:Same H H'):Rd H' v n:=by obtain⟨d,h1,h2⟩:=h;exact⟨d,h1.same s,h2⟩
theorem okD.up {n m:Nat}{d:PyData}(h:okD n d) (l:n<=m):okD m d:=⟨h.1,h.2.1,zbt7 h.2.2 l⟩
theorem Rd.up {H:Hp}{v:V}{n m:Nat}(h:Rd H v n) (l:n<=m:=by decide):Rd H v m:=by obtain⟨d,h1,h2⟩:=h;exact⟨d,h1,h2.1.up l,h2.2⟩
theorem Rd.int {H:Hp}(i:Int) (n:Nat):Rd H (.int i) n:=⟨.int i,.int i,⟨rfl,rfl,zbs4 _⟩,by show (0:Nat)<60;decide⟩
theorem Rd.bl {H:Hp}(b:Bool) (n:Nat):Rd H (.bl b) n:=⟨.bool b,.bl b,⟨rfl,rfl,zbs4 _⟩,by show (0:Nat)<60;decide⟩
theorem Rd.non {H:Hp}(n:Nat):Rd H .non n:=⟨.none,.non,⟨rfl,rfl,zbs4 _⟩,by show (0:Nat)<60;decide⟩
theorem Rd.str {H:Hp}{x:Str}(n:Nat) (h:PyData.strOk x=true):Rd H (.str x) n:=⟨.str x,.str x,⟨rfl,h,zbs4 _⟩,by show (0:Nat)<60;decide⟩
theorem zbh0 {ds:List PyData}(h:∀ d∈ds,d.canLay0=true):PyData.canLayAll0 ds=true:=by
 induction ds with
 | nil=>rfl
 | cons d ds ih=>
  show (d.canLay0&&PyData.canLayAll0 ds)=true
  rw[h d (.head _),ih fun x hx=>h x (.tail _ hx)];rfl
theorem zt5:∀ {ds:List PyData},PyData.canLayAll0 ds=true->∀ d∈ds,d.canLay0=true
 | [],_,d,h=>by cases h
 | e :: ds,h,d,hd=>by
  have h:(e.canLay0&&PyData.canLayAll0 ds)=true:=h
  rw[zbr3] at h
  rcases zbq8.mp hd with rfl|hd
  ·exact h.1
  ·exact zt5 h.2 d hd
theorem zbf7 {ds:List PyData}{n:Nat}(h:∀ d∈ds,d.depth<=n):PyData.depthAll ds<=n:=by
 induction ds with
 | nil=>exact zbs4 _
 | cons d ds ih=>
  rw[show PyData.depthAll (d :: ds)=max d.depth (PyData.depthAll ds) from rfl]
  exact Nat.max_le.mpr ⟨h d (.head _),ih fun x hx=>h x (.tail _ hx)⟩
theorem okD.list {n:Nat}{ds:List PyData}(l:ds.length<=1000) (h:∀ d∈ds,okD n d):okD (n+1) (.list ds):=
 ⟨by simp only[sml,zbr3,decide_eq_true_eq];exact⟨by walk_at "om",zp1 fun d hd=>(h d hd).1⟩,zbh0 fun d hd=>(h d hd).2.1,Nat.succ_le_succ (zbf7 fun d hd=>(h d hd).2.2)⟩
theorem okD.tuple {n:Nat}{ds:List PyData}(l:ds.length<=1000) (h:∀ d∈ds,okD n d):okD (n+1) (.tuple ds):=
 ⟨by simp only[sml,zbr3,decide_eq_true_eq];exact⟨by walk_at "om",zp1 fun d hd=>(h d hd).1⟩,zbh0 fun d hd=>(h d hd).2.1,Nat.succ_le_succ (zbf7 fun d hd=>(h d hd).2.2)⟩
theorem Rd.lst {H:Hp}{a:Addr}{xs:List V}{n:Nat}(e:H a=some (.lst xs)) (l:xs.length<60) (h:∀ x∈xs,Rd H x n):Rd H (.ref a) (n+1):=by
 obtain⟨ds,h1,h2⟩:=ShL.ex (P:=fun d=>okD n d) fun x hx=>by obtain⟨d,h1,h2,_⟩:=h x hx;exact⟨d,h1,h2⟩
 exact⟨.list ds,.lst e h1,okD.list (by rw[← h1.len];omega) h2,by show ds.length<60;rw[← h1.len];exact l⟩
theorem Rd.tup {H:Hp}{a:Addr}{xs:List V}{n:Nat}(e:H a=some (.tup xs)) (l:xs.length<60) (h:∀ x∈xs,Rd H x n):Rd H (.ref a) (n+1):=by
 obtain⟨ds,h1,h2⟩:=ShL.ex (P:=fun d=>okD n d) fun x hx=>by obtain⟨d,h1,h2,_⟩:=h x hx;exact⟨d,h1,h2⟩
 exact⟨.tuple ds,.tup e h1,okD.tuple (by rw[← h1.len];omega) h2,by show (0:Nat)<60;decide⟩
theorem zac3:∀ {n:Nat}{d:PyData},d.depth<=n->d.canLay0=true->d.eqv d=true
 | _,.none,_,_=>rfl
 | _,.bool b,_,_=>by show (b==b)=true;exact beq_self_eq_true _
 | _,.int i,_,_=>by show (i==i)=true;exact beq_self_eq_true _
 | _,.str x,_,_=>by show (x==x)=true;exact beq_self_eq_true _
 | 0,.list ds,h,_=>by have h:PyData.depthAll ds+1<=0:=h;omega
 | 0,.tuple ds,h,_=>by have h:PyData.depthAll ds+1<=0:=h;omega
 | n+1,.list ds,h,c=>by
  have h:PyData.depthAll ds+1<=n+1:=h
  have c:PyData.canLayAll0 ds=true:=c
  show PyData.eqvAll ds ds=true
  exact all ds (fun d hd=>zac3 (n:=n) (zbt7 (zy1 hd) (by walk_at "om")) (zt5 c d hd))
 | n+1,.tuple ds,h,c=>by
  have h:PyData.depthAll ds+1<=n+1:=h
  have c:PyData.canLayAll0 ds=true:=c
  show PyData.eqvAll ds ds=true
  exact all ds (fun d hd=>zac3 (n:=n) (zbt7 (zy1 hd) (by walk_at "om")) (zt5 c d hd))
 | _,.dict _,_,c=>by cases (show false=true from c)
where all:∀ ds:List PyData,(∀ d∈ds,d.eqv d=true)->PyData.eqvAll ds ds=true
 | [],_=>rfl
 | d :: ds,h=>by
  show (d.eqv d&&PyData.eqvAll ds ds)=true
  rw[h d (.head _),all ds fun x hx=>h x (.tail _ hx)];rfl
theorem okD.eqv {n:Nat}{d:PyData}(h:okD n d):d.eqv d=true:=zac3 h.2.2 h.2.1
theorem zx0:∀ {ns:List Int},(∀ x∈ns,0<=x)->(∀ x∈ns,x<=ns.sum)/\0<=ns.sum
 | [],_=>⟨fun x h=>by (cases h),Int.le_refl _⟩
 | n :: ns,h=>by
  have h0:=h n (.head _)
  obtain⟨i1,i2⟩:=zx0 (ns:=ns) fun y hy=>h y (.tail _ hy)
  rw[List.sum_cons]
  refine⟨fun x hx=>?_,by walk_at "om"⟩
  rcases zbq8.mp hx with rfl|hx
  ·omega
  ·have:=i1 x hx;omega
section
variable {κ μ:Type}[DecidableEq κ] [DecidableEq μ]
def atG (zs:List (κ×Int)) (k:κ):Int:=((zs.filter fun z=>decide (z.1=k)).map (·.2)).sum
theorem zr4 {kv:List (κ×Int)}{k:κ}:k ∉ kv.map (·.1)->valG kv k=none:=by
 induction kv with
 | nil=>intro _;rfl
 | cons z kv ih=>
  intro h
  rw[zbt4,zbq8,not_or] at h
  rw[zl2 (fun e=>h.1 e.symm),ih h.2]
theorem zbc0 (kv:List (κ×Int)) (k j:κ) (n:Int):valG (kv.map fun z=>if z.1=k then (z.1,n) else z) j=if j=k then (if j∈kv.map (·.1) then some n else none) else valG kv j:=by
 induction kv with
 | nil=>by_cases e:j=k<;>simp[e,valG]
 | cons z kv ih=>
  rw[zbt4]
  by_cases ez:z.1=j
  ·subst ez
   by_cases ek:z.1=k
   ·rw[if_pos ek,if_pos ek,zl3 (z:=(z.1,n)) rfl,if_pos (by simp)]
   ·rw[if_neg ek,if_neg ek,zl3 rfl,zl3 rfl]
  ·have:¬ (if z.1=k then (z.1,n) else z).1=j:=by split<;>exact ez
   rw[zl2 this,ih,zl2 ez]
   by_cases ek:j=k
   ·rw[if_pos ek,if_pos ek]
    have:(j∈(z :: kv).map (·.1))↔j∈kv.map (·.1):=by
     rw[zbt4,zbq8]
     exact⟨fun h=>h.resolve_left fun e=>ez e.symm,.inr⟩
    by_cases h:j∈kv.map (·.1)
    ·rw[if_pos h,if_pos (this.mpr h)]
    ·rw[if_neg h,if_neg fun z=>h (this.mp z)]
   ·rw[if_neg ek,if_neg ek]
theorem zad2 (kv:List (κ×Int)) (k:κ):(kv.any fun z=>decide (z.1=k))=true↔k∈kv.map (·.1):=by
 rw[List.any_eq_true,zbr5]
 exact⟨fun ⟨z,h1,h2⟩=>⟨z,h1,of_decide_eq_true h2⟩,fun ⟨z,h1,h2⟩=>⟨z,h1,decide_eq_true h2⟩⟩
theorem zbd2 (kv:List (κ×Int)) (z:κ×Int) (j:κ):valG (kv++[z]) j=match valG kv j with|some n=>some n|none=>if z.1=j then some z.2 else none:=by
 induction kv with
 | nil=>
  by_cases e:z.1=j
  ·show valG [z] j=if z.1=j then some z.2 else none;rw[zl3 e,if_pos e]
  ·show valG [z] j=if z.1=j then some z.2 else none;rw[zl2 e,if_neg e];rfl
 | cons y kv ih=>
  rw[List.cons_append]
  by_cases e:y.1=j
  ·rw[zl3 e,zl3 e]
  ·rw[zl2 e,zl2 e,ih]
theorem zbe9 (kv:List (κ×Int)) (k j:κ) (n:Int):valG (putG kv k n) j=if j=k then some n else valG kv j:=by
 unfold putG
 by_cases h:(kv.any fun z=>decide (z.1=k))=true
 ·rw[if_pos h,zbc0]
  by_cases e:j=k
  ·rw[if_pos e,if_pos e,if_pos (by rw[e];exact (zad2 kv k).mp h)]
  ·rw[if_neg e,if_neg e]
 ·rw[if_neg h,zbd2]
  have hk:k ∉ kv.map (·.1):=fun z=>h ((zad2 kv k).mpr z)
  by_cases e:j=k
  ·subst e
   rw[zr4 hk,if_pos rfl]
   first|done|exact if_pos rfl
  ·rw[if_neg e]
   cases valG kv j with
   | none=>exact if_neg fun z=>e z.symm
   | some m=>rfl
theorem zbf1 (zs:List (κ×Int)) (z:κ×Int) (k:κ):atG (zs++[z]) k=atG zs k+if z.1=k then z.2 else 0:=by
 unfold atG
 rw[List.filter_append,zbt3,List.sum_append]
 by_cases e:z.1=k
 ·rw[if_pos e,zbv7,if_pos (decide_eq_true e)];simp
 ·rw[if_neg e,zbv7,if_neg (by rw[decide_eq_false e];exact zbq6)];simp
theorem zal7 (zs:List (κ×Int)) (z:κ×Int) (k:κ):atG (z :: zs) k=(if z.1=k then z.2 else 0)+atG zs k:=by
 unfold atG
 by_cases e:z.1=k
 ·rw[if_pos e,zbv7,if_pos (decide_eq_true e)];simp
 ·rw[if_neg e,zbv7,if_neg (by rw[decide_eq_false e];exact zbq6)];simp
theorem zao8 {α:Type}{P:List α->Prop}(h0:P []) (hs:∀ xs x,P xs->P (xs++[x])) (xs:List α):P xs:=by
 have:∀ n (xs:List α),xs.length=n->P xs:=fun n=>by
  induction n with
  | zero=>intro xs h;rw[List.length_eq_zero_iff.mp h];exact h0
  | succ n ih=>
   intro xs h
   have hn:xs≠[]:=fun z=>by rw[z] at h;simp at h
   rw[← List.dropLast_concat_getLast hn]
   exact hs _ _ (ih _ (by rw[List.length_dropLast];omega))
 exact this _ xs rfl
theorem zr0 (zs:List (κ×Int)) (k:κ):valG (sumG zs) k=if k∈zs.map (·.1) then some (atG zs k) else none:=by
 induction zs using zao8 with
 | h0=>rfl
 | hs zs z ih=>
  rw[zs1]
  unfold addG
  rw[zbe9,zbf1]
  have mm:k∈(zs++[z]).map (·.1)↔(k∈zs.map (·.1)∨k∈[z].map (·.1)):=by rw[zbt3,zbr2]
  by_cases e:k=z.1
  ·subst e
   rw[if_pos rfl,if_pos (mm.mpr (.inr (by simp))),if_pos rfl,ih]
   by_cases h:z.1∈zs.map (·.1)
   ·rw[if_pos h];rfl
   ·rw[if_neg h]
    have:atG zs z.1=0:=by
     unfold atG
     rw[List.filter_eq_nil_iff.mpr fun y hy hd=>h (zbr5.mpr ⟨y,hy,of_decide_eq_true hd⟩)];rfl
    rw[this];rfl
  ·have z0:(if z.1=k then z.2 else 0)=0:=if_neg fun q=>e q.symm
   rw[if_neg e,ih,z0,Int.add_zero]
   have:(k∈zs.map (·.1)∨k∈[z].map (·.1))↔k∈zs.map (·.1):=⟨fun h=>h.resolve_right fun q=>e (by simpa using q),.inl⟩
   by_cases h:k∈zs.map (·.1)
   ·rw[if_pos h,if_pos (mm.mpr (.inl h))]
   ·rw[if_neg h,if_neg fun q=>h (this.mp (mm.mp q))]
theorem zbb7 (kv:List (κ×Int)) (k:κ) (n:Int):(putG kv k n).map (·.1)=if k∈kv.map (·.1) then kv.map (·.1) else kv.map (·.1)++[k]:=by
 unfold putG
 by_cases h:(kv.any fun z=>decide (z.1=k))=true
 ·rw[if_pos h,if_pos ((zad2 kv k).mp h),zbt1]
  refine zbu0 fun z _=>?_
  show (if z.1=k then (z.1,n) else z).1=z.1
  split<;>rfl
 ·rw[if_neg h,if_neg fun z=>h ((zad2 kv k).mpr z),zbt3];rfl
theorem zh6 (zs:List (κ×Int)):((sumG zs).map (·.1)).Nodup/\∀ k,k∈(sumG zs).map (·.1)↔k∈zs.map (·.1):=by
 induction zs using zao8 with
 | h0=>exact⟨List.nodup_nil,fun k=>Iff.rfl⟩
 | hs zs z ih=>
  rw[zs1]
  unfold addG
  rw[zbb7]
  by_cases h:z.1∈(sumG zs).map (·.1)
  ·rw[if_pos h]
   refine⟨ih.1,fun k=>?_⟩
   rw[ih.2,zbt3,zbr2]
   exact⟨.inl,fun q=>q.elim id fun q=>by rw[show k=z.1 by simpa using q];exact (ih.2 _).mp h⟩
  ·rw[if_neg h]
   refine⟨?_,fun k=>?_⟩
   ·rw[List.nodup_append]
    refine⟨ih.1,by simp,fun a ha b hb=>?_⟩
    rw[show b=z.1 by simpa using hb]
    exact fun q=>h (q▸ha)
   ·rw[zbr2,ih.2,zbt3,zbr2];rfl
theorem zan8 {kv:List (κ×Int)}(nd:(kv.map (·.1)).Nodup) {z:κ×Int}(h:z∈kv):valG kv z.1=some z.2:=by
 induction kv with
 | nil=>cases h
 | cons y kv ih=>
  rw[zbt4,zbu9] at nd
  rcases zbq8.mp h with rfl|h
  ·exact zl3 rfl
  ·rw[zl2 (fun e=>nd.1 (e▸zbr5.mpr ⟨z,h,rfl⟩))]
   exact ih nd.2 h
theorem atG_ge {zs:List (κ×Int)}(h1:∀ z∈zs,1<=z.2):∀ {k:κ},(0<=atG zs k)/\(k∈zs.map (·.1)->1<=atG zs k):=by
 induction zs with
 | nil=>exact fun {k}=>⟨Int.le_refl _,fun h=>by cases h⟩
 | cons z zs ih=>
  intro k
  obtain⟨i1,i2⟩:=ih (fun y hy=>h1 y (.tail _ hy)) (k:=k)
  have z1:=h1 z (.head _)
  rw[zal7]
  by_cases e:z.1=k
  ·rw[if_pos e]
   exact⟨by walk_at "om",fun _=>by walk_at "om"⟩
  ·rw[if_neg e]
   refine⟨by walk_at "om",fun h=>?_⟩
   rw[zbt4,zbq8] at h
   have:=i2 (h.resolve_left fun q=>e q.symm)
   omega
theorem zaz5 {p:κ->Bool}{a:κ}{c:Int}:∀ {ks:List κ},ks.Nodup->((ks.filter p).map fun k=>if a=k then c else 0).sum=if a∈ks/\p a=true then c else 0
 | [],_=>by simp
 | k :: ks,nd=>by
  rw[zbu9] at nd
  have ih:=zaz5 (p:=p) (a:=a) (c:=c) nd.2
  rw[zbv7]
  by_cases e:a=k
  ·subst e
   have:¬ (a∈ks/\p a=true):=fun h=>nd.1 h.1
   rw[if_neg this] at ih
   by_cases hp:p a=true
   ·rw[if_pos hp,zbt4,List.sum_cons,ih,if_pos rfl,if_pos ⟨.head _,hp⟩];omega
   ·rw[if_neg hp,ih,if_neg fun h=>hp h.2]
  ·have:(a∈k :: ks/\p a=true)↔(a∈ks/\p a=true):=by rw[zbq8];exact⟨fun h=>⟨h.1.resolve_left e,h.2⟩,fun h=>⟨.inr h.1,h.2⟩⟩
   have st:∀ b,(if b=true then k :: ks.filter p else ks.filter p).map (fun k=>if a=k then c else 0)=if b=true then 0 :: (ks.filter p).map (fun k=>if a=k then c else 0) else (ks.filter p).map fun k=>if a=k then c else 0:=fun b=>by
    cases b
    ·rfl
    ·show (if a=k then c else 0) :: _=_
     rw[if_neg e];rfl
   rw[st]
   have s0:(if p k=true then (0:Int) :: (ks.filter p).map (fun k=>if a=k then c else 0) else (ks.filter p).map fun k=>if a=k then c else 0).sum=((ks.filter p).map fun k=>if a=k then c else 0).sum:=by
    split
    ·rw[List.sum_cons,Int.zero_add]
    ·rfl
   rw[s0,ih]
   by_cases h:a∈ks/\p a=true
   ·rw[if_pos h,if_pos (this.mpr h)]
   ·rw[if_neg h,if_neg fun q=>h (this.mp q)]
theorem zan4 {α:Type}(f g:α->Int):∀ xs:List α,(xs.map fun x=>f x+g x).sum=(xs.map f).sum+(xs.map g).sum
 | []=>rfl
 | x :: xs=>by
  have:=zan4 f g xs
  simp only[zbt4,List.sum_cons]
  omega
theorem zas9 {p:κ->Bool}{ks:List κ}(nd:ks.Nodup):∀ {zs:List (κ×Int)},(∀ z∈zs,z.1∈ks)->((ks.filter p).map (atG zs)).sum=((zs.filter fun z=>p z.1).map (·.2)).sum
 | [],_=>by
  have:((ks.filter p).map (atG ([]:List (κ×Int)))).sum=0:=by
   induction (ks.filter p) with
   | nil=>rfl
   | cons k l ih=>rw[zbt4,List.sum_cons,ih];rfl
  rw[this];rfl
 | z :: zs,h=>by
  have ih:=zas9 (p:=p) nd (zs:=zs) fun y hy=>h y (.tail _ hy)
  have e:(ks.filter p).map (atG (z :: zs))=(ks.filter p).map fun k=>(if z.1=k then z.2 else 0)+atG zs k:=zbu0 fun k _=>zal7 zs z k
  rw[e,zan4,zaz5 nd,ih,zbv7]
  by_cases hp:p z.1=true
  ·rw[if_pos ⟨h z (.head _),hp⟩,if_pos hp];rfl
  ·rw[if_neg fun q=>hp q.2,if_neg hp,Int.zero_add]
end
theorem zak3 {za zb:List (Int×Int)}(h:∀ k,valG (sumG za) k=valG (sumG zb) k):eqDI (sumG za) (sumG zb)=true:=by
 obtain⟨na,ma⟩:=zh6 za
 obtain⟨nb,mb⟩:=zh6 zb
 have keys:∀ k,k∈(sumG za).map (·.1)↔k∈(sumG zb).map (·.1):=fun k=>by
  rw[ma,mb]
  have:=h k
  rw[zr0,zr0] at this
  by_cases h1:k∈za.map (·.1)<;>by_cases h2:k∈zb.map (·.1)<;>simp[h1,h2] at this ⊢
 have len:=((List.perm_ext_iff_of_nodup na nb).mpr keys).length_eq
 rw[zbp5,zbp5] at len
 unfold eqDI
 rw[len,beq_self_eq_true,zbu2,zbr0]
 intro z hz
 have e:valI (sumG zb) z.1=valG (sumG zb) z.1:=rfl
 rw[e,← h,zan8 na hz]
 exact beq_self_eq_true _
theorem zm8 {x y:Int×Int}:ltP x y=true↔x.1<y.1∨(x.1=y.1/\x.2<y.2):=by
 unfold ltP
 by_cases e:x.1=y.1
 ·rw[if_pos (by simpa using e)]
  by_cases e2:x.2=y.2
  ·rw[if_pos (by simpa using e2)]
   exact⟨fun h=>by (cases h),fun h=>by walk_at "om"⟩
  ·rw[if_neg (by simpa using e2),decide_eq_true_iff];omega
 ·rw[if_neg (by simpa using e),decide_eq_true_iff];omega
theorem zz8:∀ {ks ls:List (Int×Int)},OrdK ks->OrdK ls->(∀ k,k∈ks↔k∈ls)->ks=ls
 | [],[],_,_,_=>rfl
 | [],l :: ls,_,_,h=>absurd ((h l).mpr (.head _)) (by simp)
 | k :: ks,[],_,_,h=>absurd ((h k).mp (.head _)) (by simp)
 | k :: ks,l :: ls,o1,o2,h=>by
  obtain⟨n1,p1⟩:=o1
  obtain⟨n2,p2⟩:=o2
  rw[zbu9] at n1 n2
  rw[List.pairwise_cons] at p1 p2
  have e:k=l:=by
   rcases zbq8.mp ((h k).mp (.head _)) with e|e
   ·exact e
   ·rcases zbq8.mp ((h l).mpr (.head _)) with e' | e'
    ·exact e'.symm
    ·have a:=zm8.mp (p2.1 k e)
     have b:=zm8.mp (p1.1 l e')
     omega
  subst e
  rw[zz8 ⟨n1.2,p1.2⟩ ⟨n2.2,p2.2⟩ fun z=>⟨fun hz=>?_,fun hz=>?_⟩]
  ·rcases zbq8.mp ((h z).mp (.tail _ hz)) with e|e
   ·exact absurd (e▸hz) n1.1
   ·exact e
  ·rcases zbq8.mp ((h z).mpr (.tail _ hz)) with e|e
   ·exact absurd (e▸hz) n2.1
   ·exact e
def zw6 (z:Int×Int×Int):PyData:=.tuple [.int z.1,.int z.2.1,.int z.2.2]
def zh5 (xs:List (Int×Int×Int)):PyData:=.list (xs.map zw6)
def stmD (xss:List (List (Int×Int×Int))):PyData:=.list (xss.map zh5)
theorem zu7 (xs:List (Int×Int×Int)):rowF (zh5 xs)=xs:=by
 unfold rowF zh5
 show (xs.map zw6).map triD=xs
 rw[zbt1]
 exact (zbu0 fun x _=>rfl).trans (List.map_id _)
theorem zq6 {ns:List Int}(nn:∀ n∈ns,0<=n) {i:Nat}(hi:i<ns.length):0<=ns.getD i 0/\ns.getD i 0<=(ns.drop i).sum/\(ns.drop i).sum - ns.getD i 0=(ns.drop (i+1)).sum:=by
 have e:ns.drop i=ns[i] :: ns.drop (i+1):=List.drop_eq_getElem_cons hi
 have g:ns.getD i 0=ns[i]:=by rw[zbq4,zbp6 hi];rfl
 have z:=(zx0 (ns:=ns.drop (i+1)) fun n hn=>nn n (zbw1 hn)).2
 rw[g,e,List.sum_cons]
 exact⟨nn _ (List.getElem_mem hi),by walk_at "om",by walk_at "om"⟩
structure OkS (ms:List (List Int×Int)) (h:Int) (f:Nat):Prop where
 ne:1<=ms.length
 f1:1<=f
 all:∀ x∈ms,(∀ n∈x.1,0<=n)/\x.1.length=f/\x.1.sum=h/\1<=x.2
theorem zai8 {ms:List (List Int×Int)}{i:Nat}{xs:List (Int×Int×Int)}(R:zy9 ms i xs) {z:Int×Int×Int}(hz:z∈xs):∃ x∈ms,z.1=(x.1.drop i).sum/\z.2.1=x.1.getD i 0:=by
 have:keyT z∈(sumG (flw ms i)).map (·.1):=(R.2.1 _).mp (zbr5.mpr ⟨z,hz,rfl⟩)
 rw[(zh6 _).2,zbr5] at this
 obtain⟨y,hy,ey⟩:=this
 unfold flw at hy
 obtain⟨x,hx,rfl⟩:=zbr5.mp hy
 have ey:((x.1.drop i).sum,x.1.getD i 0)=(z.1,z.2.1):=ey
 exact⟨x,hx,(congrArg Prod.fst ey).symm,(congrArg Prod.snd ey).symm⟩
theorem zaa9 {ms:List (List Int×Int)}{h:Int}{f i:Nat}{xs:List (Int×Int×Int)}(O:OkS ms h f) (hi:i<f) (R:zy9 ms i xs) {z:Int×Int×Int}(hz:z∈xs):0<=z.2.1/\z.2.1<=z.1/\z.2.2=atG (flw ms i) (keyT z)/\1<=z.2.2:=by
 obtain⟨x,hx,e1,e2⟩:=zai8 R hz
 obtain⟨nn,xl,_,_⟩:=O.all x hx
 obtain⟨a,b,_⟩:=zq6 nn (i:=i) (by walk_at "om")
 have v:=R.2.2 z hz
 rw[zr0] at v
 have km:keyT z∈(flw ms i).map (·.1):=(zh6 _).2 _ |>.mp ((R.2.1 _).mp (zbr5.mpr ⟨z,hz,rfl⟩))
 rw[if_pos km] at v
 have v:=Option.some.inj v
 have w:∀ y∈flw ms i,1<=y.2:=fun y hy=>by
  unfold flw at hy
  obtain⟨x,hx,rfl⟩:=zbr5.mp hy
  exact (O.all x hx).2.2.2
 have g:=(atG_ge w (k:=keyT z)).2 km
 exact⟨by walk_at "om",by walk_at "om",v.symm,by walk_at "om"⟩
theorem zbf6 {ms:List (List Int×Int)}{h:Int}{f i:Nat}{xs:List (Int×Int×Int)}(O:OkS ms h f) (hi:i<f) (R:zy9 ms i xs):rowD (zh5 xs)=true:=by
 show ((xs.map zw6).all zm4&&incD (xs.map zw6))=true
 rw[zbr3]
 constructor
 ·rw[zbw9,zbr0]
  intro z hz
  obtain⟨a,b,_,c⟩:=zaa9 O hi R hz
  show (decide ((0:Int)<=z.1)&&decide ((0:Int)<=z.2.1/\z.2.1<=z.1)&&decide ((1:Int)<=z.2.2))=true
  rw[decide_eq_true (show (0:Int)<=z.1 by walk_at "om"),decide_eq_true (show (0:Int)<=z.2.1/\z.2.1<=z.1 from ⟨a,b⟩),decide_eq_true c];rfl
 ·unfold incD
  rw[zbp5,zbr0]
  intro j hj
  have hj:=zbs1.mp hj
  have p:=zbu3.mp R.1.2 j (j+1) (by rw[zbp5];omega) (by rw[zbp5];omega) (by walk_at "om")
  have g:∀ (j:Nat) (hj:j<xs.length),keyD ((xs.map zw6).getD j .none)=(xs.map keyT)[j]'(by rw[zbp5];exact hj):=fun j hj=>by
   rw[zbq4,zbq2,zbp6 hj,List.getElem_map];rfl
  rw[g j (by walk_at "om"),g (j+1) (by walk_at "om")]
  exact p
theorem zah2 {ms:List (List Int×Int)}{i:Nat}{xs:List (Int×Int×Int)}(R:zy9 ms i xs) (hv:∀ z∈xs,z.2.2=atG (flw ms i) (keyT z)) (g:Int×Int->Int) (k:Int):valG (sumG (xs.map fun z=>(g (keyT z),z.2.2))) k=valG (sumG ((flw ms i).map fun z=>(g z.1,z.2))) k:=by
 rw[zr0,zr0]
 have mem:k∈(xs.map fun z=>(g (keyT z),z.2.2)).map (·.1)↔k∈((flw ms i).map fun z=>(g z.1,z.2)).map (·.1):=by
  rw[zbt1,zbt1,zbr5,zbr5]
  constructor
  ·rintro⟨z,hz,rfl⟩
   have:=(zh6 _).2 _ |>.mp ((R.2.1 _).mp (zbr5.mpr ⟨z,hz,rfl⟩))
   obtain⟨y,hy,ey⟩:=zbr5.mp this
   exact⟨y,hy,congrArg g ey⟩
  ·rintro⟨y,hy,rfl⟩
   have:y.1∈xs.map keyT:=(R.2.1 _).mpr ((zh6 _).2 _ |>.mpr (zbr5.mpr ⟨y,hy,rfl⟩))
   obtain⟨z,hz,ez⟩:=zbr5.mp this
   exact⟨z,hz,congrArg g ez⟩
 have at1:atG (xs.map fun z=>(g (keyT z),z.2.2)) k=(((xs.map keyT).filter fun q=>decide (g q=k)).map (atG (flw ms i))).sum:=by
  unfold atG
  rw[List.filter_map,List.filter_map,zbt1,zbt1]
  refine congrArg List.sum (zbu0 fun z hz=>?_)
  exact hv z (List.mem_filter.mp hz).1
 have at2:atG ((flw ms i).map fun z=>(g z.1,z.2)) k=(((flw ms i).filter fun z=>decide (g z.1=k)).map (·.2)).sum:=by
  unfold atG
  rw[List.filter_map,zbt1]
  rfl
 rw[at1,at2,zas9 (p:=fun q=>decide (g q=k)) R.1.1 fun z hz=>(R.2.1 _).mpr ((zh6 _).2 _ |>.mpr (zbr5.mpr ⟨z,hz,rfl⟩))]
 by_cases h:k∈(xs.map fun z=>(g (keyT z),z.2.2)).map (·.1)
 ·rw[if_pos h,if_pos (mem.mp h)]
 ·rw[if_neg h,if_neg fun q=>h (mem.mpr q)]
theorem zat9 {ms:List (List Int×Int)}{h:Int}{f i:Nat}{xs ys:List (Int×Int×Int)}(O:OkS ms h f) (hi:i+1<f) (R1:zy9 ms i xs) (R2:zy9 ms (i+1) ys):zm3 (zh5 xs) (zh5 ys)=true:=by
 unfold zm3
 rw[zu7,zu7]
 refine zak3 fun k=>?_
 have a:=zah2 R1 (fun z hz=>(zaa9 O (by walk_at "om") R1 hz).2.2.1) (fun q=>q.1 - q.2) k
 have b:=zah2 R2 (fun z hz=>(zaa9 O hi R2 hz).2.2.1) (fun q=>q.1) k
 have e:((flw ms i).map fun z=>(z.1.1 - z.1.2,z.2))=(flw ms (i+1)).map fun z=>(z.1.1,z.2):=by
  unfold flw
  rw[zbt1,zbt1]
  refine zbu0 fun x hx=>?_
  obtain⟨nn,xl,_,_⟩:=O.all x hx
  obtain⟨_,_,c⟩:=zq6 nn (i:=i) (by walk_at "om")
  show ((x.1.drop i).sum - x.1.getD i 0,x.2)=((x.1.drop (i+1)).sum,x.2)
  rw[c]
 have a:valG (sumG (xs.map fun z=>(z.1 - z.2.1,z.2.2))) k=valG (sumG ((flw ms i).map fun z=>(z.1.1 - z.1.2,z.2))) k:=a
 have b:valG (sumG (ys.map fun z=>(z.1,z.2.2))) k=valG (sumG ((flw ms (i+1)).map fun z=>(z.1.1,z.2))) k:=b
 rw[a,e,b]
theorem stm_ok {ms:List (List Int×Int)}{h:Int}{f:Nat}{xss:List (List (Int×Int×Int))}(O:OkS ms h f) (S:StmIs ms f xss):zf8 h f (stmD xss)=true:=by
 have f1:=O.f1
 have gd:∀ (i:Nat) (hi:i<xss.length),(xss.map zh5).getD i .none=zh5 xss[i]:=fun i hi=>by
  rw[zbq4,zbq2,zbp6 hi];rfl
 have ri:∀ (i:Nat) (hi:i<xss.length),zy9 ms i xss[i]:=fun i hi=>(S.2 i _ (zbp6 hi)).1
 have sl:=S.1
 have l0:0<xss.length:=by walk_at "om"
 have r0:=ri 0 l0
 obtain⟨x0,ex0⟩:∃ x,ms[0]?=some x:=⟨_,zbp6 (by have:=O.ne;omega)⟩
 have n0:0<(xss[0]).length:=by
  have:((x0.1.drop 0).sum,x0.1.getD 0 0)∈(xss[0]).map keyT:=(r0.2.1 _).mpr ((zh6 _).2 _ |>.mpr (by
   unfold flw
   rw[zbt1]
   exact zbr5.mpr ⟨x0,zbq0 ex0,rfl⟩))
  obtain⟨z,hz,_⟩:=zbr5.mp this
  exact List.length_pos_of_mem hz
 have items:zb6 (stmD xss)=xss.map zh5:=rfl
 unfold zf8
 rw[items]
 have b:zr1 (stmD xss)=true:=by
  show (decide (0<(xss.map zh5).length)&&rowD ((xss.map zh5).getD 0 .none)&&decide (0<(zb6 ((xss.map zh5).getD 0 .none)).length))=true
  rw[gd 0 l0,zbp5,decide_eq_true l0,zbf6 O (by walk_at "om") r0]
  show (true&&true&&decide (0<((xss[0]).map zw6).length))=true
  rw[zbp5,decide_eq_true n0];rfl
 have c1:decide ((((xss.map zh5).length:Nat):Int)=(f:Int))=true:=decide_eq_true (by rw[zbp5,sl])
 have c2:(xss.map zh5).all rowD=true:=by
  rw[zbw9,zbr0]
  intro xs hx
  obtain⟨i,ei⟩:=zbs8 hx
  exact zbf6 O (by have:=(zbp8.mp ei).1;omega) (S.2 i xs ei).1
 have c3:zu0 h ((xss.map zh5).getD 0 .none)=true:=by
  rw[gd 0 l0]
  unfold zu0
  rw[zu7,zbr0]
  intro z hz
  obtain⟨x,hx,e1,_⟩:=zai8 r0 hz
  rw[e1,List.drop_zero]
  exact decide_eq_true (O.all x hx).2.2.1
 have c4:zad6 ((xss.map zh5).getD ((xss.map zh5).length - 1) .none)=true:=by
  rw[zbp5,gd (xss.length - 1) (by walk_at "om")]
  unfold zad6
  rw[zu7,zbr0]
  intro z hz
  obtain⟨x,hx,e1,e2⟩:=zai8 (ri _ (by walk_at "om")) hz
  obtain⟨nn,xl,_,_⟩:=O.all x hx
  obtain⟨_,_,c⟩:=zq6 nn (i:=xss.length - 1) (by walk_at "om")
  rw[zbw5 (i:=xss.length - 1+1) (by walk_at "om")] at c
  have:([]:List Int).sum=0:=rfl
  rw[e1,e2]
  exact decide_eq_true (by walk_at "om")
 have c5:zn6 (xss.map zh5)=true:=by
  unfold zn6
  rw[zbp5,zbr0]
  intro i hi
  have hi:=zbs1.mp hi
  rw[gd i (by walk_at "om"),gd (i+1) (by walk_at "om")]
  exact zat9 O (by walk_at "om") (ri i (by walk_at "om")) (ri (i+1) (by walk_at "om"))
 rw[b,c1,c2,c3,c4,c5];rfl
theorem RwAt.shL {H:Hp}{p:Addr}{bs:List Addr}{xs:List (Int×Int×Int)}(R:RwAt H p bs xs):ShL H (bs.map V.ref) (xs.map zw6):=ShL.idx (by rw[zbp5,zbp5,R.len]) fun i x d h1 h2=>by
 rw[zbq2] at h1 h2
 obtain⟨b,eb,rfl⟩:=zbq7.mp h1
 obtain⟨z,ez,rfl⟩:=zbq7.mp h2
 exact .tup (R.row i b z eb ez) (.cons (.int _) (.cons (.int _) (.cons (.int _) .nil)))
theorem RwAt.sh {H:Hp}{p:Addr}{bs:List Addr}{xs:List (Int×Int×Int)}(R:RwAt H p bs xs):ShV H (.ref p) (zh5 xs):=.lst R.out R.shL
def Off (b:Addr) (ts:List (Addr×Addr)):Prop:=∀ t∈ts,t.1≠b/\t.2≠b
theorem zj4.chg {H H':Hp}{m b:Addr}{ts:List (Addr×Addr)}{ms:List (List Int×Int)}(M:zj4 H m ts ms) (c:Chg b H H') (n:m≠b) (o:Off b ts):zj4 H' m ts ms:=
 ⟨c _ _ n M.out,M.len,fun i t x h1 h2=>⟨c _ _ (o t (zbq0 h1)).1 (M.part i t x h1 h2).1,c _ _ (o t (zbq0 h1)).2 (M.part i t x h1 h2).2⟩⟩
theorem zj4.off {H:Hp}{m b:Addr}{ts:List (Addr×Addr)}{ms:List (List Int×Int)}(M:zj4 H m ts ms) (f:H b=none):m≠b/\Off b ts:=by
 refine⟨za5 M.out f,fun t ht=>?_⟩
 obtain⟨i,hi⟩:=zbs8 ht
 obtain⟨t',x,h1,h2,h3,h4⟩:=M.get (i:=i) (by have:=(zbp8.mp hi).1;have:=M.len;omega)
 rw[hi] at h1
 cases h1
 exact⟨za5 h3 f,za5 h4 f⟩
theorem zj4.push {H H':Hp}{m p q:Addr}{ts:List (Addr×Addr)}{ms:List (List Int×Int)}{x:List Int×Int}(M:zj4 H m ts ms) (c:Chg m H H') (o:Off m ts) (h':H' m=some (.lst ((ts.map fun t=>V.ref t.1)++[.ref p]))) (hp:H' p=some (.tup [.ref q,.int x.2])) (hq:H' q=some (.lst (x.1.map V.int))):zj4 H' m (ts++[(p,q)]) (ms++[x]):=by
 refine⟨by rw[h',zbt3];rfl,by rw[zbp9,zbp9,M.len];rfl,fun i t y h1 h2=>?_⟩
 by_cases hi:i<ts.length
 ·rw[zbt9 hi] at h1
  rw[zbt9 (by have:=M.len;omega)] at h2
  have:=o t (zbq0 h1)
  exact⟨c _ _ this.1 (M.part i t y h1 h2).1,c _ _ this.2 (M.part i t y h1 h2).2⟩
 ·rw[zbt5 (by walk_at "om")] at h1
  rw[zbt5 (by have:=M.len;omega)] at h2
  have e0:i - ts.length=0:=by
   have:=(zbp8.mp h1).1
   simp at this;omega
  rw[e0] at h1
  rw[show i - ms.length=0 by have:=M.len;omega] at h2
  cases h1
  cases h2
  exact⟨hp,hq⟩
theorem Off.push {b p q:Addr}{ts:List (Addr×Addr)}(o:Off b ts) (n1:p≠b) (n2:q≠b):Off b (ts++[(p,q)]):=fun t ht=>by
 rcases zbr2.mp ht with h|h
 ·exact o t h
 ·have:t=(p,q):=by simpa using h
  subst this
  exact⟨n1,n2⟩
abbrev OkX (h f:Int) (x:List Int×Int):Prop:=(∀ n∈x.1,0<=n)/\(x.1.length:Int)=f/\x.1.sum=h/\1<=x.2
theorem zad0 {α:Type}{p:α->Prop}{xs:List α}{y:α}(h:∀ x∈xs,p x) (hy:p y):∀ x∈xs++[y],p x:=fun x hx=>by
 rcases zbr2.mp hx with h' | h'
 ·exact h x h'
 ·have:x=y:=by simpa using h'
  subst this
  exact hy
@[irreducible] def zg7:Sp:=fun vs H Q _=>∃ (a:Addr) (b:Int) (h f:Nat),vs=[.ref a,.int h,.int f]/\zb2 H a b/\b<=100000/\h<=40/\(1<=f/\f<=8)/\∀ l H' (ns:List Int),H l=none->Chg a H H'->zb2 H' a (b+10)->l≠a->H' l=some (.lst (ns.map V.int))->ns.length=f->ns.sum=h->(∀ x∈ns,0<=x)->Q (.ref l) H'
theorem zay1 {H:Hp}{a:Addr}{b:Int}{h f:Nat}{Q:VK}{E:XK}(hL:zb2 H a b) (hb:b<=100000) (h1:h<=40) (h2:1<=f) (h3:f<=8) (q:∀ l H' (ns:List Int),H l=none->Chg a H H'->zb2 H' a (b+10)->l≠a->H' l=some (.lst (ns.map V.int))->ns.length=f->ns.sum=h->(∀ x∈ns,0<=x)->Q (.ref l) H'):zg7 [.ref a,.int h,.int f] H Q E:=by
 unfold zg7;exact⟨a,b,h,f,rfl,hL,hb,h1,⟨h2,h3⟩,q⟩
theorem zbl7 (ns:List Int) (k:Nat):(ns.drop k++ns.take k).sum=ns.sum:=by
 have:=congrArg List.sum (List.take_append_drop k ns)
 rw[List.sum_append] at this ⊢
 omega
theorem zag9 {f:Addr}{fd:FuncData}(F:Fun K "_law_plan" "_law_plan" zj8 f fd) (N:Nm mg) (zbn2:Def P w K mg base CX0 2 "_law_draw" ["_law_left_here","_law_base"] zc5):FnOk P w K mg base CX0 3 f fd ["_law_left_here","_law_hosts","_law_many"] zg7:=by
 refine F.ok zi5 (fun vs H Q E h=>by unfold zg7 at h;obtain⟨_,_,_,_,rfl,_⟩:=h;rfl) (fun cdv A outer s H vs Q E hr h=>?_)
 unfold zg7 at h
 obtain⟨a,b,h,f,rfl,hL,hb,h1,⟨h2,h3⟩,q⟩:=h
 refine⟨_,(za4 (psS (i:=3) zi5.nd (zp0 za3))
   (za4 (psS (i:=4) zi5.nd (pq 1))
   (za4 (zu5 PassesOwn.never rfl (zae0 N.range_ (za0 (zc1 oSub (pq 2) za2) za3)) (za9 (i:=5) zi5.nd rfl (by first|exact Or.inl rfl|exact Or.inr rfl)) (za4 (zab7 (zq1 (pq 3) (za0 (pD zbn2 hr zd5 (za0 (pq 0) (za0 (zc1 oAdd (pq 4) za2) za3))) za3)))
   (za8 (psS (i:=4) zi5.nd (zc1 oSub (pq 4) (zd1 (K:=K) rfl (pq 3) (zaj6 uNeg za2)))))))
   (za4 (zab7 (zq1 (pq 3) (za0 (pq 4) za3)))
   (za4 (psS (i:=6) zi5.nd (pD zbn2 hr zd5 (za0 (pq 0) (za0 (pq 2) za3))))
   (za8 (zc2 (zc1 oAdd (zb4 (slXK (K:=K) rfl) (pq 3) (ze1 (pq 6)) zd2) (zb4 (slXK (K:=K) rfl) (pq 3) zd2 (ze1 (pq 6))))))))))),?_⟩
 refine zc4 (fun l H1 f1 s1 h1'=>?_)
 have n1:l≠a:=hL.ne f1
 refine zr3 (by decide) (by decide) (by walk_at "om") (by walk_at "om") ?_
 refine zn4 (fun i σ H2=>∃ (x y:Option V) (ns:List Int) (r:Int),σ=[some (.ref a),some (.int h),some (.int f),some (.ref l),some (.int r),x,y]/\Chg a H H2/\zb2 H2 a (b+i)/\H2 l=some (.lst (ns.map V.int))/\ns.length=i/\ns.sum+r=h/\0<=r/\r<=40/\∀ x∈ns,0<=x) ?_ ?_ ?_
 ·exact⟨_,_,[],h,rfl,s1.toChg,(hL.same s1).up (by walk_at "om"),h1',rfl,by simp,by walk_at "om",by walk_at "om",by simp⟩
 ·rintro i σ H2 hi ⟨x0,y0,ns,r,rfl,c2,L2,e2,l2,t2,r0,r1,nn⟩
  have hi:i<8:=by walk_at "om"
  refine zae3 e2 ?_
  refine ze5 L2 (by walk_at "om") (by walk_at "om") (by walk_at "om") (fun d3 H3 d30 d31 c3 L3=>?_)
  have e3:=c3 _ _ n1 e2
  refine zah3 e3 (by rw[zbp5,sizeLine_eq];omega) (fun H4 c4 h4=>?_)
  have h4:H4 l=some (.lst ((ns++[d3]).map V.int)):=by rw[h4,zbt3];rfl
  refine zd4 (v:=.int d3) h4 (zaz0 (n:=i) (by rw[zbp5,zbp9,l2];rfl) (by rw[zbq2,zbt5 (by walk_at "om"),l2,Nat.sub_self];rfl)) ?_
  walk_at "wh"
  have c23:Chg a H H3:=c2.trans c3
  refine⟨_,_,ns++[d3],r - d3,rfl,fun b o h1 e=>c4 _ _ (za5 e f1) (c23 _ _ h1 e),(L3.chg c4 (Ne.symm n1)).up (by walk_at "om"),h4,by rw[zbp9,l2];rfl,by rw[List.sum_append];simp;omega,by walk_at "om",by walk_at "om",fun x hx=>?_⟩
  rcases zbr2.mp hx with hx|hx
  ·exact nn x hx
  ·have:x=d3:=by simpa using hx
   omega
 ·rintro σ H2 ⟨x0,y0,ns,r,rfl,c2,L2,e2,l2,t2,r0,r1,nn⟩
  refine zae3 e2 ?_
  refine zah3 e2 (by rw[zbp5,sizeLine_eq];omega) (fun H3 c3 h3'=>?_)
  have h3':H3 l=some (.lst ((ns++[r]).map V.int)):=by rw[h3',zbt3];rfl
  have L3:=L2.chg c3 (Ne.symm n1)
  refine ze5 L3 (by walk_at "om") (by walk_at "om") (by walk_at "om") (fun at_ H4 a0 a1 c4 L4=>?_)
  have h4:=c4 _ _ n1 h3'
  refine zf9 (SqL.of h4) (fun p5 H5 f5 s5 h5=>?_)
  rw[zp8 (by walk_at "om"),← List.map_drop] at h5
  refine zf9 (SqL.of (s5 _ _ h4)) (fun p6 H6 f6 s6 h6=>?_)
  rw[zo8 (by walk_at "om"),← List.map_take] at h6
  refine zi9 (s6 _ _ h5) h6 (by rw[zbp5,zbp5,zbu1,zbt0,sizeLine_eq,zbp9,l2,zbs0];omega) (fun p7 H7 f7 s7 h7=>?_)
  walk_at "wh"
  have s56:=s5.trans s6
  have L6:=L4.same s56
  have c06:Chg a H H6:=fun b o h1 e=>s56 _ _ (c4 _ _ h1 (c3 _ _ (za5 e f1) (c2 _ _ h1 e)))
  refine q p7 H7 ((ns++[r]).drop at_.toNat++(ns++[r]).take at_.toNat) (Chg.free' c06 f7 (L6.ne f7)) (c06.same s7) ((L6.same s7).up (by walk_at "om")) (L6.ne f7) (by rw[h7,zbt3]) (by rw[zbp9,zbu1,zbt0,zbp9,l2,zbs0];omega) (by rw[zbl7,List.sum_append];simp;omega) (fun x hx=>?_)
  have hx:x∈ns++[r]:=by
   rcases zbr2.mp hx with hx|hx
   ·exact zbw1 hx
   ·exact zbw0 hx
  rcases zbr2.mp hx with hx|hx
  ·exact nn x hx
  ·have:x=r:=by simpa using hx
   omega
abbrev OkY (h f:Int) (x:List Int×Int):Prop:=OkX h f x/\x.2<=10 ^ 28
@[irreducible] def zh9:Sp:=fun vs H Q _=>∃ (a:Addr) (b:Int) (m:Nat),vs=[.ref a,.int m,.int 8,.int 8]/\zb2 H a b/\b<=10000/\m<=40/\∀ (h f:Nat) l ts ms H',H l=none->Chg a H H'->zb2 H' a (b+200)->l≠a->zj4 H' l ts ms->Off a ts->Off l ts->(h<=40/\1<=f/\f<=8)->(1<=ms.length/\ms.length<=8)->(∀ x∈ms,OkY h f x)->Q (.ref l) H'
theorem lot_rd {H:Hp}{a:Addr}{b:Int}{m:Nat}{Q:VK}{E:XK}(hL:zb2 H a b) (hb:b<=10000) (hm:m<=40) (q:∀ (h f:Nat) l ts ms H',H l=none->Chg a H H'->zb2 H' a (b+200)->l≠a->zj4 H' l ts ms->Off a ts->Off l ts->(h<=40/\1<=f/\f<=8)->(1<=ms.length/\ms.length<=8)->(∀ x∈ms,OkY h f x)->Q (.ref l) H'):zh9 [.ref a,.int m,.int 8,.int 8] H Q E:=by
 unfold zh9;exact⟨a,b,m,rfl,hL,hb,hm,q⟩
theorem zaj7 {f:Addr}{fd:FuncData}(F:Fun K "_law_lot" "_law_lot" zl5 f fd) (N:Nm mg) (zbn2:Def P w K mg base CX0 2 "_law_draw" ["_law_left_here","_law_base"] zc5) (zbo4:Def P w K mg base CX0 3 "_law_plan" ["_law_left_here","_law_hosts","_law_many"] zg7):FnOk P w K mg base CX0 4 f fd ["_law_left_here","_law_most","_law_fields","_law_parts"] zh9:=by
 refine F.ok zj5 (fun vs H Q E h=>by unfold zh9 at h;obtain⟨_,_,_,rfl,_⟩:=h;rfl) (fun cdv A outer s H vs Q E hr h=>?_)
 unfold zh9 at h
 obtain⟨a,b,m,rfl,hL,hb,hm,q⟩:=h
 have hu:=hu40 hr
 refine⟨_,(za4 (psS (i:=4) zj5.nd (pD zbn2 hr zd5 (za0 (pq 0) (za0 (zc1 oAdd (pq 1) za2) za3))))
   (za4 (psS (i:=5) zj5.nd (zc1 oAdd za2 (pD zbn2 hr zd5 (za0 (pq 0) (za0 (pq 2) za3)))))
   (za4 (psS (i:=6) zj5.nd (zp0 za3))
   (za4 (zu5 PassesOwn.never rfl (zae0 N.range_ (za0 (zc1 oAdd za2 (pD zbn2 hr zd5 (za0 (pq 0) (za0 (pq 3) za3)))) za3)) (za9 (i:=7) zj5.nd rfl (by first|exact Or.inl rfl|exact Or.inr rfl)) (za4 (psS (i:=8) zj5.nd (zc1 oAdd za2 (pD zbn2 hr zd5 (za0 (pq 0) (za0 (zd1 (K:=K) rfl (zp0 (za0 za2 (za0 za2 (za0 (zc1 oPow za2 za2) za3)))) (pD zbn2 hr zd5 (za0 (pq 0) (za0 za2 za3)))) za3)))))
   (za8 (psIf (ptW (pwAnd (ptC oGt (pq 7) za2) (zad4 (ptC (zn2 (K:=K) rfl (by exact hu)) (pD zbn2 hr zd5 (za0 (pq 0) (za0 za2 za3))) za2)))) (za8 (zab7 (zq1 (pq 6) (za0 (zx7 (za0 (pT (zan9 (K:=K) rfl) N.list_ zm6 (za0 (zd1 (K:=K) rfl (zd1 (K:=K) rfl (pq 6) (pD zbn2 hr zd5 (za0 (pq 0) (za0 (pq 7) za3)))) za2) za3)) (za0 (pq 8) za3))) za3)))) (za8 (zab7 (zq1 (pq 6) (za0 (zx7 (za0 (pD zbo4 hr zd5 (za0 (pq 0) (za0 (pq 4) (za0 (pq 5) za3)))) (za0 (pq 8) za3))) za3))))))))
   (za8 (zc2 (pq 6))))))),?_⟩
 refine ze5 hL (by walk_at "om") (by walk_at "om") (by walk_at "om") (fun dh H1 dh0 dh1 c1 L1=>?_)
 obtain⟨h,rfl⟩:∃ h:Nat,dh=h:=⟨dh.toNat,by walk_at "om"⟩
 refine ze5 L1 (by walk_at "om") (by walk_at "om") (by walk_at "om") (fun df H2 df0 df1 c2 L2=>?_)
 obtain⟨f,ef⟩:∃ f:Nat,1+df=f:=⟨(1+df).toNat,by walk_at "om"⟩
 have hf:h<=40/\1<=f/\f<=8:=by walk_at "om"
 walk_at "wh"
 rw[ef]
 refine zc4 (fun l H3 f3 s3 h3=>?_)
 have n1:l≠a:=L2.ne f3
 have c03:Chg a H H3:=(c1.trans c2).same s3
 have f0:H l=none:=Chg.free' (c1.trans c2) f3 n1
 refine ze5 (L2.same s3) (by walk_at "om") (by walk_at "om") (by walk_at "om") (fun dn H4 dn0 dn1 c4 L4=>?_)
 refine zr3 (by decide) (by decide) (by walk_at "om") (by walk_at "om") ?_
 obtain⟨n,en⟩:∃ n:Nat,(1+dn - 0).toNat=n:=⟨_,rfl⟩
 rw[en]
 have hn1:1<=n/\n<=8:=by walk_at "om"
 refine zn4 (fun i σ I=>∃ (x y:Option V) (ts:List (Addr×Addr)) (ms:List (List Int×Int)),σ=[some (.ref a),some (.int m),some (.int 8),some (.int 8),some (.int h),some (.int f),some (.ref l),x,y]/\Chg a H I/\zb2 I a (b+4+20*i)/\zj4 I l ts ms/\Off a ts/\Off l ts/\ms.length=i/\∀ x∈ms,OkY h f x) ?_ ?_ ?_
 ·refine⟨_,_,[],[],rfl,c03.trans c4,L4.up (by walk_at "om"),⟨c4 _ _ n1 h3,rfl,fun i t x e=>by simp at e⟩,?_,?_,rfl,?_⟩
  ·intro t ht;cases ht
  ·intro t ht;cases ht
  ·intro x hx;cases hx
 ·rintro i σ I hi ⟨x0,y0,ts,ms,rfl,cI,LI,M,O1,O2,ml,ok⟩
  have hi:i<8:=by walk_at "om"
  walk_at "st"
  refine zc4 (fun p5 H5 f5 s5 h5=>?_)
  refine ze5 (LI.same s5) (by walk_at "om") (by walk_at "om") (by walk_at "om") (fun d6 H6 d60 d61 c6 L6=>?_)
  have h56:=c6 _ _ (LI.ne f5) h5
  refine zl4 h56 (by walk_at "om") (by simp only[zbq5,zbr1];omega) ?_
  intro v hv
  obtain⟨wm,rfl,wm0,wm1⟩:∃ m:Int,v=.int m/\1<=m/\m<=10 ^ 28:=by
   simp only[zbq8,zbs5,or_false] at hv
   rcases hv with rfl|rfl|rfl<;>exact⟨_,rfl,by walk_at "om",by walk_at "om"⟩
  clear hv h56 h5
  refine ze5 L6 (by walk_at "om") (by walk_at "om") (by walk_at "om") (fun d7 H7 d70 d71 c7 L7=>?_)
  have c57:Chg a I H7:=(s5.toChg.trans c6).trans c7
  have M7:=((M.same s5).chg c6 n1 O1).chg c7 n1 O1
  have c07:=cI.trans c57
  have wt:1<=1+d7/\1+d7<=10 ^ 28:=by walk_at "om"
  walk_at "wh"
  generalize 1+d7=wt_ at wt ⊢
  refine zd3 (fun z=>?_) (fun z=>?_)
  ·walk_at "wh"
   refine ze5 L7 (by walk_at "om") (by walk_at "om") (by walk_at "om") (fun d8 H8 d80 d81 c8 L8=>?_)
   have M8:=M7.chg c8 n1 O1
   refine zd3 (fun z8=>?_) (fun z8=>?_)
   ·walk_at "wh"
    refine zae3 M8.out ?_
    refine ze5 L8 (by walk_at "om") (by walk_at "om") (by walk_at "om") (fun d9 H9 d90 d91 c9 L9=>?_)
    have M9:=M8.chg c9 n1 O1
    obtain⟨k,rfl⟩:∃ k:Nat,d9=k:=⟨d9.toNat,by walk_at "om"⟩
    obtain⟨x,ex⟩:∃ x,ms[k]?=some x:=⟨_,zbp6 (by walk_at "om")⟩
    obtain⟨t,et,at0,ht,hp⟩:=M9.ix ex
    obtain⟨⟨x1,x2,x3,_⟩,_⟩:=ok x (zbq0 ex)
    refine zd4 (v:=.ref t.1) M9.out at0 ?_
    refine zh4 (v:=.ref t.2) ht rfl ?_
    refine zv1 (SqL.of hp) (fun pa Ha fa sa ha=>?_)
    refine zb8 (fun pb Hb fb sb hb=>?_)
    have nal:pa≠l:=Ne.symm (za5 M9.out fa)
    have nbl:pb≠l:=Ne.symm (za5 (sa _ _ M9.out) fb)
    have Mb:=(M9.same sa).same sb
    refine zah3 Mb.out (by rw[zbp5,sizeLine_eq,Mb.len];omega) (fun Hc cc hc=>?_)
    walk_at "wh"
    have Mc:=Mb.push cc O2 hc (x:=(x.1,wt_)) (cc _ _ nbl hb) (cc _ _ nal (sb _ _ ha))
    have c0b:Chg a H Hb:=(((c07.trans c8).trans c9).same sa).same sb
    exact⟨_,_,_,_,rfl,fun b o z e=>cc _ _ (za5 e f0) (c0b _ _ z e),(((L9.same sa).same sb).chg cc (Ne.symm n1)).up (by walk_at "om"),Mc,O1.push ((L9.same sa).ne fb) (L9.ne fa),O2.push nbl nal,by rw[zbp9,ml];rfl,zad0 ok ⟨⟨x1,x2,x3,by walk_at "om"⟩,by walk_at "om"⟩⟩
   ·walk_at "wh"
    refine zae3 M8.out ?_
    refine zay1 L8 (by walk_at "om") hf.1 hf.2.1 hf.2.2 (fun pa Ha ns fa ca La na ha k1 k2 k3=>?_)
    have Ma:=M8.chg ca n1 O1
    refine zb8 (fun pb Hb fb sb hb=>?_)
    have nal:pa≠l:=Ne.symm (za5 M8.out fa)
    have nbl:pb≠l:=Ne.symm (za5 Ma.out fb)
    have Mb:=Ma.same sb
    refine zah3 Mb.out (by rw[zbp5,sizeLine_eq,Mb.len];omega) (fun Hc cc hc=>?_)
    walk_at "wh"
    have Mc:=Mb.push cc O2 hc (x:=(ns,wt_)) (cc _ _ nbl hb) (cc _ _ nal (sb _ _ ha))
    have c0b:Chg a H Hb:=((c07.trans c8).trans ca).same sb
    exact⟨_,_,_,_,rfl,fun b o z e=>cc _ _ (za5 e f0) (c0b _ _ z e),((La.same sb).chg cc (Ne.symm n1)).up (by walk_at "om"),Mc,O1.push (La.ne fb) na,O2.push nbl nal,by rw[zbp9,ml];rfl,zad0 ok ⟨⟨k3,by rw[k1],k2,by walk_at "om"⟩,by walk_at "om"⟩⟩
  ·walk_at "wh"
   refine br_F ?_
   refine zae3 M7.out ?_
   refine zay1 L7 (by walk_at "om") hf.1 hf.2.1 hf.2.2 (fun pa Ha ns fa ca La na ha k1 k2 k3=>?_)
   have Ma:=M7.chg ca n1 O1
   refine zb8 (fun pb Hb fb sb hb=>?_)
   have nal:pa≠l:=Ne.symm (za5 M7.out fa)
   have nbl:pb≠l:=Ne.symm (za5 Ma.out fb)
   have Mb:=Ma.same sb
   refine zah3 Mb.out (by rw[zbp5,sizeLine_eq,Mb.len];omega) (fun Hc cc hc=>?_)
   walk_at "wh"
   have Mc:=Mb.push cc O2 hc (x:=(ns,wt_)) (cc _ _ nbl hb) (cc _ _ nal (sb _ _ ha))
   have c0b:Chg a H Hb:=(c07.trans ca).same sb
   exact⟨_,_,_,_,rfl,fun b o z e=>cc _ _ (za5 e f0) (c0b _ _ z e),((La.same sb).chg cc (Ne.symm n1)).up (by walk_at "om"),Mc,O1.push (La.ne fb) na,O2.push nbl nal,by rw[zbp9,ml];rfl,zad0 ok ⟨⟨k3,by rw[k1],k2,by walk_at "om"⟩,by walk_at "om"⟩⟩
 ·rintro σ I ⟨x0,y0,ts,ms,rfl,cI,LI,M,O1,O2,ml,ok⟩
  walk_at "wh"
  exact q h f l ts ms I f0 cI (LI.up (by walk_at "om")) n1 M O1 O2 hf (by walk_at "om") ok
theorem zbc7 {ms:List (List Int×Int)}{j:Nat}{x:List Int×Int}(h:ms[j]?=some x) (i:Nat):sumG (flw (ms.take (j+1)) i)=addG (sumG (flw (ms.take j) i)) (((x.1.drop i).sum,x.1.getD i 0),x.2):=by
 unfold flw
 rw[List.take_succ,h,zbt3]
 exact zs1 _ _
theorem zaw5 (ms:List (List Int×Int)) (i:Nat):(sumG (flw ms i)).length<=ms.length:=by
 have:=zm5 (flw ms i)
 unfold flw at this ⊢
 rwa [zbp5] at this
structure DsAt (H0 H:Hp) (l:Addr) (ds:List Addr) (g:Nat->List ((Int×Int)×Int)):Prop where
 fl:H0 l=none
 out:H l=some (.lst (ds.map V.ref))
 nd:ds.Nodup
 nin:l ∉ ds
 row:∀ (i:Nat) d,ds[i]?=some d->H0 d=none/\H d=some (.dT (dF pK (g i)))
theorem DsAt.put {H0 H H':Hp}{l d:Addr}{ds:List Addr}{g:Nat->List ((Int×Int)×Int)}{k:Nat}{n:List ((Int×Int)×Int)}(D:DsAt H0 H l ds g) (e:ds[k]?=some d) (c:Chg d H H') (h:H' d=some (.dT (dF pK n))):DsAt H0 H' l ds fun i=>if i=k then n else g i:=by
 refine⟨D.fl,c _ _ (fun z=>D.nin (z▸zbq0 e)) D.out,D.nd,D.nin,fun i d' e'=>?_⟩
 by_cases hi:i=k
 ·subst hi
  rw[e] at e'
  cases e'
  exact⟨(D.row i d e).1,by rw[h,if_pos rfl]⟩
 ·rw[if_neg hi]
  have ne:d'≠d:=fun z=>by
   subst z
   exact hi ((List.getElem?_inj (zbp8.mp e').1 D.nd).mp (e'.trans e.symm))
  exact⟨(D.row i d' e').1,c _ _ ne (D.row i d' e').2⟩
theorem DsAt.ext {H0 H:Hp}{l:Addr}{ds:List Addr}{g g':Nat->List ((Int×Int)×Int)}(D:DsAt H0 H l ds g) (h:∀ i,i<ds.length->g i=g' i):DsAt H0 H l ds g':=
 ⟨D.fl,D.out,D.nd,D.nin,fun i d e=>⟨(D.row i d e).1,by rw[← h i (zbp8.mp e).1];exact (D.row i d e).2⟩⟩
@[irreducible] def ze0:Sp:=fun vs H Q _=>∃ (m:Addr) (ts:List (Addr×Addr)) (ms:List (List Int×Int)) (f:Nat),vs=[.ref m]/\zj4 H m ts ms/\(1<=ms.length/\ms.length<64)/\f<=100/\(∀ x∈ms,x.1.length=f)/\∀ r rs xss H',Same H H'->StAt (nw H H') r rs xss->StmIs ms f xss->Q (.ref r) H'
theorem zam5 {H:Hp}{m:Addr}{ts:List (Addr×Addr)}{ms:List (List Int×Int)}{f:Nat}{Q:VK}{E:XK}(M:zj4 H m ts ms) (h1:1<=ms.length) (h2:ms.length<64) (h3:f<=100) (h4:∀ x∈ms,x.1.length=f) (q:∀ r rs xss H',Same H H'->StAt (nw H H') r rs xss->StmIs ms f xss->Q (.ref r) H'):ze0 [.ref m] H Q E:=by
 unfold ze0;exact⟨m,ts,ms,f,rfl,M,⟨h1,h2⟩,h3,h4,q⟩
set_option maxHeartbeats 0 in
theorem zab0 {f:Addr}{fd:FuncData}(F:Fun K "_law_flows" "_law_flows" zi2 f fd) (N:Nm mg):FnOk P w K mg base CX0 1 f fd ["_law_mix_here"] ze0:=by
 refine F.ok zh2 (fun vs H Q E h=>by unfold ze0 at h;obtain⟨_,_,_,_,rfl,_⟩:=h;rfl) (fun cdv A outer s H vs Q E hr h=>?_)
 unfold ze0 at h
 obtain⟨m,ts,ms,f,rfl,M,⟨m1,m2⟩,hf,fl,q⟩:=h
 have hu:=hu40 hr
 have ml:=M.len
 refine⟨_,(za4 (psC (i:=1) (N:=["_law_place"]) (ks:=[none]) zh2.nd (zi7 (K:=K) rfl (zd1 (K:=K) rfl (zd1 (K:=K) rfl (pq 0) za2) za2)) (fun cl C s3 H3 fp=>(za9 (i:=0) nb_7 rfl (by first|exact Or.inl rfl|exact Or.inr rfl))) (fun cl C s3 H3 fp=>zj3) (fun cl C s3 H3 fp=>zy7) (.skip .nil))
   (za4 (zu5 PassesOwn.never rfl (zi7 (K:=K) rfl (pq 0)) (zo9 (K:=K) (n:=2) rfl rfl (zc6 (za9 (i:=2) zh2.nd rfl (by first|exact Or.inl rfl|exact Or.inr rfl)) (zc6 (za9 (i:=3) zh2.nd rfl (by first|exact Or.inl rfl|exact Or.inr rfl)) zo5))) (za8 (zu5 PassesOwn.never rfl (zae0 N.range_ (za0 (pB (zo1 (K:=K) rfl) N.len_ zi6 (za0 (pq 2) za3)) za3)) (za9 (i:=4) zh2.nd rfl (by first|exact Or.inl rfl|exact Or.inr rfl)) (za4 (psS (i:=5) zh2.nd (zx7 (za0 (pB (cSumK (K:=K) rfl rfl) N.sum_ zbi1 (za0 (zb4 (slXK (K:=K) rfl) (pq 2) (ze1 (pq 4)) zd2) za3)) (za0 (zd1 (K:=K) rfl (pq 2) (pq 4)) za3))))
   (za8 (zao0 (by exact hu) (zd1 (K:=K) rfl (pq 1) (pq 4)) (pq 5) (zc1 oAdd (zv3 (by exact hu) (zd1 (K:=K) rfl (pq 1) (pq 4)) (pq 5) za2) (pq 3))))))))
   (za8 (zc2 (zbj0 (x0:="_law_flow") (N:=["_law_flow"]) (ks:=[none]) (zi7 (K:=K) rfl (pq 1)) (fun cl C s3 H3 fp=>(za9 (i:=0) nb_8 rfl (by first|exact Or.inl rfl|exact Or.inr rfl))) (fun cl C s3 H3 fp=>zj3) (fun cl C s3 H3 fp=>(zo4 (N:=["_law_rest","_law_sent","_law_flow"]) (ks:=[none,none,some 0]) (zi7 (K:=K) rfl (pB (cSortO rfl) N.sorted_ zs0 (za0 (pq 0) za3))) (fun cl C s3 H3 fp=>(zo9 (K:=K) (n:=2) rfl rfl (zc6 (za9 (i:=0) nb_9 rfl (by first|exact Or.inl rfl|exact Or.inr rfl)) (zc6 (za9 (i:=1) nb_9 rfl (by first|exact Or.inl rfl|exact Or.inr rfl)) zo5)))) (fun cl C s3 H3 fp=>zj3) (fun cl C s3 H3 fp=>(zx7 (za0 (pq 0) (za0 (pq 1) (za0 (peDGet (by exact hu) (pq 2) (zx7 (za0 (pq 0) (za0 (pq 1) za3)))) za3))))) (.skip (.skip (.take rfl rfl (by first|exact Or.inl rfl|exact Or.inr rfl) .nil))))) (.skip .nil)))))),?_⟩
 obtain⟨x0,ex0⟩:∃ x,ms[0]?=some x:=⟨_,zbp6 (by walk_at "om")⟩
 obtain⟨t0,et0,at0,ht0,hp0⟩:=M.ix ex0
 have l0:=fl x0 (zbq0 ex0)
 refine zd4 (v:=.ref t0.1) M.out at0 ?_
 refine zh4 (v:=.ref t0.2) ht0 rfl ?_
 refine zd6 hp0 ?_
 refine zaf7 (n:=(x0.1.map V.int).length) (Wk.list (SqL.of hp0)) (by rw[zbp5,sizeLine_eq];omega) (fun j=>.dT []) (fun j σ=>∃ t:Option V,σ=[t]) ⟨none,rfl⟩ ?_ ?_
 ·rintro j v σ H4 R' S' hj s4 hx ⟨t,rfl⟩ k
  refine br_T ?_
  refine zbh7 (fun p5 H5 f5 s5 h5=>?_)
  walk_at "wh"
  exact k _ _ _ f5 s5 h5 ⟨_,rfl⟩
 intro l ds H1 F1
 rw[zbp5,l0] at F1
 have dl:=F1.len
 have D1:DsAt H H1 l ds fun i=>sumG (flw (ms.take 0) i):=⟨F1.facc,F1.out,F1.nd,F1.nin,fun i d e=>F1.row i d e⟩
 have s1:=F1.same
 clear F1
 refine zd6 (s1 _ _ M.out) ?_
 refine zk5 (xs:=ts.map fun t=>V.ref t.1) (fun j σ I=>∃ t u v w:Option V,σ=[some (.ref m),some (.ref l),t,u,v,w]/\Same H I/\DsAt H I l ds fun i=>sumG (flw (ms.take j) i)) ?_ ?_ ?_ ?_
 ·exact⟨_,_,_,_,rfl,s1,D1⟩
 ·rintro j σ I _ ⟨_,_,_,_,_,s2,_⟩
  exact SqL.of (s2 _ _ M.out)
 ·rintro j v σ I hj ⟨_,_,_,_,rfl,s2,D2⟩
  obtain⟨t,x,rfl,e1,e2,e3,e4⟩:=(M.same s2).elt hj
  have jl:=(zbp8.mp e2).1
  have e40:=(M.part j t x e1 e2).2
  have xl:=fl x (zbq0 e2)
  refine zk8 e3 ?_
  refine zg3 e4 ?_
  rw[zbp5,xl]
  refine zr3 (by walk_at "om") (by walk_at "om") (by walk_at "om") (by walk_at "om") ?_
  refine zn4 (fun k σ I2=>∃ v w:Option V,σ=[some (.ref m),some (.ref l),some (.ref t.2),some (.int x.2),v,w]/\Same H I2/\DsAt H I2 l ds fun i=>if i<k then sumG (flw (ms.take (j+1)) i) else sumG (flw (ms.take j) i)) ?_ ?_ ?_
  ·exact⟨_,_,rfl,s2,D2.ext fun i _=>by rw[if_neg (by walk_at "om")]⟩
  ·rintro k σ I2 hk ⟨_,_,rfl,s3,D3⟩
   have hk:k<f:=by walk_at "om"
   obtain⟨d,ed⟩:∃ d,ds[k]?=some d:=⟨_,zbp6 (by walk_at "om")⟩
   obtain⟨dn,dh⟩:=D3.row k d ed
   rw[if_neg (by walk_at "om")] at dh
   have e43:=s3 _ _ e40
   have kx:x.1[k]?=some (x.1.getD k 0):=by rw[zbq4,zbp6 (by walk_at "om")];rfl
   refine zf9 (SqL.of e43) (fun p4 I4 f4 s4 h4=>?_)
   rw[zp8 (by walk_at "om"),show ((0:Int)+(k:Int)).toNat=k by walk_at "om",← List.map_drop] at h4
   refine zbf2 h4 ?_
   refine zd4 (v:=.int (x.1.getD k 0)) (s4 _ _ e43) (int_at (by walk_at "om") (by rw[show ((0:Int)+(k:Int)).toNat=k by walk_at "om"];exact kx)) ?_
   refine zb8 (fun p5 I5 f5 s5 h5=>?_)
   have s35:=s4.trans s5
   have h5:I5 p5=some (.tup ((pK ((x.1.drop k).sum,x.1.getD k 0)).map kV)):=h5
   have dk:atI (ds.map V.ref) ((0:Int)+(k:Int))=some (.ref d):=ref_at (by walk_at "om") (by rw[show ((0:Int)+(k:Int)).toNat=k by walk_at "om"];exact ed)
   have lo:=s35 _ _ D3.out
   have dh5:=s35 _ _ dh
   refine zd4 (v:=.ref d) lo dk ?_
   refine zas1 dh5 ?_
   refine zba0 dh5 (k:=pK ((x.1.drop k).sum,x.1.getD k 0)) h5 ?_
   have ev:(valV (dF pK (sumG (flw (ms.take j) k))) (pK ((x.1.drop k).sum,x.1.getD k 0))).getD (V.int 0)=.int ((valG (sumG (flw (ms.take j) k)) ((x.1.drop k).sum,x.1.getD k 0)).getD 0):=by
    rw[zq7 zw7]
    cases valG (sumG (flw (ms.take j) k)) ((x.1.drop k).sum,x.1.getD k 0)<;>rfl
   rw[ev]
   refine zd4 (v:=.ref d) lo dk ?_
   refine zbh1 dh5 (k:=pK ((x.1.drop k).sum,x.1.getD k 0)) h5 (by unfold dF;rw[zbp5,sizeLine_eq];have:=zaw5 (ms.take j) k;rw[zbt0] at this;omega) (fun I6 c6 h6=>?_)
   rw[zy3 zw7] at h6
   walk_at "wh"
   have D5:DsAt H I5 l ds fun i=>if i<k then sumG (flw (ms.take (j+1)) i) else sumG (flw (ms.take j) i):=⟨D3.fl,lo,D3.nd,D3.nin,fun i d e=>⟨(D3.row i d e).1,s35 _ _ (D3.row i d e).2⟩⟩
   refine⟨_,_,rfl,(s3.trans s35).chg dn c6,(D5.put ed c6 h6).ext fun i _=>?_⟩
   by_cases hi:i=k
   ·subst hi
    rw[if_pos rfl,if_pos (by walk_at "om"),zbc7 e2]
    rfl
   ·rw[if_neg hi]
    by_cases h':i<k
    ·rw[if_pos h',if_pos (by walk_at "om")]
    ·rw[if_neg h',if_neg (by walk_at "om")]
  ·rintro σ I2 ⟨_,_,rfl,s3,D3⟩
   walk_at "wh"
   exact⟨_,_,_,_,rfl,s3,D3.ext fun i hi=>by rw[if_pos (by walk_at "om")]⟩
 ·rintro σ H2 ⟨_,_,_,_,rfl,s2,D2⟩
  rw[zbp5,ml,zbx0] at D2
  refine zd6 D2.out ?_
  refine zbf5 (Wk.list (SqL.of D2.out)) (by rw[zbp5,sizeLine_eq];omega) (fun acc j ys σ I=>∃ (t:Option V) (rs:List (Addr×List Addr)) (xss:List (List (Int×Int×Int))),σ=[t]/\ys=(rs.map fun r=>V.ref r.1)/\rs.length=j/\xss.length=j/\(∀ (i:Nat) r xs,rs[i]?=some r->xss[i]?=some xs->RwAt (rm acc (nw H2 I)) r.1 r.2 xs)/\(∀ (i:Nat) xs,xss[i]?=some xs->zy9 ms i xs/\xs.length<=ms.length)/\(rs.map (·.1)).Nodup) ?_ ?_ ?_ ?_
  ·intro acc I f1 s2 h1
   exact⟨none,[],[],rfl,rfl,rfl,rfl,fun i r xs e=>by simp at e,fun i xs e=>by simp at e,List.nodup_nil⟩
  ·rintro acc j ys σ I I' s' ⟨t,rs,xss,r1,r2,r3,r4,r5,r6,r7⟩
   exact⟨t,rs,xss,r1,r2,r3,r4,fun i r xs e1 e2=>(r5 i r xs e1 e2).same (Same.rm (nw_up s')),r6,r7⟩
  ·rintro acc j v ys σ I R S hj facc s3 hacc hx ⟨t,rs,xss,rfl,rfl,rl,xl,rp,xp,nd⟩ kR _
   rw[zbq2] at hx
   obtain⟨d,ed,rfl⟩:=zbq7.mp hx
   have dh:=s3 _ _ (D2.row j d ed).2
   have dh':I d=some (.dT (((sumG (flw ms j)).map fun z=>(z.1,V.int z.2)).map fun z=>(pK z.1,z.2))):=by rw[dh,zbt1];rfl
   have sl:=zaw5 ms j
   refine br_T ?_
   refine soO_rd dh' (by rw[zbp5];omega) (fun p4 I4 bs ks f4 s4 pm od pr h4=>?_)
   have pm:ks.Perm ((sumG (flw ms j)).map (·.1)):=by rw[zbt1] at pm;exact pm
   have bl:bs.length=ks.length:=pr.length
   have kl:ks.length<=ms.length:=by have:=pm.length_eq;rw[zbp5] at this;omega
   have eg:∀ x∈ks,valG (sumG (flw ms j)) x=some ((valG (sumG (flw ms j)) x).getD 0):=fun x hx=>by
    obtain⟨n,e⟩:=zam1 (pm.mem_iff.mp hx)
    rw[e];rfl
   refine zd6 h4 ?_
   refine zaf7 (n:=(bs.map V.ref).length) (Wk.list (SqL.of h4)) (by rw[zbp5,sizeLine_eq];omega) (fun j'=>.tup [.int (ks.getD j' (0,0)).1,.int (ks.getD j' (0,0)).2,.int ((valG (sumG (flw ms j)) (ks.getD j' (0,0))).getD 0)]) (fun j σ=>∃ t u:Option V,σ=[t,u,some (.ref d)]) ⟨none,none,rfl⟩ ?_ ?_
   ·rintro j' v σ H4 R' S' hj s5 hx ⟨t,u,rfl⟩ k
    rw[zbq2] at hx
    obtain⟨b,eb,rfl⟩:=zbq7.mp hx
    obtain⟨x,ex⟩:∃ x,ks[j']?=some x:=⟨ks[j']'(by have:=(zbp8.mp eb).1;omega),zbp6 _⟩
    have eb':=s5 _ _ (zn5 pr j' b x eb ex)
    rw[show ks.getD j' (0,0)=x by rw[zbq4,ex];rfl] at k
    have h4:=s5 _ _ (s4 _ _ dh)
    refine zk8 eb' ?_
    refine br_T ?_
    refine zb8 (fun p5 H5 f5 s5 h5=>?_)
    refine dgT_rd (s5 _ _ h4) (k:=pK x) h5 (by rw[zq7 zw7,eg x (zbq0 ex)];rfl) ?_
    refine zb8 (fun pa Ha fa sa ha=>?_)
    walk_at "wh"
    exact k _ _ _ (s5.free fa) (s5.trans sa) ha ⟨_,_,rfl⟩
   intro acc4 ps H4 F4
   rw[zbp5] at F4
   have F4l:=F4.len
   have s34:=s4.trans F4.same
   walk_at "wh"
   have R4:RwAt (nw I H4) acc4 ps (ks.map fun x=>(x.1,x.2,(valG (sumG (flw ms j)) x).getD 0)):=⟨zai5 (s4.free F4.facc) F4.out,by rw[zbp5];omega,fun j b x e1 e2=>by
    rw[zbq2] at e2
    obtain⟨y,ey,rfl⟩:=zbq7.mp e2
    obtain⟨z1,z2⟩:=F4.row j b e1
    rw[show ks.getD j (0,0)=y by rw[zbq4,ey];rfl] at z2
    exact zai5 (s4.free z1) z2⟩
   have ri:zy9 ms j (ks.map fun x=>(x.1,x.2,(valG (sumG (flw ms j)) x).getD 0)):=by
    have em:(ks.map fun x=>(x.1,x.2,(valG (sumG (flw ms j)) x).getD 0)).map keyT=ks:=by
     rw[zbt1]
     exact (zbu0 fun x _=>rfl).trans (List.map_id _)
    refine⟨by rw[em];exact od,fun k=>by rw[em];exact pm.mem_iff,fun z hz=>?_⟩
    obtain⟨x,hx,rfl⟩:=zbr5.mp hz
    exact eg x hx
   have xl1:(ks.map fun x=>(x.1,x.2,(valG (sumG (flw ms j)) x).getD 0)).length<=ms.length:=by rw[zbp5];exact kl
   generalize (ks.map fun x=>(x.1,x.2,(valG (sumG (flw ms j)) x).getD 0))=xs at R4 ri xl1
   refine kR _ _ _ s34 (fun I2 c2=>⟨_,rs++[(acc4,ps)],xss++[xs],rfl,by rw[zbt3];rfl,by rw[zbp9,rl];rfl,by rw[zbp9,xl];rfl,fun i r' xs' e1 e2=>?_,fun i xs' e=>?_,zbk1 (I1:=H4) nd (by walk_at "om") rp (zw9 R4.out).1⟩)
   ·have up:Same (rm acc (nw H2 I)) (rm acc (nw H2 I2)):=fun b o z=>by
     obtain⟨z1,z2⟩:=zz1 z
     obtain⟨z3,z4⟩:=zw9 z2
     exact zg1 z1 (zai5 z3 (c2 _ _ z1 (s34 _ _ z4)))
    have new:Same (nw I H4) (rm acc (nw H2 I2)):=fun b o z=>by
     obtain⟨z3,z4⟩:=zw9 z
     have nb:b≠acc:=fun w=>by rw[w,hacc] at z3;cases z3
     exact zg1 nb (zai5 (s3.free z3) (c2 _ _ nb z4))
    rcases zf0 e1 with ⟨a1,a2⟩|⟨a1,rfl⟩
    ·rcases zf0 e2 with ⟨b1,b2⟩|⟨b1,_⟩
     ·exact (rp i r' xs' a2 b2).same up
     ·omega
    ·rcases zf0 e2 with ⟨b1,_⟩|⟨b1,rfl⟩
     ·omega
     ·exact R4.same new
   ·rcases zf0 e with ⟨b1,b2⟩|⟨b1,rfl⟩
    ·exact xp i xs' b2
    ·rw[b1,xl]
     exact⟨ri,xl1⟩
  ·rintro acc ys σ I facc s3 hacc ⟨t,rs,xss,rfl,rfl,rl,xl,rp,xp,nd⟩
   rw[zbp5,dl] at rl xl
   walk_at "wh"
   have left:Same (nw H2 I) (nw H I):=zbm8 s2
   exact q acc rs xss I (s2.trans s3) ⟨left _ _ (zai5 facc hacc),by walk_at "om",fun i r xs e1 e2=>(rp i r xs e1 e2).same (Same.rm left),nd⟩ ⟨xl,xp⟩
theorem zbh9:∀ {xs ys:List Int},xs.Nodup->(∀ x∈xs,x∈ys)->ys.length<=xs.length->∀ y∈ys,y∈xs
 | [],ys,_,_,hl,y,hy=>by
  have:ys=[]:=List.length_eq_zero_iff.mp (by simpa using hl)
  rw[this] at hy
  cases hy
 | x :: xs,ys,nd,hs,hl,y,hy=>by
  rw[zbu9] at nd
  have hx:=hs x (.head _)
  have ih:=zbh9 (xs:=xs) (ys:=ys.erase x) nd.2 (fun z hz=>(List.mem_erase_of_ne (fun (e:z=x)=>nd.1 (e▸hz))).mpr (hs z (.tail _ hz))) (by rw[List.length_erase_of_mem hx];rw[zbq5] at hl;omega)
  by_cases e:y=x
  ·rw[e];exact .head _
  ·exact .tail _ (ih y ((List.mem_erase_of_ne e).mpr hy))
theorem zu8 {za zb:List (Int×Int)}(h:eqDI (sumG za) (sumG zb)=true):(sumG za).length=(sumG zb).length/\∀ k,valG (sumG za) k=valG (sumG zb) k:=by
 obtain⟨na,ma⟩:=zh6 za
 obtain⟨nb,mb⟩:=zh6 zb
 unfold eqDI at h
 rw[zbr3,zbr0] at h
 obtain⟨hl,h⟩:=h
 have hl:(sumG za).length=(sumG zb).length:=by simpa using hl
 refine⟨hl,?_⟩
 have h1:∀ z∈sumG za,valG (sumG zb) z.1=some z.2:=fun z hz=>by
  have:=h z hz
  have e:valI (sumG zb) z.1=valG (sumG zb) z.1:=rfl
  rw[e] at this
  simpa using this
 have sub:∀ k,k∈(sumG za).map (·.1)->k∈(sumG zb).map (·.1):=fun k hk=>by
  obtain⟨z,hz,rfl⟩:=zbr5.mp hk
  by_cases e:z.1∈(sumG zb).map (·.1)
  ·exact e
  ·have:=h1 z hz
   rw[zr4 e] at this
   cases this
 have sup:∀ k,k∈(sumG zb).map (·.1)->k∈(sumG za).map (·.1):=fun k hk=>by
  exact zbh9 na (fun k hk=>sub k hk) (by rw[zbp5,zbp5];omega) k hk
 intro k
 by_cases e:k∈(sumG za).map (·.1)
 ·obtain⟨z,hz,rfl⟩:=zbr5.mp e
  rw[zan8 na hz,h1 z hz]
 ·rw[zr4 e,zr4 fun z=>e (sup k z)]
theorem zav5 (za zb:List (Int×Int)):eqDI (sumG za) (sumG zb)=eqDI (sumG zb) (sumG za):=by
 rw[zbu4]
 exact⟨fun h=>zak3 fun k=>((zu8 h).2 k).symm,fun h=>zak3 fun k=>((zu8 h).2 k).symm⟩
theorem zar8 {d e:PyData}(h:zm3 d e=true) (hd:0<(zb6 d).length):0<(zb6 e).length:=by
 unfold zm3 at h
 have l:=(zu8 h).1
 have l1:=zm5 ((rowF e).map fun z=>(z.1,z.2.2))
 rw[zbp5,show (rowF e).length=(zb6 e).length by unfold rowF;rw[zbp5]] at l1
 have l2:0<(sumG ((rowF d).map fun z=>(z.1 - z.2.1,z.2.2))).length:=by
  obtain⟨x,ex⟩:∃ x,(zb6 d)[0]?=some x:=⟨_,zbp6 hd⟩
  have:(triD x).1 - (triD x).2.1∈(sumG ((rowF d).map fun z=>(z.1 - z.2.1,z.2.2))).map (·.1):=(zh6 _).2 _ |>.mpr (by
   rw[zbt1]
   exact zbr5.mpr ⟨triD x,by unfold rowF;exact zbr5.mpr ⟨x,zbq0 ex,rfl⟩,rfl⟩)
  have:=List.length_pos_of_mem this
  rwa [zbp5] at this
 omega
@[irreducible] def zf2:Sp:=fun vs H Q _=>∃ (v:V) (d:PyData),vs=[v]/\ShV H v d/\Q (.bl (isW d)) H
theorem zar9 {H:Hp}{v:V}{d:PyData}{Q:VK}{E:XK}(h:ShV H v d) (q:Q (.bl (isW d)) H):zf2 [v] H Q E:=by unfold zf2;exact⟨v,d,rfl,h,q⟩
theorem zac4 {f:Addr}{fd:FuncData}(F:Fun K "_law_whole" "_law_whole" zi4 f fd) (N:Nm mg):FnOk P w K mg base CX0 1 f fd ["_law_thing"] zf2:=by
 refine F.ok zad3 (fun vs H Q E h=>by unfold zf2 at h;obtain⟨_,_,rfl,_⟩:=h;rfl) (fun cdv A outer s H vs Q E hr h=>?_)
 unfold zf2 at h
 obtain⟨v,d,rfl,h,q⟩:=h
 refine⟨_,(za8 (zc2 (zu2 (pB (zt6 (K:=K) rfl) N.isinstance_ zb5 (za0 (pq 0) (za0 (pTy N.int_ zbg2) za3))) (zt8 (peNot (pB (zt6 (K:=K) rfl) N.isinstance_ zb5 (za0 (pq 0) (za0 (pTy N.bool_ zaj4) za3)))))))),?_⟩
 refine zk2 h (.inl rfl) ?_
 cases h
 case int i=>
  refine br_T ?_
  refine zab4 ?_
  walk_at "wh"
  exact q
 case bl b=>
  refine br_T ?_
  refine zx8 ?_
  walk_at "wh"
  exact q
 all_goals (walk_at "wh";refine br_F ?_;walk_at "wh";exact q)
def zo2 (h:Int) (d:PyData):Bool:=zm4 d&&decide ((triD d).1<=h)
def zy2 (h:Int):PyData->Bool
 | .list ds=>ds.all (zo2 h)&&(incD ds&&decide (0<ds.length))
 | _=>false
theorem zbb2 {h:Int}{ds:List PyData}{d:PyData}(hd:d∈ds) (e:zo2 h d=false):zy2 h (.list ds)=false:=by
 have:ds.all (zo2 h)=false:=by
  cases z:ds.all (zo2 h)
  ·rfl
  ·rw[zbr0.mp z d hd] at e;cases e
 show (ds.all (zo2 h)&&_)=false
 rw[this];rfl
theorem inc_pw {ds:List PyData}:incD ds=true↔(ds.map keyD).Pairwise (fun x y=>ltP x y=true):=by
 unfold incD
 rw[zbr0]
 have gk:∀ i,i<ds.length->(ds.map keyD)[i]?=some (keyD (ds.getD i .none)):=fun i hi=>by rw[zbq2,zbq4,zbp6 hi];rfl
 constructor
 ·intro h
  have step:∀ (n i:Nat),i+n+1<ds.length->ltP (keyD (ds.getD i .none)) (keyD (ds.getD (i+n+1) .none))=true:=fun n=>by
   induction n with
   | zero=>intro i hi;exact h i (zbs1.mpr (by walk_at "om"))
   | succ n ih=>
    intro i hi
    have a:=zm8.mp (ih i (by walk_at "om"))
    have b:=zm8.mp (h (i+n+1) (zbs1.mpr (by walk_at "om")))
    exact zm8.mpr (by rw[show i+(n+1)+1=i+n+1+1 by walk_at "om"];omega)
  rw[zbu3]
  intro i j hi hj hij
  rw[zbp5] at hi hj
  have e1:=gk i hi
  have e2:=gk j hj
  rw[zbp6 (by rw[zbp5];exact hi)] at e1
  rw[zbp6 (by rw[zbp5];exact hj)] at e2
  rw[Option.some.inj e1,Option.some.inj e2]
  have:=step (j - i - 1) i (by walk_at "om")
  rwa [show i+(j - i - 1)+1=j by walk_at "om"] at this
 ·intro h i hi
  have hi:=zbs1.mp hi
  have e1:=gk i (by walk_at "om")
  have e2:=gk (i+1) (by walk_at "om")
  rw[zbp6 (by rw[zbp5];omega)] at e1 e2
  have:=zbu3.mp h i (i+1) (by rw[zbp5];omega) (by rw[zbp5];omega) (by walk_at "om")
  rw[Option.some.inj e1,Option.some.inj e2] at this
  exact this
theorem zaw4 {ks ls:List (Int×Int)}(pm:ls.Perm ks) (so:ls.Pairwise (fun x y=>ltP y x=false)):(decide (ks=ls)&&decide (ks.Nodup))=decide (ks.Pairwise (fun x y=>ltP x y=true)):=by
 rw[zbu4,zbr3,decide_eq_true_eq,decide_eq_true_eq,decide_eq_true_eq]
 constructor
 ·rintro⟨e,nd⟩
  rw[← e] at so
  exact (zai2 nd so).2
 ·intro h
  have nd:ks.Nodup:=h.imp fun {x y} z e=>by
   subst e
   have:=zm8.mp z
   omega
  exact⟨zz8 ⟨nd,h⟩ (zai2 (pm.nodup_iff.mpr nd) so) fun k=>pm.mem_iff.symm,nd⟩
theorem zas5 {ks ls:List (Int×Int)}(hl:ks.length=ls.length):((List.range ks.length).all fun j=>decide ((ks.getD j (0,0)).1=(ls.getD j (0,0)).1/\(ks.getD j (0,0)).2=(ls.getD j (0,0)).2))=decide (ks=ls):=by
 rw[zbu4,zbr0,decide_eq_true_eq]
 constructor
 ·intro h
  apply zbv2 hl
  intro i h1 h2
  have:=of_decide_eq_true (h i (zbs1.mpr h1))
  rw[zbq4,zbq4,zbp6 h1,zbp6 h2] at this
  exact Prod.ext this.1 this.2
 ·rintro rfl i _
  exact decide_eq_true ⟨rfl,rfl⟩
@[irreducible] def ze3:Sp:=fun vs H Q _=>∃ (v:V) (d:PyData) (h:Int),vs=[v,.int h]/\ShV H v d/\(zb6 d).length<=18/\∀ H',Same H H'->Q (.bl (zy2 h d)) H'
theorem zbb8 {H:Hp}{v:V}{d:PyData}{h:Int}{Q:VK}{E:XK}(hv:ShV H v d) (hs:(zb6 d).length<=18) (q:∀ H',Same H H'->Q (.bl (zy2 h d)) H'):ze3 [v,.int h] H Q E:=by unfold ze3;exact⟨v,d,h,rfl,hv,hs,q⟩
set_option maxHeartbeats 0 in
theorem zz0 {f:Addr}{fd:FuncData}(F:Fun K "_law_is_row" "_law_is_row" zh1 f fd) (N:Nm mg) (zbo1:Def P w K mg base CX0 1 "_law_whole" ["_law_thing"] zf2):FnOk P w K mg base CX0 2 f fd ["_law_row","_law_hosts"] ze3:=by
 refine F.ok zm7 (fun vs H Q E h=>by unfold ze3 at h;obtain⟨_,_,_,rfl,_⟩:=h;rfl) (fun cdv A outer s H vs Q E hr h=>?_)
 unfold ze3 at h
 obtain⟨v,d,hh,rfl,h,hs,q⟩:=h
 have hu:=hu40 hr
 refine⟨_,(za4 (psIf (ptW (pwOr (zm9 (ptV (pB (zt6 (K:=K) rfl) N.isinstance_ zb5 (za0 (pq 0) (za0 (pTy N.list_ zm6) za3))))) (zs4 (ptC (zn2 (K:=K) rfl (by exact hu)) (pB (zo1 (K:=K) rfl) N.len_ zi6 (za0 (pq 0) za3)) za2)))) (za8 (zc2 zt1)) zf1)
   (za4 (zu5 PassesOwn.never rfl (zi7 (K:=K) rfl (pq 0)) (za9 (i:=2) zm7.nd rfl (by first|exact Or.inl rfl|exact Or.inr rfl)) (za4 (psIf (ptW (pwOr (zm9 (ptV (pB (zt6 (K:=K) rfl) N.isinstance_ zb5 (za0 (pq 2) (za0 (pTy N.tuple_ zu9) za3))))) (pwOr (ptC (zac5 (K:=K) rfl (by exact hu)) (pB (zo1 (K:=K) rfl) N.len_ zi6 (za0 (pq 2) za3)) za2) (zs4 (ptC oGt (pB (zo1 (K:=K) rfl) N.len_ zi6 (za0 (zo4 (N:=["_law_one"]) (ks:=[none]) (zi7 (K:=K) rfl (pq 2)) (fun cl C s3 H3 fp=>(za9 (i:=0) nb_10 rfl (by first|exact Or.inl rfl|exact Or.inr rfl))) (fun cl C s3 H3 fp=>(zbj5 (zm9 (ptV (pD zbo1 hr zd5 (za0 (pq 0) za3)))))) (fun cl C s3 H3 fp=>(pq 0)) (.skip .nil)) za3)) za2))))) (za8 (zc2 zt1)) zf1)
   (za8 (psIf (ptW (pwOr (ptC (oLtX (by exact hu)) (zd1 (K:=K) rfl (pq 2) za2) za2) (pwOr (ptC oGt (zd1 (K:=K) rfl (pq 2) za2) (zd1 (K:=K) rfl (pq 2) za2)) (pwOr (ptC oGt (zd1 (K:=K) rfl (pq 2) za2) (pq 1)) (zs4 (ptC (oLtX (by exact hu)) (zd1 (K:=K) rfl (pq 2) za2) za2)))))) (za8 (zc2 zt1)) zf1))))
   (za4 (psC (i:=3) (N:=["_law_part"]) (ks:=[none]) zm7.nd (zi7 (K:=K) rfl (pq 0)) (fun cl C s3 H3 fp=>(za9 (i:=0) nb_11 rfl (by first|exact Or.inl rfl|exact Or.inr rfl))) (fun cl C s3 H3 fp=>zj3) (fun cl C s3 H3 fp=>(zb4 (slXK (K:=K) rfl) (pq 0) zd2 (ze1 za2))) (.skip .nil))
   (za8 (zc2 (zu2 (peC (zn2 (K:=K) rfl (by exact hu)) (pq 3) (pB (zas7 (K:=K) rfl rfl) N.sorted_ zs0 (za0 (pq 3) za3))) (zt8 (peC (zn2 (K:=K) rfl (by exact hu)) (pB (zo1 (K:=K) rfl) N.len_ zi6 (za0 (pq 3) za3)) (peLenS (K:=K) rfl (by exact hu) N.len_ N.set_ (za0 (pq 3) za3)))))))))),?_⟩
 refine zk2 h (.inr (.inr (.inl rfl))) ?_
 cases h
 case lst a xs ds e l=>
  have ll:=l.len
  have dl:ds.length<=18:=hs
  refine zc9 (br_T ?_)
  refine zg3 e ?_
  rw[ll]
  refine zd3 (fun z=>?_) (fun z=>?_)
  ·walk_at "wh"
   have q:=q _ (Same.refl _)
   rw[show zy2 hh (.list ds)=false by
    show (ds.all (zo2 hh)&&(incD ds&&decide (0<ds.length)))=false
    rw[decide_eq_false (show ¬ 0<ds.length by walk_at "om"),Bool.and_false,Bool.and_false]] at q
   exact q
  have d0:0<ds.length:=by walk_at "om"
  refine zd6 e ?_
  refine zk5 (xs:=xs) (fun j σ I=>∃ t u:Option V,σ=[some (.ref a),some (.int hh),t,u]/\Same H I/\∀ d∈ds.take j,zo2 hh d=true) ?_ ?_ ?_ ?_
  ·exact⟨_,_,rfl,Same.refl _,fun d hd=>by simp at hd⟩
  ·rintro j σ I _ ⟨_,_,_,sI,_⟩
   exact SqL.of (sI _ _ e)
  ·rintro j x σ I hj ⟨t,u,rfl,sI,ok⟩
   obtain⟨dj,ed,hd0⟩:=l.get j x hj
   have hd:=hd0.same sI
   have hm:=zbq0 ed
   have bad:zo2 hh dj=false->∀ I',Same I I'->Q (.bl false) I':=fun z I' s'=>by
    have q:=q I' (sI.trans s')
    rw[zbb2 hm z] at q
    exact q
   have badF:zm4 dj=false->∀ I',Same I I'->Q (.bl false) I':=fun z=>bad (by unfold zo2;rw[z];rfl)
   have good:zo2 hh dj=true->∀ d∈ds.take (j+1),zo2 hh d=true:=fun z d hd=>by
    rw[List.take_succ,ed] at hd
    rcases zbr2.mp hd with hd|hd
    ·exact ok d hd
    ·have:d=dj:=by simpa using hd
     rw[this];exact z
   refine zk2 hd (.inr (.inr (.inr rfl))) ?_
   cases hd
   case tup t' ys es et lt=>
    have ltl:=lt.len
    refine zc9 (br_T ?_)
    refine zai6 et ?_
    refine zc9 (zd3 (fun h3=>?_) (fun h3=>?_))
    rotate_left
    ·walk_at "wh"
     refine br_T ?_
     walk_at "wh"
     exact badF (zab5 (by walk_at "om")) _ (Same.refl _)
    obtain⟨y1,y2,y3,a1,a2,a3,rfl,rfl,ha1,ha2,ha3⟩:=zx4 lt (by walk_at "om")
    refine zbe2 et ?_
    refine zy6 (Wk.tup et) (by rw[sizeLine_eq];simp only[zbq5,zbr1];decide) (fun i=>[y1,y2,y3].getD i .non) (fun i=>!isW ([a1,a2,a3].getD i .none)) (fun j σ=>∃ t:Option V,σ=[t]) ⟨none,rfl⟩ ?_ ?_
    ·rintro i y σ I1 R S hi s2 hy ⟨_,rfl⟩ kk kf
     have hyd:ShV I1 y ([a1,a2,a3].getD i .none)/\[y1,y2,y3].getD i .non=y:=by
      match i with
      | 0=>cases hy;exact⟨ha1.same s2,rfl⟩
      | 1=>cases hy;exact⟨ha2.same s2,rfl⟩
      | 2=>cases hy;exact⟨ha3.same s2,rfl⟩
      | i+3=>simp at hy
     refine zar9 hyd.1 ?_
     cases ew:isW ([a1,a2,a3].getD i .none)
     ·walk_at "wh"
      refine br_T ?_
      walk_at "wh"
      have:=kk (by rw[ew];rfl) [some y] I1 (Same.refl _) ⟨_,rfl⟩
      rw[hyd.2] at this
      exact this
     ·walk_at "wh"
      refine br_F ?_
      walk_at "wh"
      exact kf (by rw[ew];rfl) _ _ (Same.refl _) ⟨_,rfl⟩
    intro ac2 I2 f2 s2 h2
    have et2:=s2 _ _ et
    refine zg3 h2 ?_
    have cnt:(decide ((0:Int)<((((List.range [y1,y2,y3].length).filter fun i=>!isW ([a1,a2,a3].getD i .none)).map fun i=>[y1,y2,y3].getD i .non).length:Nat)))=!([isW a1,isW a2,isW a3].all id):=by
     show decide ((0:Int)<((((List.range 3).filter fun i=>!isW ([a1,a2,a3].getD i .none)).map fun i=>[y1,y2,y3].getD i .non).length:Nat))=_
     rw[zbp5]
     show decide ((0:Int)<((([0,1,2]:List Nat).filter fun i=>!isW ([a1,a2,a3].getD i .none)).length:Nat))=_
     have f0:[a1,a2,a3].getD 0 .none=a1:=rfl
     have f1:[a1,a2,a3].getD 1 .none=a2:=rfl
     have f2:[a1,a2,a3].getD 2 .none=a3:=rfl
     rw[zbv7,zbv7,zbv7,List.filter_nil,f0,f1,f2]
     cases isW a1<;>cases isW a2<;>cases isW a3<;>rfl
    walk_at "wh"
    rw[cnt]
    cases ew:[isW a1,isW a2,isW a3].all id
    ·first|refine br_T ?_|refine zc9 (br_F ?_)
     walk_at "wh"
     refine badF ?_ _ s2
     show (zo3 0 a1&&zu1 0 (intD a1) a2&&zo3 1 a3)=false
     cases e1:isW a1
     ·have:zo3 0 a1=false:=by cases a1<;>first|rfl|(cases e1)
      rw[this];rfl
     cases e2:isW a2
     ·have:zu1 0 (intD a1) a2=false:=by cases a2<;>first|rfl|(cases e2)
      rw[this,Bool.and_false];rfl
     cases e3:isW a3
     ·have:zo3 1 a3=false:=by cases a3<;>first|rfl|(cases e3)
      rw[this,Bool.and_false]
     rw[e1,e2,e3] at ew;cases ew
    simp only[List.all_cons,List.all_nil,id,Bool.and_true,zbr3] at ew
    obtain⟨w1,w2,w3⟩:=ew
    obtain⟨i1,rfl⟩:∃ i,a1=.int i:=by cases a1<;>first|exact⟨_,rfl⟩|(cases w1)
    obtain⟨i2,rfl⟩:∃ i,a2=.int i:=by cases a2<;>first|exact⟨_,rfl⟩|(cases w2)
    obtain⟨i3,rfl⟩:∃ i,a3=.int i:=by cases a3<;>first|exact⟨_,rfl⟩|(cases w3)
    cases ha1
    cases ha2
    cases ha3
    have fl:zo2 hh (.tuple [.int i1,.int i2,.int i3])=decide (0<=i2/\i2<=i1/\i1<=hh/\1<=i3):=by
     show (decide (0<=i1)&&decide (0<=i2/\i2<=i1)&&decide (1<=i3)&&decide (i1<=hh))=_
     rw[zbu4]
     simp only[zbr3,decide_eq_true_eq]
     omega
    first|refine br_F ?_|refine zc9 (br_T ?_)
    refine zh4 (v:=.int i2) et2 rfl ?_
    refine zd3 (fun g1=>?_) (fun g1=>?_)
    ·walk_at "wh"
     refine br_T ?_
     walk_at "wh"
     refine bad (by rw[fl];exact decide_eq_false (by walk_at "om")) _ s2
    refine zh4 (v:=.int i2) et2 rfl ?_
    refine zh4 (v:=.int i1) et2 rfl ?_
    refine zd3 (fun g2=>?_) (fun g2=>?_)
    ·walk_at "wh"
     refine br_T ?_
     walk_at "wh"
     refine bad (by rw[fl];exact decide_eq_false (by walk_at "om")) _ s2
    refine zh4 (v:=.int i1) et2 rfl ?_
    refine zd3 (fun g4=>?_) (fun g4=>?_)
    ·walk_at "wh"
     refine br_T ?_
     walk_at "wh"
     refine bad (by rw[fl];exact decide_eq_false (by walk_at "om")) _ s2
    refine zh4 (v:=.int i3) et2 rfl ?_
    refine zd3 (fun g3=>?_) (fun g3=>?_)
    ·walk_at "wh"
     refine bad (by rw[fl];exact decide_eq_false (by walk_at "om")) _ s2
    walk_at "wh"
    exact⟨_,_,rfl,sI.trans s2,good (by rw[fl];exact decide_eq_true (by walk_at "om"))⟩
   all_goals (walk_at "wh";refine zc9 (br_F ?_);walk_at "wh";refine br_T ?_;walk_at "wh";exact badF rfl _ (Same.refl _))
  ·rintro σ I ⟨t,u,rfl,sI,ok⟩
   rw[ll,zbx0] at ok
   have eI:=sI _ _ e
   have tup:∀ (i:Nat) x,xs[i]?=some x->∃ (t1:Addr) (j1 w1:Int),x=.ref t1/\H t1=some (.tup [.int (keyD (ds.getD i .none)).1,.int j1,.int w1])/\j1=(keyD (ds.getD i .none)).2:=fun i x ex=>by
    obtain⟨d1,ed1,hd1⟩:=l.get i x ex
    have f1:=ok d1 (zbq0 ed1)
    unfold zo2 at f1
    rw[zbr3] at f1
    obtain⟨t1,i1,j1,w1,rfl,ht1,rfl,_⟩:=zaa8 hd1 f1.1
    rw[getD_some ed1]
    exact⟨t1,j1,w1,rfl,ht1,rfl⟩
   refine zd6 eI ?_
   refine zaf7 (n:=xs.length) (Wk.list (SqL.of eI)) (by rw[sizeLine_eq];omega) (fun i=>.tup [.int (keyD (ds.getD i .none)).1,.int (keyD (ds.getD i .none)).2]) (fun j σ=>∃ t:Option V,σ=[t]) ⟨none,rfl⟩ ?_ ?_
   ·rintro i x σ I1 R S hi s2 hx ⟨_,rfl⟩ kk
    obtain⟨t1,j1,w1,rfl,ht1,rfl⟩:=tup i x hx
    refine br_T ?_
    refine zat5 ((sI.trans s2) _ _ ht1) (fun p4 H4 f4 s4 h4=>?_)
    walk_at "wh"
    exact kk _ p4 H4 f4 s4 h4 ⟨_,rfl⟩
   intro sp bs I2 FL
   have bl:=FL.len
   have kl:(ds.map keyD).length=bs.length:=by rw[zbp5,bl,ll]
   have pr:Paired (fun b x=>I2 b=some (.tup [.int x.1,.int x.2])) bs (ds.map keyD):=zs5 kl.symm fun i b x e1 e2=>by
    obtain⟨_,z⟩:=FL.row i b e1
    rw[zbq2] at e2
    obtain⟨d1,ed1,rfl⟩:=zbq7.mp e2
    rw[getD_some ed1] at z
    exact z
   have s02:=sI.trans FL.same
   refine soL_rd FL.out (by walk_at "om") pr (fun so I3 cs ls f3 s3 pm so_ pr3 h3=>?_)
   have ql:=q
   have cl:cs.length=ls.length:=pr3.length
   have lk:ls.length=(ds.map keyD).length:=pm.length_eq
   refine zaz1 (EqR.lst (n:=1) (fun j=>decide (((ds.map keyD).getD j (0,0)).1=(ls.getD j (0,0)).1/\((ds.map keyD).getD j (0,0)).2=(ls.getD j (0,0)).2)) (SqL.of (s3 _ _ FL.out)) (SqL.of h3) (by rw[zbp5,zbp5];omega) (fun j x y hx hy=>?_)) ?_
   ·rw[zbq2] at hx hy
    obtain⟨b,eb,rfl⟩:=zbq7.mp hx
    obtain⟨c,ec,rfl⟩:=zbq7.mp hy
    obtain⟨k1,ek1⟩:∃ k,(ds.map keyD)[j]?=some k:=⟨_,zbp6 (by have:=(zbp8.mp eb).1;omega)⟩
    obtain⟨k2,ek2⟩:∃ k,ls[j]?=some k:=⟨_,zbp6 (by have:=(zbp8.mp ec).1;omega)⟩
    rw[zbq4,zbq4,ek1,ek2]
    exact EqR.ints2 (s3 _ _ (zn5 pr j b k1 eb ek1)) (zn5 pr3 j c k2 ec ek2)
   rw[zbp5,← kl,zas5 lk.symm]
   have fin:zy2 hh (.list ds)=(decide (ds.map keyD=ls)&&decide ((ds.map keyD).Nodup)):=by
    show (ds.all (zo2 hh)&&(incD ds&&decide (0<ds.length)))=_
    rw[zbr0.mpr ok,decide_eq_true d0,zbu2,Bool.and_true,zaw4 pm so_,zbu4,decide_eq_true_eq]
    exact inc_pw
   have q:=q I3 (s02.trans s3)
   rw[fin] at q
   cases ec:decide (ds.map keyD=ls)
   ·rw[ec] at q
    refine br_F ?_
    walk_at "wh"
    exact q
   ·rw[ec] at q
    refine br_T ?_
    refine zg3 (s3 _ _ FL.out) ?_
    rw[zbp5,← kl]
    refine zbk6 (s3 _ _ FL.out) kl.symm (by rw[zbp5];omega) (fun i p k e1 e2=>s3 _ _ (zn5 pr i p k e1 e2)) ?_
    walk_at "wh"
    have e5:decide (((ds.map keyD).length:Int)=((ddK [] ((ds.map keyD).map zx6)).length:Int))=decide ((ds.map keyD).Nodup):=by
     rw[zbu4,decide_eq_true_eq,decide_eq_true_eq]
     exact dd_len
    rw[e5]
    exact q
 all_goals (walk_at "wh";refine zc9 (br_F ?_);walk_at "wh";refine br_T ?_;walk_at "wh";exact q _ (Same.refl _))
theorem zv2 {h:Int}{d:PyData}(e:zy2 h d=true):∃ ds,d=.list ds/\0<ds.length/\rowD d=true/\∀ z∈rowF d,z.1<=h:=by
 cases d with
 | list ds=>
  have e:(ds.all (zo2 h)&&(incD ds&&decide (0<ds.length)))=true:=e
  rw[zbr3,zbr3,decide_eq_true_eq,zbr0] at e
  obtain⟨e1,e2,e3⟩:=e
  have f1:∀ x∈ds,zm4 x=true/\(triD x).1<=h:=fun x hx=>by
   have:=e1 x hx
   unfold zo2 at this
   rw[zbr3,decide_eq_true_eq] at this
   exact this
  refine⟨ds,rfl,e3,?_,fun z hz=>?_⟩
  ·show (ds.all zm4&&incD ds)=true
   rw[zbr0.mpr fun x hx=>(f1 x hx).1,e2];rfl
  ·obtain⟨x,hx,rfl⟩:=zbr5.mp (show z∈ds.map triD from hz)
   exact (f1 x hx).2
 | _=>cases (show false=true from e)
theorem zbe6 {h:Int}{ds:List PyData}(h0:0<ds.length) (hr:rowD (.list ds)=true) (hb:∀ z∈rowF (.list ds),z.1<=h):zy2 h (.list ds)=true:=by
 have hr:(ds.all zm4&&incD ds)=true:=hr
 rw[zbr3] at hr
 show (ds.all (zo2 h)&&(incD ds&&decide (0<ds.length)))=true
 rw[hr.2,decide_eq_true h0,Bool.and_self,Bool.and_true,zbr0]
 intro x hx
 unfold zo2
 rw[zbr0.mp hr.1 x hx,zbu2]
 exact decide_eq_true (hb _ (zbr5.mpr ⟨x,hx,rfl⟩))
def gonP (d:PyData):List (Int×Int):=(rowF d).map fun z=>(z.1 - z.2.1,z.2.2)
def comP (d:PyData):List (Int×Int):=(rowF d).map fun z=>(z.1,z.2.2)
theorem zn1 {h f:Int}{ds:List PyData}(e:zf8 h f (.list ds)=true):0<ds.length/\(ds.length:Int)=f/\(∀ i,i<ds.length->zy2 h (ds.getD i .none)=true)/\zu0 h (ds.getD 0 .none)=true/\zad6 (ds.getD (ds.length - 1) .none)=true/\∀ i,i+1<ds.length->zm3 (ds.getD i .none) (ds.getD (i+1) .none)=true:=by
 unfold zf8 at e
 simp only[zbr3] at e
 obtain⟨eb,el,ea,ef,eg,em⟩:=e
 have el:(ds.length:Int)=f:=of_decide_eq_true el
 have ea:ds.all rowD=true:=ea
 have ea:=zbr0.mp ea
 have em:zn6 ds=true:=em
 unfold zn6 at em
 have em:=zbr0.mp em
 have eb:(decide (0<ds.length)&&rowD (ds.getD 0 .none)&&decide (0<(zb6 (ds.getD 0 .none)).length))=true:=eb
 rw[zbr3,zbr3,decide_eq_true_eq,decide_eq_true_eq] at eb
 have ef:zu0 h (ds.getD 0 .none)=true:=ef
 have mem:∀ i,i<ds.length->ds.getD i .none∈ds:=fun i hi=>by rw[zbq4,zbp6 hi];exact List.getElem_mem _
 have key:∀ i,i<ds.length->0<(zb6 (ds.getD i .none)).length/\∀ z∈rowF (ds.getD i .none),z.1<=h:=fun i=>by
  induction i with
  | zero=>
   refine fun _=>⟨eb.2,fun z hz=>?_⟩
   have:=of_decide_eq_true (zbr0.mp ef z hz)
   omega
  | succ i ih=>
   intro hi
   obtain⟨i1,i2⟩:=ih (by walk_at "om")
   have mt:=em i (zbs1.mpr (by walk_at "om"))
   refine⟨zar8 mt i1,fun z hz=>?_⟩
   unfold zm3 at mt
   have hv:=(zu8 mt).2 z.1
   have hk:z.1∈((rowF (ds.getD (i+1) .none)).map fun z=>(z.1,z.2.2)).map (·.1):=zbr5.mpr ⟨(z.1,z.2.2),zbr5.mpr ⟨z,hz,rfl⟩,rfl⟩
   rw[zr0,zr0,if_pos hk] at hv
   by_cases c:z.1∈((rowF (ds.getD i .none)).map fun z=>(z.1 - z.2.1,z.2.2)).map (·.1)
   ·obtain⟨y,hy,ey⟩:=zbr5.mp c
    obtain⟨w,hw,rfl⟩:=zbr5.mp hy
    have h1:=i2 w hw
    have r1:=ea _ (mem i (by walk_at "om"))
    have w2:0<=w.2.1:=by
     obtain⟨x,hx,rfl⟩:=zbr5.mp (show w∈(zb6 (ds.getD i .none)).map triD from hw)
     have fx:zm4 x=true:=by
      cases ez:ds.getD i .none with
      | list es=>
       rw[ez] at r1 hx
       have r1:(es.all zm4&&incD es)=true:=r1
       rw[zbr3] at r1
       exact zbr0.mp r1.1 x hx
      | _=>rw[ez] at r1;cases (show false=true from r1)
     cases x with
     | tuple l=>
      match l,fx with
      | [a,b,c],fx=>
       have fx:(zo3 0 a&&zu1 0 (intD a) b&&zo3 1 c)=true:=fx
       rw[zbr3,zbr3] at fx
       obtain⟨j,rfl,hj,_⟩:=zad5 fx.1.2
       exact hj
      | [],fx=>cases (show false=true from fx)
      | [_],fx=>cases (show false=true from fx)
      | [_,_],fx=>cases (show false=true from fx)
      | _ :: _ :: _ :: _ :: _,fx=>cases (show false=true from fx)
     | _=>cases (show false=true from fx)
    have ey:w.1 - w.2.1=z.1:=ey
    omega
   ·rw[if_neg c] at hv
    cases hv
 refine⟨eb.1.1,el,fun i hi=>?_,ef,eg,fun i hi=>em i (zbs1.mpr (by walk_at "om"))⟩
 obtain⟨k1,k2⟩:=key i hi
 have r1:=ea _ (mem i hi)
 cases ez:ds.getD i .none with
 | list es=>rw[ez] at k1 k2 r1;exact zbe6 k1 r1 k2
 | _=>rw[ez] at r1;cases (show false=true from r1)
theorem zaz8 {h f:Int}{ds:List PyData}(h0:0<ds.length) (hl:(ds.length:Int)=f) (hr:∀ i,i<ds.length->zy2 h (ds.getD i .none)=true) (hf:zu0 h (ds.getD 0 .none)=true) (hm:∀ i,i+1<ds.length->zm3 (ds.getD i .none) (ds.getD (i+1) .none)=true):zf8 h f (.list ds)=zad6 (ds.getD (ds.length - 1) .none):=by
 have rd:∀ i,i<ds.length->rowD (ds.getD i .none)=true/\0<(zb6 (ds.getD i .none)).length:=fun i hi=>by
  obtain⟨es,e1,e2,e3,_⟩:=zv2 (hr i hi)
  rw[e1] at e3 ⊢
  exact⟨e3,e2⟩
 have a1:zr1 (.list ds)=true:=by
  show (decide (0<ds.length)&&rowD (ds.getD 0 .none)&&decide (0<(zb6 (ds.getD 0 .none)).length))=true
  rw[decide_eq_true h0,(rd 0 h0).1,decide_eq_true (rd 0 h0).2];rfl
 have a2:(zb6 (.list ds)).all rowD=true:=zbr0.mpr fun x hx=>by
  obtain⟨i,ei⟩:=zbs8 (show x∈ds from hx)
  have:=(rd i (zbp8.mp ei).1).1
  rwa [getD_some ei] at this
 have a3:zn6 ds=true:=zbr0.mpr fun i hi=>hm i (by have:=zbs1.mp hi;omega)
 unfold zf8
 rw[a1,a2,show decide (((zb6 (.list ds)).length:Int)=f)=true from decide_eq_true hl,show zu0 h ((zb6 (.list ds)).getD 0 .none)=true from hf,show zn6 (zb6 (.list ds))=true from a3,zbu2,zbu2,zbu2,zbu2,Bool.and_true]
 rfl
theorem zal8 {zs:List (Int×Int)}{ms:List Int}{h:Int}(pm:ms.Perm ((sumG zs).map (·.1))) (h0:zs≠[]):decide (ms=[h])=zs.all fun z=>decide (z.1=h):=by
 obtain⟨nd,mk⟩:=zh6 zs
 rw[zbu4,decide_eq_true_eq,zbr0]
 constructor
 ·intro e z hz
  have:z.1∈ms:=pm.mem_iff.mpr ((mk z.1).mpr (zbr5.mpr ⟨z,hz,rfl⟩))
  rw[e] at this
  exact decide_eq_true (zbu5.mp this)
 ·intro a
  have all:∀ k∈ms,k=h:=fun k hk=>by
   obtain⟨z,hz,rfl⟩:=zbr5.mp ((mk k).mp (pm.mem_iff.mp hk))
   exact of_decide_eq_true (a z hz)
  have nd':=pm.nodup_iff.mpr nd
  cases ms with
  | nil=>
   obtain⟨z,hz⟩:=List.exists_mem_of_ne_nil zs h0
   have:=pm.mem_iff.mpr ((mk z.1).mpr (zbr5.mpr ⟨z,hz,rfl⟩))
   cases this
  | cons x xs=>
   have ex:=all x (.head _)
   cases xs with
   | nil=>rw[ex]
   | cons y ys=>
    have ey:=all y (.tail _ (.head _))
    have:=(zbu9.mp nd').1
    rw[ex,ey] at this
    exact absurd (.head _) this
@[irreducible] def zc7:Sp:=fun vs H Q _=>∃ (v:V) (d:PyData) (h:Int) (f:Nat),vs=[.int h,.int f,v]/\ShV H v d/\(1<=f/\f<=100)/\(∀ x∈zb6 d,(zb6 x).length<=18)/\∀ H',Same H H'->Q (.bl (zf8 h f d)) H'
theorem zam7 {H:Hp}{v:V}{d:PyData}{h:Int}{f:Nat}{Q:VK}{E:XK}(hv:ShV H v d) (h1:1<=f) (h2:f<=100) (hs:∀ x∈zb6 d,(zb6 x).length<=18) (q:∀ H',Same H H'->Q (.bl (zf8 h f d)) H'):zc7 [.int h,.int f,v] H Q E:=by unfold zc7;exact⟨v,d,h,f,rfl,hv,⟨h1,h2⟩,hs,q⟩
set_option maxHeartbeats 0 in
theorem zs6 {f:Addr}{fd:FuncData}(F:Fun K "_law_is_stream" "_law_is_stream" zd9 f fd) (N:Nm mg) (zbn8:Def P w K mg base CX0 2 "_law_is_row" ["_law_row","_law_hosts"] ze3):FnOk P w K mg base CX0 3 f fd ["_law_hosts","_law_many","_law_stream"] zc7:=by
 refine F.ok zb3 (fun vs H Q E h=>by unfold zc7 at h;obtain⟨_,_,_,_,rfl,_⟩:=h;rfl) (fun cdv A outer s H vs Q E hr h=>?_)
 unfold zc7 at h
 obtain⟨v,d,hh,f,rfl,h,⟨f1,f2⟩,hs,q⟩:=h
 have hu:=hu40 hr
 refine⟨_,(za4 (psIf (ptW (pwOr (zm9 (ptV (pB (zt6 (K:=K) rfl) N.isinstance_ zb5 (za0 (pq 2) (za0 (pTy N.list_ zm6) za3))))) (zs4 (ptC (zac5 (K:=K) rfl (by exact hu)) (pB (zo1 (K:=K) rfl) N.len_ zi6 (za0 (pq 2) za3)) (pq 1))))) (za8 (zc2 zt1)) zf1)
   (za4 (psS (i:=3) zb3.nd zy7)
   (za4 (zu5 PassesOwn.never rfl (zae0 N.range_ (za0 (pq 1) za3)) (za9 (i:=4) zb3.nd rfl (by first|exact Or.inl rfl|exact Or.inr rfl)) (za4 (psIf (zm9 (ptV (pD zbn8 hr zd5 (za0 (zd1 (K:=K) rfl (pq 2) (pq 4)) (za0 (pq 0) za3))))) (za8 (zc2 zt1)) zf1)
   (za4 (psS (i:=5) zb3.nd zy7)
   (za4 (psS (i:=6) zb3.nd zy7)
   (za4 (zu5 PassesOwn.never rfl (zi7 (K:=K) rfl (zd1 (K:=K) rfl (pq 2) (pq 4))) (zo9 (K:=K) (n:=3) rfl rfl (zc6 (za9 (i:=7) zb3.nd rfl (by first|exact Or.inl rfl|exact Or.inr rfl)) (zc6 (za9 (i:=8) zb3.nd rfl (by first|exact Or.inl rfl|exact Or.inr rfl)) (zc6 (za9 (i:=9) zb3.nd rfl (by first|exact Or.inl rfl|exact Or.inr rfl)) zo5)))) (za4 (zao0 (by exact hu) (pq 5) (pq 7) (zc1 oAdd (zv3 (by exact hu) (pq 5) (pq 7) za2) (pq 9)))
   (za8 (zao0 (by exact hu) (pq 6) (zc1 oSub (pq 7) (pq 8)) (zc1 oAdd (zv3 (by exact hu) (pq 6) (zc1 oSub (pq 7) (pq 8)) za2) (pq 9))))))
   (za4 (psIf (ptW (pwOr (ptW (pwAnd (ptC (zn2 (K:=K) rfl (by exact hu)) (pq 4) za2) (zad4 (ptC (zac5 (K:=K) rfl (by exact hu)) (pB (zas7 (K:=K) rfl rfl) N.sorted_ zs0 (za0 (pq 5) za3)) (zp0 (za0 (pq 0) za3)))))) (zs4 (ptW (pwAnd (ptC oGt (pq 4) za2) (zad4 (ptC (zac5 (K:=K) rfl (by exact hu)) (pq 5) (pq 3)))))))) (za8 (zc2 zt1)) zf1)
   (za8 (psS (i:=3) zb3.nd (pq 6)))))))))
   (za8 (zc2 (peC (zn2 (K:=K) rfl (by exact hu)) (pB (zas7 (K:=K) rfl rfl) N.sorted_ zs0 (za0 (pq 3) za3)) (zp0 (za0 za2 za3)))))))),?_⟩
 refine zk2 h (.inr (.inr (.inl rfl))) ?_
 cases h
 case lst a xs ds e l=>
  have ll:=l.len
  refine zc9 (br_T ?_)
  refine zg3 e ?_
  rw[ll]
  refine zc9 (zd3 (fun z=>?_) (fun z=>?_))
  rotate_left
  ·walk_at "wh"
   have q:=q _ (Same.refl _)
   rw[show zf8 hh f (.list ds)=false by
    cases es:zf8 hh f (.list ds)
    ·rfl
    ·exact absurd (zn1 es).2.1 z] at q
   exact q
  have zf:ds.length=f:=by walk_at "om"
  refine zan1 (fun c0 H1 g1 s1 h1=>?_)
  refine zr3 (by decide) (by decide) (by walk_at "om") (by walk_at "om") ?_
  rw[show ((f:Int) - 0).toNat=f by walk_at "om"]
  refine zn4 (fun k σ I=>∃ (y5 y6 y7 y8 y9 y10:Option V) (co:Addr),σ=[some (.int hh),some (.int f),some (.ref a),some (.ref co),y5,y6,y7,y8,y9,y10]/\Same H I/\(0<k->I co=some (.dK (dF Sum.inl (sumG (gonP (ds.getD (k - 1) .none))))))/\(∀ i,i<k->zy2 hh (ds.getD i .none)=true)/\(0<k->zu0 hh (ds.getD 0 .none)=true)/\∀ i,i+1<k->zm3 (ds.getD i .none) (ds.getD (i+1) .none)=true) ?_ ?_ ?_
  ·exact⟨_,_,_,_,_,_,c0,rfl,s1,fun h=>absurd h (by walk_at "om"),fun i hi=>absurd hi (by walk_at "om"),fun h=>absurd h (by walk_at "om"),fun i hi=>absurd hi (by walk_at "om")⟩
  ·rintro k σ I hk ⟨y5,y6,y7,y8,y9,y10,co,rfl,sI,hco,hrow,hful,hmt⟩
   have hk:k<f:=hk
   rw[Int.zero_add]
   obtain⟨x,ex⟩:∃ x,xs[k]?=some x:=⟨_,zbp6 (by walk_at "om")⟩
   obtain⟨dk,edk,hdk⟩:=l.get k x ex
   have gk:ds.getD k .none=dk:=getD_some edk
   have atk:atI xs (k:Int)=some x:=zm2 ex
   have bad:∀ {I'},Same I I'->zf8 hh f (.list ds)=false->Q (.bl false) I':=fun {I'} s' z=>by
    have q:=q I' (sI.trans s')
    rw[z] at q
    exact q
   refine zd4 (v:=x) (sI _ _ e) atk ?_
   refine zbb8 (hdk.same sI) (hs dk (zbq0 edk)) (fun I1 s1'=>?_)
   cases er:zy2 hh dk
   ·walk_at "wh"
    refine zc9 (br_F ?_)
    walk_at "wh"
    refine bad s1' ?_
    cases es:zf8 hh f (.list ds)
    ·rfl
    ·have:=(zn1 es).2.2.1 k (by walk_at "om")
     rw[gk,er] at this
     cases this
   obtain⟨es,rfl,es0,rdk,_⟩:=zv2 er
   obtain⟨b,ts,ds',rfl,e1',eb,tl,hts,_⟩:=zz9 (hdk.same (sI.trans s1')) rdk
   cases e1'
   have eb0:∀ I',Same I1 I'->I' b=some (.lst (ts.map V.ref)):=fun I' s'=>s' _ _ eb
   have fl:(rowF (.list es)).length=es.length:=zh7 es
   have es18:es.length<=18:=hs (.list es) (zbq0 edk)
   refine zc9 (br_T ?_)
   refine zan1 (fun tk I2 f2 s2 h2=>?_)
   refine zan1 (fun gn I3 f3 s3 h3=>?_)
   have ntg:tk≠gn:=za5 h2 f3
   have s13:=s2.trans s3
   have sI3:=(sI.trans s1').trans s13
   have ftk:I1 tk=none:=f2
   have fgn:I1 gn=none:=s2.free f3
   refine zd4 (v:=.ref b) (sI3 _ _ e) atk ?_
   refine zd6 (eb0 _ s13) ?_
   refine zk5 (xs:=ts.map V.ref) (fun j σ J=>∃ y8 y9 y10:Option V,σ=[some (.int hh),some (.int f),some (.ref a),some (.ref co),some (.int k),some (.ref tk),some (.ref gn),y8,y9,y10]/\Same I1 J/\J tk=some (.dK (dF Sum.inl (sumG ((comP (.list es)).take j))))/\J gn=some (.dK (dF Sum.inl (sumG ((gonP (.list es)).take j))))) ?_ ?_ ?_ ?_
   ·exact⟨_,_,_,rfl,s13,s3 _ _ h2,h3⟩
   ·rintro j σ J _ ⟨_,_,_,_,sJ,_,_⟩
    exact SqL.of (eb0 _ sJ)
   ·rintro j v σ J hj ⟨y8',y9',y10',rfl,sJ,htk,hgn⟩
    rw[zbq2] at hj
    obtain⟨t,et,rfl⟩:=zbq7.mp hj
    have jl:=(zbp8.mp et).1
    obtain⟨z,ez⟩:∃ z,(rowF (.list es))[j]?=some z:=⟨_,zbp6 (by walk_at "om")⟩
    have ht:=sJ _ _ (hts j t z et ez)
    have ec:(comP (.list es))[j]?=some (z.1,z.2.2):=by unfold comP;rw[zbq2,ez];rfl
    have eg:(gonP (.list es))[j]?=some (z.1 - z.2.1,z.2.2):=by unfold gonP;rw[zbq2,ez];rfl
    refine zk8 ht ?_
    refine zai1 htk ?_
    refine zai4 htk ?_
    have ev:(valV (dF Sum.inl (sumG ((comP (.list es)).take j))) (Sum.inl z.1:Key)).getD (V.int 0)=.int ((valG (sumG ((comP (.list es)).take j)) z.1).getD 0):=by
     rw[zq7 zq3]
     cases valG (sumG ((comP (.list es)).take j)) z.1<;>rfl
    rw[ev]
    refine zaw6 htk (by unfold dF;rw[zbp5,sizeLine_eq];have:=zm5 ((comP (.list es)).take j);rw[zbt0] at this;omega) (fun J2 c2 k2=>?_)
    rw[zy3 zq3] at k2
    have hgn2:=c2 _ _ (Ne.symm ntg) hgn
    refine zai1 hgn2 ?_
    refine zai4 hgn2 ?_
    have ev2:(valV (dF Sum.inl (sumG ((gonP (.list es)).take j))) (Sum.inl (z.1 - z.2.1):Key)).getD (V.int 0)=.int ((valG (sumG ((gonP (.list es)).take j)) (z.1 - z.2.1)).getD 0):=by
     rw[zq7 zq3]
     cases valG (sumG ((gonP (.list es)).take j)) (z.1 - z.2.1)<;>rfl
    rw[ev2]
    refine zaw6 hgn2 (by unfold dF;rw[zbp5,sizeLine_eq];have:=zm5 ((gonP (.list es)).take j);rw[zbt0] at this;omega) (fun J3 c3 k3=>?_)
    rw[zy3 zq3] at k3
    walk_at "wh"
    exact⟨_,_,_,rfl,(sJ.chg ftk c2).chg fgn c3,by rw[c3 _ _ ntg k2,zs2 ec];rfl,by rw[k3,zs2 eg];rfl⟩
   ·rintro σ J ⟨y8',y9',y10',rfl,sJ,htk,hgn⟩
    have l1:(comP (.list es)).length=es.length:=by unfold comP;rw[zbp5,fl]
    have l2:(gonP (.list es)).length=es.length:=by unfold gonP;rw[zbp5,fl]
    rw[zbp5,tl,zbv6 (by walk_at "om")] at htk hgn
    have sIJ:=s1'.trans sJ
    have zne:comP (.list es)≠[]:=fun z=>by rw[z] at l1;simp at l1;omega
    have sl:(sumG (comP (.list es))).length<64:=by have:=zm5 (comP (.list es));omega
    refine zd3 (fun k0=>?_) (fun k0=>?_)
    ·obtain rfl:k=0:=by walk_at "om"
     refine zz3 (kv:=sumG (comP (.list es))) htk sl (fun so J1 ms f4 s4 pm po h4=>?_)
     refine zc4 (fun p5 J2 f5 s5 h5=>?_)
     refine zaz1 (EqR.intL (xs:=ms) (ys:=[hh]) (SqL.of (s5 _ _ h4)) (SqL.of h5)) ?_
     rw[zal8 pm zne]
     have ef:((comP (.list es)).all fun z=>decide (z.1=hh))=zu0 hh (.list es):=by unfold comP zu0;rw[zbw9];rfl
     rw[ef]
     have s2':=s4.trans s5
     cases efl:zu0 hh (.list es)
     ·walk_at "wh"
      first|refine br_T ?_|refine zc9 (br_F ?_)
      walk_at "wh"
      first|refine br_T ?_|skip
      first|(walk_at "wh")|skip
      refine bad (sIJ.trans s2') ?_
      cases es':zf8 hh f (.list ds)
      ·rfl
      ·have:=(zn1 es').2.2.2.1
       rw[gk,efl] at this
       cases this
     ·walk_at "wh"
      first|refine br_F ?_|refine zc9 (br_T ?_)
      walk_at "wh"
      first|refine br_F ?_|skip
      first|(walk_at "wh")|skip
      refine br_F ?_
      walk_at "wh"
      refine⟨_,_,_,_,_,_,gn,rfl,sI.trans (sIJ.trans s2'),fun _=>?_,fun i hi=>?_,fun _=>?_,fun i hi=>by walk_at "om"⟩
      ·rw[gk];exact s2' _ _ hgn
      ·obtain rfl:i=0:=by walk_at "om"
       rw[gk];exact er
      ·rw[gk];exact efl
    ·have hk0:0<k:=by walk_at "om"
     refine br_F ?_
     refine br_dT (by walk_at "om") ?_
     refine zbh5 (ka:=sumG (comP (.list es))) (kb:=sumG (gonP (ds.getD (k - 1) .none))) htk (sIJ _ _ (hco hk0)) ?_
     have em:eqDI (sumG (comP (.list es))) (sumG (gonP (ds.getD (k - 1) .none)))=zm3 (ds.getD (k - 1) .none) (ds.getD k .none):=by
      rw[gk]
      exact zav5 _ _
     rw[em]
     cases emt:zm3 (ds.getD (k - 1) .none) (ds.getD k .none)
     ·walk_at "wh"
      first|refine br_T ?_|refine zc9 (br_F ?_)
      walk_at "wh"
      refine bad sIJ ?_
      cases es':zf8 hh f (.list ds)
      ·rfl
      ·have:=(zn1 es').2.2.2.2.2 (k - 1) (by walk_at "om")
       rw[show k - 1+1=k by walk_at "om",emt] at this
       cases this
     ·walk_at "wh"
      first|refine br_F ?_|refine zc9 (br_T ?_)
      walk_at "wh"
      refine⟨_,_,_,_,_,_,gn,rfl,sI.trans sIJ,fun _=>?_,fun i hi=>?_,fun _=>hful hk0,fun i hi=>?_⟩
      ·rw[show k+1 - 1=k by walk_at "om",gk];exact hgn
      ·by_cases z2:i<k
       ·exact hrow i z2
       ·obtain rfl:i=k:=by walk_at "om"
        rw[gk];exact er
      ·by_cases z2:i+1<k
       ·exact hmt i z2
       ·obtain rfl:i=k - 1:=by walk_at "om"
        rw[show k - 1+1=k by walk_at "om"];exact emt
  ·rintro σ I ⟨y5,y6,y7,y8,y9,y10,co,rfl,sI,hco,hrow,hful,hmt⟩
   have hco:=hco (by walk_at "om")
   have fin:=zaz8 (h:=hh) (f:=f) (ds:=ds) (by walk_at "om") (by walk_at "om") (fun i hi=>hrow i (by walk_at "om")) (hful (by walk_at "om")) (fun i hi=>hmt i (by walk_at "om"))
   obtain⟨es,e1,es0,_,_⟩:=zv2 (hrow (f - 1) (by walk_at "om"))
   have l2:(gonP (ds.getD (f - 1) .none)).length=es.length:=by unfold gonP;rw[zbp5,e1,zh7]
   obtain⟨x,ex⟩:∃ x,ds[f - 1]?=some x:=⟨_,zbp6 (by walk_at "om")⟩
   have es18:es.length<=18:=by
    have:=hs x (zbq0 ex)
    rw[getD_some ex] at e1
    rw[e1] at this
    exact this
   refine zz3 (kv:=sumG (gonP (ds.getD (f - 1) .none))) hco (by have:=zm5 (gonP (ds.getD (f - 1) .none));omega) (fun so J1 ms f4 s4 pm po h4=>?_)
   refine zc4 (fun p5 J2 f5 s5 h5=>?_)
   refine zaz1 (EqR.intL (xs:=ms) (ys:=[0]) (SqL.of (s5 _ _ h4)) (SqL.of h5)) ?_
   rw[zal8 pm (fun z=>by rw[z] at l2;simp at l2;omega)]
   have ef:((gonP (ds.getD (f - 1) .none)).all fun z=>decide (z.1=0))=zad6 (ds.getD (ds.length - 1) .none):=by
    rw[zf]
    unfold gonP zad6
    rw[zbw9]
    refine congrArg (fun g=>(rowF (ds.getD (f - 1) .none)).all g) (funext fun z=>?_)
    show decide (z.1 - z.2.1=0)=decide (z.1=z.2.1)
    rw[zbu4,decide_eq_true_eq,decide_eq_true_eq]
    omega
   rw[ef,← fin]
   walk_at "wh"
   exact q _ ((sI.trans s4).trans s5)
 all_goals (walk_at "wh";refine zc9 (br_F ?_);walk_at "wh";refine br_T ?_;walk_at "wh";exact q _ (Same.refl _))
def flatR:V->Bool
 | .int _ | .bl _ | .non=>true
 | .str x=>PyData.strOk x
 | _=>false
theorem Rd.flatR {H:Hp}{x:V}(n:Nat) (h:flatR x=true):Rd H x n:=by
 cases x with
 | int i=>exact Rd.int i n
 | bl b=>exact Rd.bl b n
 | non=>exact Rd.non n
 | str x=>exact Rd.str n h
 | _=>cases (show false=true from h)
theorem Rd.tupF {H:Hp}{a:Addr}{xs:List V}(e:H a=some (.tup xs)) (h:xs.all G.flatR=true) (l:xs.length<60):Rd H (.ref a) 1:=Rd.tup (n:=0) e l fun x hx=>Rd.flatR 0 (zbr0.mp h x hx)
theorem Rd.lstF {H:Hp}{a:Addr}{xs:List V}(e:H a=some (.lst xs)) (h:xs.all G.flatR=true) (l:xs.length<60):Rd H (.ref a) 1:=Rd.lst (n:=0) e l fun x hx=>Rd.flatR 0 (zbr0.mp h x hx)
def RB (H:Hp) (v:V):Prop:=∃ d,ShV H v d/\okD 2 d/\(zb6 d).length<=18
def SB (H:Hp) (v:V):Prop:=∃ d,ShV H v d/\okD 3 d/\∀ x∈zb6 d,(zb6 x).length<=18
theorem RB.same {H H':Hp}{v:V}(h:RB H v) (s:Same H H'):RB H' v:=by obtain⟨d,h1,h2⟩:=h;exact⟨d,h1.same s,h2⟩
theorem SB.same {H H':Hp}{v:V}(h:SB H v) (s:Same H H'):SB H' v:=by obtain⟨d,h1,h2⟩:=h;exact⟨d,h1.same s,h2⟩
theorem RB.lst {H:Hp}{a:Addr}{xs:List V}(e:H a=some (.lst xs)) (l:xs.length<=18) (h:∀ x∈xs,Rd H x 1):RB H (.ref a):=by
 obtain⟨ds,h1,h2⟩:=ShL.ex (P:=fun d=>okD 1 d) fun x hx=>by obtain⟨d,h1,h2,_⟩:=h x hx;exact⟨d,h1,h2⟩
 exact⟨.list ds,.lst e h1,okD.list (by rw[← h1.len];omega) h2,by show ds.length<=18;rw[← h1.len];exact l⟩
theorem RB.tup {H:Hp}{a:Addr}{xs:List V}(e:H a=some (.tup xs)) (l:xs.length<=18) (h:∀ x∈xs,Rd H x 1):RB H (.ref a):=by
 obtain⟨ds,h1,h2⟩:=ShL.ex (P:=fun d=>okD 1 d) fun x hx=>by obtain⟨d,h1,h2,_⟩:=h x hx;exact⟨d,h1,h2⟩
 exact⟨.tuple ds,.tup e h1,okD.tuple (by rw[← h1.len];omega) h2,by show (0:Nat)<=18;decide⟩
theorem RB.non (H:Hp):RB H .non:=⟨.none,.non,⟨rfl,rfl,zbs4 _⟩,by show (0:Nat)<=18;decide⟩
theorem SB.lst {H:Hp}{a:Addr}{xs:List V}(e:H a=some (.lst xs)) (l:xs.length<=1000) (h:∀ x∈xs,RB H x):SB H (.ref a):=by
 obtain⟨ds,h1,h2⟩:=ShL.ex (P:=fun d=>okD 2 d/\(zb6 d).length<=18) fun x hx=>by obtain⟨d,h1,h2⟩:=h x hx;exact⟨d,h1,h2⟩
 exact⟨.list ds,.lst e h1,okD.list (by rw[← h1.len];omega) fun d hd=>(h2 d hd).1,fun x hx=>(h2 x hx).2⟩
theorem SB.tup {H:Hp}{a:Addr}{xs:List V}(e:H a=some (.tup xs)) (l:xs.length<=1000) (h:∀ x∈xs,RB H x):SB H (.ref a):=by
 obtain⟨ds,h1,h2⟩:=ShL.ex (P:=fun d=>okD 2 d) fun x hx=>by obtain⟨d,h1,h2⟩:=h x hx;exact⟨d,h1,h2.1⟩
 exact⟨.tuple ds,.tup e h1,okD.tuple (by rw[← h1.len];omega) h2,fun x hx=>by cases (show x∈([]:List PyData) from hx)⟩
theorem SB.non (H:Hp):SB H .non:=⟨.none,.non,⟨rfl,rfl,zbs4 _⟩,fun x hx=>by cases (show x∈([]:List PyData) from hx)⟩
theorem SB.str (H:Hp) {x:Str}(h:PyData.strOk x=true):SB H (.str x):=⟨.str x,.str x,⟨rfl,h,zbs4 _⟩,fun x hx=>by cases (show x∈([]:List PyData) from hx)⟩
theorem RwAt.rds {H:Hp}{p:Addr}{bs:List Addr}{xs:List (Int×Int×Int)}(R:RwAt H p bs xs):∀ x∈bs.map V.ref,Rd H x 1:=fun x hx=>by
 obtain⟨b,hb,rfl⟩:=zbr5.mp hx
 obtain⟨i,ei⟩:=zbs8 hb
 obtain⟨z,ez⟩:∃ z,xs[i]?=some z:=⟨_,zbp6 (by have:=(zbp8.mp ei).1;have:=R.len;omega)⟩
 exact Rd.tupF (R.row i b z ei ez) rfl (by show 3<60;decide)
theorem zf6 {xs:List V}{lo hi:Option Int}{x:V}(h:x∈cutV xs lo hi):x∈xs:=by
 unfold cutV at h
 exact zbw1 (zbw0 h)
theorem zv0 {xs:List V}{lo hi:Option Int}:(cutV xs lo hi).length<=xs.length:=by
 unfold cutV
 rw[zbt0,zbu1]
 omega
theorem zao1 {xs:List V}{k:Nat}(h:k<xs.length):(cutV xs none (some (k:Int))).length+(cutV xs (some ((k:Int)+1)) none).length+1=xs.length:=by
 rw[zo8 (by walk_at "om"),zp8 (by walk_at "om"),zbt0,zbu1]
 omega
@[irreducible] def zg9:Sp:=fun vs H Q _=>∃ (v:V) (d:PyData),vs=[v]/\ShV H v d/\sml d=true/\∀ v' H',Same H H'->ShV H' v' d->Q v' H'
theorem zbc1 {H:Hp}{v:V}{d:PyData}{Q:VK}{E:XK}(h:ShV H v d) (hs:sml d=true) (q:∀ v' H',Same H H'->ShV H' v' d->Q v' H'):zg9 [v] H Q E:=by unfold zg9;exact⟨v,d,rfl,h,hs,q⟩
set_option maxHeartbeats 0 in
theorem zag6 {f:Addr}{fd:FuncData}(F:Fun K "_law_copy" "_law_copy" zj7 f fd) (N:Nm mg):FnOk P w K mg base CX0 1 f fd ["_law_stream"] zg9:=by
 refine F.ok zae1 (fun vs H Q E h=>by unfold zg9 at h;obtain⟨_,_,rfl,_⟩:=h;rfl) (fun cdv A outer s H vs Q E hr h=>?_)
 unfold zg9 at h
 obtain⟨v,d,rfl,hv,hs,q⟩:=h
 refine⟨_,(za4 (psIf (zm9 (ptV (pB (zt6 (K:=K) rfl) N.isinstance_ zb5 (za0 (pq 0) (za0 (pTy N.list_ zm6) za3))))) (za8 (zc2 (pq 0))) zf1)
   (za8 (zc2 (zo4 (N:=["_law_row"]) (ks:=[none]) (zi7 (K:=K) rfl (pq 0)) (fun cl C s3 H3 fp=>(za9 (i:=0) nb_12 rfl (by first|exact Or.inl rfl|exact Or.inr rfl))) (fun cl C s3 H3 fp=>zj3) (fun cl C s3 H3 fp=>(peIf (ptV (pB (zt6 (K:=K) rfl) N.isinstance_ zb5 (za0 (pq 0) (za0 (pTy N.list_ zm6) za3)))) (pT (zan9 (K:=K) rfl) N.list_ zm6 (za0 (pq 0) za3)) (pq 0))) (.skip .nil))))),?_⟩
 refine zk2 hv (.inr (.inr (.inl rfl))) ?_
 cases hv
 case lst a xs ds e l=>
  have ll:=l.len
  obtain⟨dl,dm⟩:=zq8 hs
  refine zc9 (br_T ?_)
  refine zd6 e ?_
  refine zbf5 (n:=xs.length) (Wk.list (SqL.of e)) (by rw[sizeLine_eq];omega) (fun acc j ys σ I=>∃ t:Option V,σ=[t]/\ShL (rm acc I) ys (ds.take j)) ?_ ?_ ?_ ?_
  ·intro acc I f1 s2 h1
   exact⟨none,rfl,.nil⟩
  ·rintro acc j ys σ I I' s' ⟨t,r1,r2⟩
   exact⟨t,r1,r2.same (Same.rm s')⟩
  ·rintro acc j x ys σ I R S hj facc s1 hacc hx ⟨t,rfl,L⟩ kR _
   obtain⟨dj,ed,hd⟩:=l.get j x hx
   have out:Same H (rm acc I):=fun b o z=>zg1 (fun w=>by rw[w,facc] at z;cases z) (s1 _ _ z)
   have fin:∀ (v':V) (I1:Hp) (I2:Hp),Same I I1->Chg acc I1 I2->ShV (rm acc I1) v' dj->ShL (rm acc I2) (ys++[v']) (ds.take (j+1)):=fun v' I1 I2 s2 c2 h2=>by
    rw[List.take_succ,ed]
    exact zba9 ((L.same (Same.rm s2)).same (Chg.rm c2)) (.cons (h2.same (Chg.rm c2)) .nil)
   refine br_T ?_
   refine zk2 (hd.same s1) (.inr (.inr (.inl rfl))) ?_
   cases hd
   case lst b ws es eb lb=>
    refine br_T ?_
    refine zv1 (SqL.of (s1 _ _ eb)) (fun p I1 f2 s2 h2=>?_)
    walk_at "wh"
    refine kR _ _ _ s2 (fun I2 c2=>⟨_,rfl,fin _ I1 I2 s2 c2 (.lst (zg1 (fun w=>by rw[w,hacc] at f2;cases f2) h2) ((lb.same out).same (Same.rm s2)))⟩)
   case tup b ws es eb lb=>
    refine br_F ?_
    walk_at "wh"
    exact kR _ _ _ (Same.refl _) (fun I2 c2=>⟨_,rfl,fin _ I I2 (Same.refl _) c2 (ShV.same (.tup eb lb) out)⟩)
   all_goals
    refine br_F ?_
    walk_at "wh"
    exact kR _ _ _ (Same.refl _) (fun I2 c2=>⟨_,rfl,fin _ I I2 (Same.refl _) c2 (by constructor)⟩)
  ·rintro acc ys σ I facc s1 hacc ⟨t,rfl,L⟩
   rw[ll,zbx0] at L
   walk_at "wh"
   exact q _ _ s1 (.lst hacc (L.same (zn7 _ _)))
 case tup a xs ds e l=>
  refine zc9 (br_F ?_)
  walk_at "wh"
  exact q _ _ (Same.refl _) (.tup e l)
 all_goals
  refine zc9 (br_F ?_)
  walk_at "wh"
  exact q _ _ (Same.refl _) (by constructor)
theorem ze4 {c j p} {es:List Expr}{env:Env}:starEach (.Constant c j p :: es) env=(false,eval (.Constant c j p) env) :: starEach es env:=rfl
theorem zar2 {c j p} {es:List Expr}{env:Env}:starEach (.UnaryOp c j p :: es) env=(false,eval (.UnaryOp c j p) env) :: starEach es env:=rfl
theorem ze7 {c j p} {es:List Expr}{env:Env}:starEach (.Tuple c j p :: es) env=(false,eval (.Tuple c j p) env) :: starEach es env:=rfl
theorem zaj1 {c p} {es:List Expr}{env:Env}:starEach (.List c p :: es) env=(false,eval (.List c p) env) :: starEach es env:=rfl
theorem zf5 {X:Cx}{i j pos}:PEI X (.Constant (.int i) j pos) (tC (.int i)):=by unfold PEI;exact za2
theorem peI_bl {X:Cx}{b j pos}:PEI X (.Constant (.bool b) j pos) (tC (.bl b)):=by unfold PEI;exact zt1
theorem zac0 {X:Cx}{j pos}:PEI X (.Constant .none j pos) (tC .non):=by unfold PEI;exact pe_non
theorem peI_un {X:Cx}{op:UnaryOp}{r:V->Hp->VK->Prop}{a:Expr}{ta:TE}{pos:Pos}(ho:UnR X (unaryOp op) r) (ha:PEI X a ta):PEI X (.UnaryOp op a pos) (tUn r ta):=by unfold PEI at *;exact zaj6 ho ha
theorem zj0 {X:Cx}{es:List Expr}{x1} {t:TA}{pos:Pos}(h:PAI X es t):PEI X (.Tuple es x1 pos) (qTup t):=by unfold PEI PAI at *;exact zx7 h
theorem zx9 {X:Cx}{c:Expr}{a b:List Stmt}{tc:TT}{t u:TS}{pos:Pos}(hc:PT X c tc) (ha:PSsI X a t) (hb:PSsI X b u):PS X (.If c a b pos) (qIfS tc t u):=by unfold PSsI at ha hb;exact psIf hc ha hb
theorem zj6 {X:Cx}{e:Expr}{te:TE}{pos:Pos}(he:PEI X e te):PSI X (.Return (some e) pos) (tRet te):=by unfold PEI at he;unfold PSI;exact zc2 he
theorem zay2 {X:Cx}{tg e:Expr}{te:TE}{g:TG}{pos:Pos}(he:PEI X e te) (hg:PG X tg g) (hs:swapsWithSole [tg] e pos.line X.env=pure false:=by rfl) (hw:swappedStores [tg] e X.env=pure none:=by rfl) (h1:(assignEach [tg] X.env).map (·.2)=[assign tg X.env]:=by rfl):PSI X (.Assign [tg] e pos) (tAsg te g):=by unfold PEI at he;unfold PSI;exact zad8 he hg hs hw h1
theorem zl9 {X:Cx}{K:zbp7}{a b:Expr}{ta tb:TE}{pos:Pos}(hK:X.K=K) (ha:PEI X a ta) (hb:PEI X b tb) (hs:zac6 b:=by exact fun _ _=>rfl):PEI X (.Subscript a b pos) (tOp (rIxM K) ta tb):=by unfold PEI at *;exact zd1 hK ha hb hs
theorem ze6 {X:Cx}{op:Operator}{r:R2}{a b:Expr}{ta tb:TE}{pos:Pos}(ho:OpR X (binaryOp op) r) (ha:PEI X a ta) (hb:PEI X b tb):PEI X (.BinOp a op b pos) (tOp r ta tb):=by unfold PEI at *;exact zc1 ho ha hb
@[irreducible] def zd0:Sp:=fun vs H Q _=>∃ (a r:Addr) (b:Int) (bs:List Addr) (xs:List (Int×Int×Int)),vs=[.ref a,.ref r]/\zb2 H a b/\b<=100000/\RwAt (rm a H) r bs xs/\(1<=xs.length/\xs.length<=10)/\∀ v H',Chg a H H'->zb2 H' a (b+3)->RB (rm a H') v->Q v H'
theorem zaj3 {H:Hp}{a r:Addr}{b:Int}{bs:List Addr}{xs:List (Int×Int×Int)}{Q:VK}{E:XK}(hL:zb2 H a b) (hb:b<=100000) (R:RwAt (rm a H) r bs xs) (h1:1<=xs.length) (h2:xs.length<=10) (q:∀ v H',Chg a H H'->zb2 H' a (b+3)->RB (rm a H') v->Q v H'):zd0 [.ref a,.ref r] H Q E:=by
 unfold zd0;exact⟨a,r,b,bs,xs,rfl,hL,hb,R,⟨h1,h2⟩,q⟩
set_option maxHeartbeats 0 in
theorem zu3 {f:Addr}{fd:FuncData}(F:Fun K "_law_bent_row" "_law_bent_row" ze9 f fd) (N:Nm mg) (zbn2:Def P w K mg base CX0 2 "_law_draw" ["_law_left_here","_law_base"] zc5):FnOk P w K mg base CX0 3 f fd ["_law_left_here","_law_row"] zd0:=by
 refine F.ok zb0 (fun vs H Q E h=>by unfold zd0 at h;obtain⟨_,_,_,_,_,rfl,_⟩:=h;rfl) (fun cdv A outer s H vs Q E hr h=>?_)
 unfold zd0 at h
 obtain⟨a,r,b,bs,xs,rfl,hL,hb,R0,⟨l1,l2⟩,q⟩:=h
 have hu:=hu40 hr
 have bl:=R0.len
 have R:=R0.same (zn7 a H)
 refine⟨_,(pssTo (zb1 (psOf (psS (i:=2) zb0.nd (pD zbn2 hr zd5 (za0 (pq 0) (za0 (pB (zo1 (K:=K) rfl) N.len_ zi6 (za0 (pq 1) za3)) za3)))))
   (zb1 (psOf (psS (i:=3) zb0.nd (pD zbn2 hr zd5 (za0 (pq 0) (za0 (pB (zo1 (K:=K) rfl) N.len_ zi6 (za0 (pq 1) za3)) za3)))))
   (zb1 (psOf (zad8 (zd1 (K:=K) rfl (pq 1) (pq 2)) (zo9 (K:=K) (n:=3) rfl rfl (zc6 (za9 (i:=4) zb0.nd rfl (by first|exact Or.inl rfl|exact Or.inr rfl)) (zc6 (za9 (i:=5) zb0.nd rfl (by first|exact Or.inl rfl|exact Or.inr rfl)) (zc6 (za9 (i:=6) zb0.nd rfl (by first|exact Or.inl rfl|exact Or.inr rfl)) zo5))))))
   (zb1 (psOf (psS (i:=7) zb0.nd (pD zbn2 hr zd5 (za0 (pq 0) (za0 za2 za3)))))
   (zb1 (psIS (i:=8) zb0.nd (zo0 (za1 (zj0 (za1 (ze6 oAdd (za6 (pq 4)) zf5) (za1 (za6 (pq 5)) (za1 (za6 (pq 6)) zb9)))) (za1 (zj0 (za1 (ze6 oSub (za6 (pq 4)) zf5) (za1 (za6 (pq 5)) (za1 (za6 (pq 6)) zb9)))) (za1 (zj0 (za1 (za6 (pq 4)) (za1 (ze6 oAdd (za6 (pq 5)) zf5) (za1 (za6 (pq 6)) zb9)))) (za1 (zj0 (za1 (za6 (pq 4)) (za1 (ze6 oSub (za6 (pq 5)) zf5) (za1 (za6 (pq 6)) zb9)))) zb9 ze7) ze7) ze7) ze7)))
   (zb1 (psIS (i:=8) zb0.nd (ze6 oAdd (za6 (pq 8)) (zo0 (za1 (zj0 (za1 (za6 (pq 4)) (za1 (za6 (pq 5)) (za1 (ze6 oAdd (za6 (pq 6)) zf5) zb9)))) (za1 (zj0 (za1 (za6 (pq 4)) (za1 (za6 (pq 5)) (za1 (ze6 oSub (za6 (pq 6)) zf5) zb9)))) (za1 (zj0 (za1 (za6 (pq 4)) (za1 (za6 (pq 5)) (za1 zf5 zb9 ze4)))) (za1 (zj0 (za1 (ze6 oAdd (za6 (pq 4)) zf5) (za1 (ze6 oAdd (za6 (pq 5)) zf5) (za1 (za6 (pq 6)) zb9)))) zb9 ze7) ze7) ze7) ze7))))
   (zb1 (psIS (i:=8) zb0.nd (ze6 oAdd (za6 (pq 8)) (zo0 (za1 (zj0 (za1 (za6 (pq 4)) (za1 (za6 (pq 5)) (za1 peI_bl zb9 ze4)))) (za1 (zj0 (za1 (za6 (pq 4)) (za1 zas2 (za1 (za6 (pq 6)) zb9) ze4))) (za1 (zj0 (za1 zac0 (za1 (za6 (pq 5)) (za1 (za6 (pq 6)) zb9)) ze4)) (za1 (zo0 (za1 (za6 (pq 4)) (za1 (za6 (pq 5)) (za1 (za6 (pq 6)) zb9)))) (za1 (zj0 (za1 (za6 (pq 4)) (za1 (za6 (pq 5)) zb9))) (za1 zac0 zb9 ze4) ze7) zaj1) ze7) ze7) ze7))))
   (zb1 (psIS (i:=8) zb0.nd (ze6 oAdd (za6 (pq 8)) (zo0 (za1 (zj0 (za1 (za6 (pq 4)) (za1 (za6 (pq 5)) (za1 (za6 (pq 6)) (za1 zf5 zb9 ze4))))) (za1 zf5 (za1 (zj0 (za1 (za6 (pq 4)) (za1 (za6 (pq 4)) (za1 (za6 (pq 6)) zb9)))) (za1 (zj0 (za1 (za6 (pq 4)) (za1 (ze6 oAdd (za6 (pq 4)) zf5) (za1 (za6 (pq 6)) zb9)))) (za1 (zj0 (za1 (za6 (pq 4)) (za1 (peI_un uNeg zf5) (za1 (za6 (pq 6)) zb9) zar2))) zb9 ze7) ze7) ze7) ze4) ze7))))
   (zb1 (psOf (zx9 (ptC (oLtX (by exact hu)) (pq 7) (pB (zo1 (K:=K) rfl) N.len_ zi6 (za0 (pq 8) za3))) (zh0 (zj6 (ze6 oAdd (ze6 oAdd (za6 (zb4 (slXK (K:=K) rfl) (pq 1) zd2 (ze1 (pq 2)))) (zo0 (za1 (zl9 (K:=K) rfl (za6 (pq 8)) (za6 (pq 7))) zb9))) (za6 (zb4 (slXK (K:=K) rfl) (pq 1) (ze1 (zc1 oAdd (pq 2) za2)) zd2))))) zi8))
   (zb1 (psOf (zx9 (ptC (zn2 (K:=K) rfl (by exact hu)) (pq 7) za2) (zh0 (zj6 (ze6 oAdd (za6 (zb4 (slXK (K:=K) rfl) (pq 1) zd2 (ze1 (pq 2)))) (za6 (zb4 (slXK (K:=K) rfl) (pq 1) (ze1 (zc1 oAdd (pq 2) za2)) zd2))))) zi8))
   (zb1 (psOf (zx9 (ptC (zn2 (K:=K) rfl (by exact hu)) (pq 7) za2) (zh0 (zj6 (ze6 oAdd (ze6 oAdd (za6 (zb4 (slXK (K:=K) rfl) (pq 1) zd2 (ze1 (pq 2)))) (zo0 (za1 (zl9 (K:=K) rfl (za6 (pq 1)) (za6 (pq 2))) (za1 (zl9 (K:=K) rfl (za6 (pq 1)) (za6 (pq 2))) zb9)))) (za6 (zb4 (slXK (K:=K) rfl) (pq 1) (ze1 (zc1 oAdd (pq 2) za2)) zd2))))) zi8))
   (zb1 (psOf (zx9 (ptC (zn2 (K:=K) rfl (by exact hu)) (pq 7) za2) (zh0 (zj6 (ze6 oAdd (ze6 oAdd (za6 (zb4 (slXK (K:=K) rfl) (pq 1) zd2 (ze1 (pq 2)))) (za6 (peRv (K:=K) rfl (zb4 (slXK (K:=K) rfl) (pq 1) (ze1 (pq 2)) (ze1 (zc1 oAdd (pq 2) za2)))))) (za6 (zb4 (slXK (K:=K) rfl) (pq 1) (ze1 (zc1 oAdd (pq 2) za2)) zd2))))) zi8))
   (zb1 (psOf (zx9 (ptC (zn2 (K:=K) rfl (by exact hu)) (pq 7) za2) (zh0 (zj6 (za6 (peRv (K:=K) rfl (pq 1))))) zi8))
   (zb1 (psOf (zx9 (ptW (pwAnd (ptC (zn2 (K:=K) rfl (by exact hu)) (pq 7) za2) (zad4 (ptC (zac5 (K:=K) rfl (by exact hu)) (pq 2) (pq 3))))) (zb1 (psOf (psS (i:=9) zb0.nd (pT (zan9 (K:=K) rfl) N.list_ zm6 (za0 (pq 1) za3))))
   (zb1 (zay2 (zj0 (za1 (za6 (pq 4)) (za1 (za6 (pq 5)) (za1 (ze6 oAdd (za6 (pq 6)) zf5) zb9)))) (zaf6 (pq 9) (pq 2) setM))
   (zb1 (zay2 (zj0 (za1 (zl9 (K:=K) rfl (zl9 (K:=K) rfl (za6 (pq 1)) (za6 (pq 3))) zf5) (za1 (zl9 (K:=K) rfl (zl9 (K:=K) rfl (za6 (pq 1)) (za6 (pq 3))) zf5) (za1 (ze6 oSub (zl9 (K:=K) rfl (zl9 (K:=K) rfl (za6 (pq 1)) (za6 (pq 3))) zf5) zf5) zb9)))) (zaf6 (pq 9) (pq 3) setM))
   (zh0 (zj6 (za6 (pq 9))))))) zi8))
   (zh0 (zj6 (zl9 (K:=K) rfl (zo0 (za1 (zo0 zb9) (za1 zac0 (za1 (za6 (pT (cTupK (K:=K) rfl) N.tuple_ zu9 (za0 (pq 1) za3))) (za1 (za6 (pq 1)) (za1 (za6 (pq 1)) (za1 (za6 (pq 1)) (za1 (za6 (pq 1)) zb9))))) ze4) zaj1)) (ze6 oMod (za6 (pq 7)) zf5))))))))))))))))))),?_⟩
 refine zg3 R.out ?_
 rw[zbp5,bl]
 refine ze5 hL (by walk_at "om") (by walk_at "om") (by walk_at "om") (fun at_ H1 a0 a1 c1 L1=>?_)
 have R1:=R0.same (Chg.rm c1)
 obtain⟨i,rfl⟩:∃ i:Nat,at_=i:=⟨at_.toNat,by walk_at "om"⟩
 refine zg3 (zn7 _ _ _ _ R1.out) ?_
 rw[zbp5,bl]
 refine ze5 L1 (by walk_at "om") (by walk_at "om") (by walk_at "om") (fun ot H2 o0 o1 c2 L2=>?_)
 have R2:=R1.same (Chg.rm c2)
 obtain⟨o,rfl⟩:∃ i:Nat,ot=i:=⟨ot.toNat,by walk_at "om"⟩
 obtain⟨x,ex⟩:∃ x,xs[i]?=some x:=⟨_,zbp6 (by walk_at "om")⟩
 obtain⟨t,et⟩:∃ t,bs[i]?=some t:=⟨_,zbp6 (by walk_at "om")⟩
 obtain⟨xo,exo⟩:∃ x,xs[o]?=some x:=⟨_,zbp6 (by walk_at "om")⟩
 obtain⟨to,eto⟩:∃ t,bs[o]?=some t:=⟨_,zbp6 (by walk_at "om")⟩
 have ati:atI (bs.map V.ref) (i:Int)=some (.ref t):=zm2 (by rw[zbq2,et];rfl)
 have ato:atI (bs.map V.ref) (o:Int)=some (.ref to):=zm2 (by rw[zbq2,eto];rfl)
 have off:=zn7 a
 refine zd4 (v:=.ref t) (off _ _ _ R2.out) ati ?_
 refine zk8 (off _ _ _ (R2.row i t x et ex)) ?_
 refine ze5 L2 (by walk_at "om") (by walk_at "om") (by walk_at "om") (fun ch H3 w0 w1 c3 L3=>?_)
 have c03:Chg a H H3:=(c1.trans c2).trans c3
 have R3r:=R2.same (Chg.rm c3)
 have R3:=R3r.same (off H3)
 obtain⟨oa,ea⟩:=L3.some
 have newr:∀ {J:Hp},Same H3 J->Same (nw H3 J) (rm a J):=fun {J} sJ=>fun b o z=>by
  obtain⟨z1,z2⟩:=zw9 z
  exact zg1 (fun w=>by rw[w,ea] at z1;cases z1) z2
 have ret:∀ {J:Hp}(v:V),Same H3 J->RB (rm a J) v->Q v J:=fun {J} v sJ h=>q v J (c03.same sJ) ((L3.same sJ).up (by walk_at "om")) h
 clear R1 R2 L1 L2 c1 c2 c3 R R0
 have keep:∀ {J:Hp},Same H3 J->RwAt (rm a J) r bs xs:=fun {J} sJ=>R3r.same (Same.rm sJ)
 have s0:Same H3 H3:=Same.refl _
 refine zb8 (fun z1 J1 b1 y1 k1=>?_)
 have n1:z1≠a:=L3.ne b1
 have L1_:=L3.same y1
 have s1_:=s0.trans y1
 have r1_:Rd (rm a J1) (.ref z1) 1:=Rd.tupF (zg1 n1 k1) rfl (by simp only[zbq5,zbr1];decide)
 refine zb8 (fun z2 J2 b2 y2 k2=>?_)
 have n2:z2≠a:=L1_.ne b2
 have L2_:=L1_.same y2
 have s2_:=s1_.trans y2
 have r1_2:=r1_.same (Same.rm (p:=a) y2)
 have r2_:Rd (rm a J2) (.ref z2) 1:=Rd.tupF (zg1 n2 k2) rfl (by simp only[zbq5,zbr1];decide)
 refine zb8 (fun z3 J3 b3 y3 k3=>?_)
 have n3:z3≠a:=L2_.ne b3
 have L3_:=L2_.same y3
 have s3_:=s2_.trans y3
 have r1_3:=r1_2.same (Same.rm (p:=a) y3)
 have r2_3:=r2_.same (Same.rm (p:=a) y3)
 have r3_:Rd (rm a J3) (.ref z3) 1:=Rd.tupF (zg1 n3 k3) rfl (by simp only[zbq5,zbr1];decide)
 refine zb8 (fun z4 J4 b4 y4 k4=>?_)
 have n4:z4≠a:=L3_.ne b4
 have L4_:=L3_.same y4
 have s4_:=s3_.trans y4
 have r1_4:=r1_3.same (Same.rm (p:=a) y4)
 have r2_4:=r2_3.same (Same.rm (p:=a) y4)
 have r3_4:=r3_.same (Same.rm (p:=a) y4)
 have r4_:Rd (rm a J4) (.ref z4) 1:=Rd.tupF (zg1 n4 k4) rfl (by simp only[zbq5,zbr1];decide)
 refine zc4 (fun z5 J5 b5 y5 k5=>?_)
 have n5:z5≠a:=L4_.ne b5
 have L5_:=L4_.same y5
 have s5_:=s4_.trans y5
 have r1_5:=r1_4.same (Same.rm (p:=a) y5)
 have r2_5:=r2_4.same (Same.rm (p:=a) y5)
 have r3_5:=r3_4.same (Same.rm (p:=a) y5)
 have r4_5:=r4_.same (Same.rm (p:=a) y5)
 have RL5:∀ w∈([.ref z1,.ref z2,.ref z3,.ref z4]:List V),Rd (rm a J5) w 1:=fun w hw=>by
  simp only[zbq8,zbs5,or_false] at hw
  rcases hw with rfl|rfl|rfl|rfl
  ·exact r1_5
  ·exact r2_5
  ·exact r3_5
  ·exact r4_5
 generalize hA5:([.ref z1,.ref z2,.ref z3,.ref z4]:List V)=A5 at RL5 k5
 have lA5:A5.length=4:=by rw[← hA5];rfl
 clear hA5
 refine zb8 (fun z6 J6 b6 y6 k6=>?_)
 have n6:z6≠a:=L5_.ne b6
 have L6_:=L5_.same y6
 have s6_:=s5_.trans y6
 have R6:=fun w hw=>(RL5 w hw).same (Same.rm (p:=a) y6)
 have K6:=y6 _ _ k5
 have r6_:Rd (rm a J6) (.ref z6) 1:=Rd.tupF (zg1 n6 k6) rfl (by simp only[zbq5,zbr1];decide)
 refine zb8 (fun z7 J7 b7 y7 k7=>?_)
 have n7:z7≠a:=L6_.ne b7
 have L7_:=L6_.same y7
 have s7_:=s6_.trans y7
 have r6_7:=r6_.same (Same.rm (p:=a) y7)
 have R7:=fun w hw=>(R6 w hw).same (Same.rm (p:=a) y7)
 have K7:=y7 _ _ K6
 have r7_:Rd (rm a J7) (.ref z7) 1:=Rd.tupF (zg1 n7 k7) rfl (by simp only[zbq5,zbr1];decide)
 refine zb8 (fun z8 J8 b8 y8 k8=>?_)
 have n8:z8≠a:=L7_.ne b8
 have L8_:=L7_.same y8
 have s8_:=s7_.trans y8
 have r6_8:=r6_7.same (Same.rm (p:=a) y8)
 have r7_8:=r7_.same (Same.rm (p:=a) y8)
 have R8:=fun w hw=>(R7 w hw).same (Same.rm (p:=a) y8)
 have K8:=y8 _ _ K7
 have r8_:Rd (rm a J8) (.ref z8) 1:=Rd.tupF (zg1 n8 k8) rfl (by simp only[zbq5,zbr1];decide)
 refine zb8 (fun z9 J9 b9 y9 k9=>?_)
 have n9:z9≠a:=L8_.ne b9
 have L9_:=L8_.same y9
 have s9_:=s8_.trans y9
 have r6_9:=r6_8.same (Same.rm (p:=a) y9)
 have r7_9:=r7_8.same (Same.rm (p:=a) y9)
 have r8_9:=r8_.same (Same.rm (p:=a) y9)
 have R9:=fun w hw=>(R8 w hw).same (Same.rm (p:=a) y9)
 have K9:=y9 _ _ K8
 have r9_:Rd (rm a J9) (.ref z9) 1:=Rd.tupF (zg1 n9 k9) rfl (by simp only[zbq5,zbr1];decide)
 refine zc4 (fun z10 J10 b10 y10 k10=>?_)
 have n10:z10≠a:=L9_.ne b10
 have L10_:=L9_.same y10
 have s10_:=s9_.trans y10
 have r6_10:=r6_9.same (Same.rm (p:=a) y10)
 have r7_10:=r7_9.same (Same.rm (p:=a) y10)
 have r8_10:=r8_9.same (Same.rm (p:=a) y10)
 have r9_10:=r9_.same (Same.rm (p:=a) y10)
 have R10:=fun w hw=>(R9 w hw).same (Same.rm (p:=a) y10)
 have K10:=y10 _ _ K9
 have RL10:∀ w∈([.ref z6,.ref z7,.ref z8,.ref z9]:List V),Rd (rm a J10) w 1:=fun w hw=>by
  simp only[zbq8,zbs5,or_false] at hw
  rcases hw with rfl|rfl|rfl|rfl
  ·exact r6_10
  ·exact r7_10
  ·exact r8_10
  ·exact r9_10
 generalize hA10:([.ref z6,.ref z7,.ref z8,.ref z9]:List V)=A10 at RL10 k10
 have lA10:A10.length=4:=by rw[← hA10];rfl
 clear hA10
 refine zi9 K10 k10 (by rw[lA5,lA10,sizeLine_eq];omega) (fun z11 J11 b11 y11 k11=>?_)
 have L11_:=L10_.same y11
 have s11_:=s10_.trans y11
 have RC11:∀ w∈A5++A10,Rd (rm a J11) w 1:=fun w hw=>by
  rcases zbr2.mp hw with hw|hw
  ·exact (R10 w hw).same (Same.rm (p:=a) y11)
  ·exact (RL10 w hw).same (Same.rm (p:=a) y11)
 have lC11:(A5++A10).length=8:=by rw[zbp9,lA5,lA10]
 generalize A5++A10=C11 at RC11 lC11 k11
 refine zb8 (fun z12 J12 b12 y12 k12=>?_)
 have n12:z12≠a:=L11_.ne b12
 have L12_:=L11_.same y12
 have s12_:=s11_.trans y12
 have R12:=fun w hw=>(RC11 w hw).same (Same.rm (p:=a) y12)
 have K12:=y12 _ _ k11
 have r12_:Rd (rm a J12) (.ref z12) 1:=Rd.tupF (zg1 n12 k12) rfl (by simp only[zbq5,zbr1];decide)
 refine zb8 (fun z13 J13 b13 y13 k13=>?_)
 have n13:z13≠a:=L12_.ne b13
 have L13_:=L12_.same y13
 have s13_:=s12_.trans y13
 have r12_13:=r12_.same (Same.rm (p:=a) y13)
 have R13:=fun w hw=>(R12 w hw).same (Same.rm (p:=a) y13)
 have K13:=y13 _ _ K12
 have r13_:Rd (rm a J13) (.ref z13) 1:=Rd.tup (n:=0) (zg1 n13 k13) (by simp only[zbq5,zbr1];decide) (fun x hx=>by
  simp only[zbq8,zbs5,or_false] at hx
  rcases hx with rfl|rfl|rfl
  ·exact Rd.int _ _
  ·exact Rd.str _ (by decide +kernel)
  ·exact Rd.int _ _)
 refine zb8 (fun z14 J14 b14 y14 k14=>?_)
 have n14:z14≠a:=L13_.ne b14
 have L14_:=L13_.same y14
 have s14_:=s13_.trans y14
 have r12_14:=r12_13.same (Same.rm (p:=a) y14)
 have r13_14:=r13_.same (Same.rm (p:=a) y14)
 have R14:=fun w hw=>(R13 w hw).same (Same.rm (p:=a) y14)
 have K14:=y14 _ _ K13
 have r14_:Rd (rm a J14) (.ref z14) 1:=Rd.tupF (zg1 n14 k14) rfl (by simp only[zbq5,zbr1];decide)
 refine zc4 (fun z15 J15 b15 y15 k15=>?_)
 have n15:z15≠a:=L14_.ne b15
 have L15_:=L14_.same y15
 have s15_:=s14_.trans y15
 have r12_15:=r12_14.same (Same.rm (p:=a) y15)
 have r13_15:=r13_14.same (Same.rm (p:=a) y15)
 have r14_15:=r14_.same (Same.rm (p:=a) y15)
 have R15:=fun w hw=>(R14 w hw).same (Same.rm (p:=a) y15)
 have K15:=y15 _ _ K14
 have r15_:Rd (rm a J15) (.ref z15) 1:=Rd.lstF (zg1 n15 k15) rfl (by simp only[zbq5,zbr1];decide)
 refine zb8 (fun z16 J16 b16 y16 k16=>?_)
 have n16:z16≠a:=L15_.ne b16
 have L16_:=L15_.same y16
 have s16_:=s15_.trans y16
 have r12_16:=r12_15.same (Same.rm (p:=a) y16)
 have r13_16:=r13_15.same (Same.rm (p:=a) y16)
 have r14_16:=r14_15.same (Same.rm (p:=a) y16)
 have r15_16:=r15_.same (Same.rm (p:=a) y16)
 have R16:=fun w hw=>(R15 w hw).same (Same.rm (p:=a) y16)
 have K16:=y16 _ _ K15
 have r16_:Rd (rm a J16) (.ref z16) 1:=Rd.tupF (zg1 n16 k16) rfl (by simp only[zbq5,zbr1];decide)
 refine zc4 (fun z17 J17 b17 y17 k17=>?_)
 have n17:z17≠a:=L16_.ne b17
 have L17_:=L16_.same y17
 have s17_:=s16_.trans y17
 have r12_17:=r12_16.same (Same.rm (p:=a) y17)
 have r13_17:=r13_16.same (Same.rm (p:=a) y17)
 have r14_17:=r14_16.same (Same.rm (p:=a) y17)
 have r15_17:=r15_16.same (Same.rm (p:=a) y17)
 have r16_17:=r16_.same (Same.rm (p:=a) y17)
 have R17:=fun w hw=>(R16 w hw).same (Same.rm (p:=a) y17)
 have K17:=y17 _ _ K16
 have RL17:∀ w∈([.ref z12,.ref z13,.ref z14,.ref z15,.ref z16,.non]:List V),Rd (rm a J17) w 1:=fun w hw=>by
  simp only[zbq8,zbs5,or_false] at hw
  rcases hw with rfl|rfl|rfl|rfl|rfl|rfl
  ·exact r12_17
  ·exact r13_17
  ·exact r14_17
  ·exact r15_17
  ·exact r16_17
  ·exact Rd.non _
 generalize hA17:([.ref z12,.ref z13,.ref z14,.ref z15,.ref z16,.non]:List V)=A17 at RL17 k17
 have lA17:A17.length=6:=by rw[← hA17];rfl
 clear hA17
 refine zi9 K17 k17 (by rw[lC11,lA17,sizeLine_eq];omega) (fun z18 J18 b18 y18 k18=>?_)
 have L18_:=L17_.same y18
 have s18_:=s17_.trans y18
 have RC18:∀ w∈C11++A17,Rd (rm a J18) w 1:=fun w hw=>by
  rcases zbr2.mp hw with hw|hw
  ·exact (R17 w hw).same (Same.rm (p:=a) y18)
  ·exact (RL17 w hw).same (Same.rm (p:=a) y18)
 have lC18:(C11++A17).length=14:=by rw[zbp9,lC11,lA17]
 generalize C11++A17=C18 at RC18 lC18 k18
 refine zb8 (fun z19 J19 b19 y19 k19=>?_)
 have n19:z19≠a:=L18_.ne b19
 have L19_:=L18_.same y19
 have s19_:=s18_.trans y19
 have R19:=fun w hw=>(RC18 w hw).same (Same.rm (p:=a) y19)
 have K19:=y19 _ _ k18
 have r19_:Rd (rm a J19) (.ref z19) 1:=Rd.tupF (zg1 n19 k19) rfl (by simp only[zbq5,zbr1];decide)
 refine zb8 (fun z20 J20 b20 y20 k20=>?_)
 have n20:z20≠a:=L19_.ne b20
 have L20_:=L19_.same y20
 have s20_:=s19_.trans y20
 have r19_20:=r19_.same (Same.rm (p:=a) y20)
 have R20:=fun w hw=>(R19 w hw).same (Same.rm (p:=a) y20)
 have K20:=y20 _ _ K19
 have r20_:Rd (rm a J20) (.ref z20) 1:=Rd.tupF (zg1 n20 k20) rfl (by simp only[zbq5,zbr1];decide)
 refine zb8 (fun z21 J21 b21 y21 k21=>?_)
 have n21:z21≠a:=L20_.ne b21
 have L21_:=L20_.same y21
 have s21_:=s20_.trans y21
 have r19_21:=r19_20.same (Same.rm (p:=a) y21)
 have r20_21:=r20_.same (Same.rm (p:=a) y21)
 have R21:=fun w hw=>(R20 w hw).same (Same.rm (p:=a) y21)
 have K21:=y21 _ _ K20
 have r21_:Rd (rm a J21) (.ref z21) 1:=Rd.tupF (zg1 n21 k21) rfl (by simp only[zbq5,zbr1];decide)
 refine zb8 (fun z22 J22 b22 y22 k22=>?_)
 have n22:z22≠a:=L21_.ne b22
 have L22_:=L21_.same y22
 have s22_:=s21_.trans y22
 have r19_22:=r19_21.same (Same.rm (p:=a) y22)
 have r20_22:=r20_21.same (Same.rm (p:=a) y22)
 have r21_22:=r21_.same (Same.rm (p:=a) y22)
 have R22:=fun w hw=>(R21 w hw).same (Same.rm (p:=a) y22)
 have K22:=y22 _ _ K21
 have r22_:Rd (rm a J22) (.ref z22) 1:=Rd.tupF (zg1 n22 k22) rfl (by simp only[zbq5,zbr1];decide)
 refine zc4 (fun z23 J23 b23 y23 k23=>?_)
 have n23:z23≠a:=L22_.ne b23
 have L23_:=L22_.same y23
 have s23_:=s22_.trans y23
 have r19_23:=r19_22.same (Same.rm (p:=a) y23)
 have r20_23:=r20_22.same (Same.rm (p:=a) y23)
 have r21_23:=r21_22.same (Same.rm (p:=a) y23)
 have r22_23:=r22_.same (Same.rm (p:=a) y23)
 have R23:=fun w hw=>(R22 w hw).same (Same.rm (p:=a) y23)
 have K23:=y23 _ _ K22
 have RL23:∀ w∈([.ref z19,.int 7,.ref z20,.ref z21,.ref z22]:List V),Rd (rm a J23) w 1:=fun w hw=>by
  simp only[zbq8,zbs5,or_false] at hw
  rcases hw with rfl|rfl|rfl|rfl|rfl
  ·exact r19_23
  ·exact Rd.int _ _
  ·exact r20_23
  ·exact r21_23
  ·exact r22_23
 generalize hA23:([.ref z19,.int 7,.ref z20,.ref z21,.ref z22]:List V)=A23 at RL23 k23
 have lA23:A23.length=5:=by rw[← hA23];rfl
 clear hA23
 refine zi9 K23 k23 (by rw[lC18,lA23,sizeLine_eq];omega) (fun z24 J24 b24 y24 k24=>?_)
 have L24_:=L23_.same y24
 have s24_:=s23_.trans y24
 have RC24:∀ w∈C18++A23,Rd (rm a J24) w 1:=fun w hw=>by
  rcases zbr2.mp hw with hw|hw
  ·exact (R23 w hw).same (Same.rm (p:=a) y24)
  ·exact (RL23 w hw).same (Same.rm (p:=a) y24)
 have lC24:(C18++A23).length=19:=by rw[zbp9,lC18,lA23]
 generalize C18++A23=C24 at RC24 lC24 k24
 have hP:=k24
 have RP:=RC24
 have lP:=lC24
 have sP:=s24_
 have LP:=L24_
 have rw0:=fun (J:Hp) (sJ:Same J24 J)=>(keep (sP.trans sJ))
 have two:∀ {J:Hp}{p:Addr}{ys:List V},Same J24 J->p≠a->J p=some (.lst ys)->ys.length<=18->(∀ y∈ys,Rd (rm a J) y 1)->Q (.ref p) J:=fun {J p ys} sJ np h hl hy=>ret _ (sP.trans sJ) (RB.lst (zg1 np h) hl hy)
 have rds:∀ {J:Hp},Same J24 J->∀ y∈bs.map V.ref,Rd (rm a J) y 1:=fun {J} sJ=>(rw0 J sJ).rds
 have out:∀ {J:Hp},Same J24 J->J r=some (.lst (bs.map V.ref)):=fun {J} sJ=>(zz1 (rw0 J sJ).out).2
 have row:∀ {J:Hp},Same J24 J->∀ (j:Nat) t x,bs[j]?=some t->xs[j]?=some x->J t=some (.tup [.int x.1,.int x.2.1,.int x.2.2]):=fun {J} sJ j t x e1 e2=>(zz1 ((rw0 J sJ).row j t x e1 e2)).2
 have c2l:(cutV (bs.map V.ref) none (some (i:Int))).length+(cutV (bs.map V.ref) (some ((i:Int)+1)) none).length+1=xs.length:=by rw[zao1 (by rw[zbp5];omega),zbp5,bl]
 refine zg3 hP ?_
 rw[lP]
 refine zd3 (fun g1=>?_) (fun g1=>?_)
 ·walk_at "wh"
  refine zf9 (SqL.of (out (Same.refl _))) (fun p1 I1 f1 t1 h1=>?_)
  refine zl4 (t1 _ _ hP) (by walk_at "om") (by rw[lP];omega) (fun v hv=>?_)
  refine zc4 (fun p2 I2 f2 t2 h2=>?_)
  refine zi9 (t2 _ _ h1) h2 (by rw[sizeLine_eq,zbs0];omega) (fun p3 I3 f3 t3 h3=>?_)
  have u3:=(t1.trans t2).trans t3
  refine zf9 (SqL.of (out u3)) (fun p4 I4 f4 t4 h4=>?_)
  refine zi9 (t4 _ _ h3) h4 (by rw[sizeLine_eq,zbp9,zbs0];omega) (fun p5 I5 f5 t5 h5=>?_)
  have u5:=(u3.trans t4).trans t5
  walk_at "wh"
  refine two u5 ((LP.same (u3.trans t4)).ne f5) h5 (by rw[zbp9,zbp9,zbs0];omega) (fun y hy=>?_)
  rcases zbr2.mp hy with hy|hy
  ·rcases zbr2.mp hy with hy|hy
   ·exact rds u5 y (zf6 hy)
   ·rw[zbu5.mp hy];exact (RP v hv).same (Same.rm (p:=a) u5)
  ·exact rds u5 y (zf6 hy)
 refine zd3 (fun g2=>?_) (fun g2=>?_)
 ·walk_at "wh"
  refine zf9 (SqL.of (out (Same.refl _))) (fun p1 I1 f1 t1 h1=>?_)
  refine zf9 (SqL.of (out t1)) (fun p4 I4 f4 t4 h4=>?_)
  refine zi9 (t4 _ _ h1) h4 (by rw[sizeLine_eq];omega) (fun p5 I5 f5 t5 h5=>?_)
  have u5:=(t1.trans t4).trans t5
  walk_at "wh"
  refine two u5 ((LP.same (t1.trans t4)).ne f5) h5 (by rw[zbp9];omega) (fun y hy=>?_)
  rcases zbr2.mp hy with hy|hy<;>exact rds u5 y (zf6 hy)
 refine zd3 (fun g3=>?_) (fun g3=>?_)
 ·walk_at "wh"
  refine zf9 (SqL.of (out (Same.refl _))) (fun p1 I1 f1 t1 h1=>?_)
  refine zd4 (v:=.ref t) (out t1) ati ?_
  refine zd4 (v:=.ref t) (out t1) ati ?_
  refine zc4 (fun p2 I2 f2 t2 h2=>?_)
  refine zi9 (t2 _ _ h1) h2 (by rw[sizeLine_eq];simp only[zbq5,zbr1];omega) (fun p3 I3 f3 t3 h3=>?_)
  have u3:=(t1.trans t2).trans t3
  refine zf9 (SqL.of (out u3)) (fun p4 I4 f4 t4 h4=>?_)
  refine zi9 (t4 _ _ h3) h4 (by rw[sizeLine_eq,zbp9];simp only[zbq5,zbr1];omega) (fun p5 I5 f5 t5 h5=>?_)
  have u5:=(u3.trans t4).trans t5
  have tm:V.ref t∈bs.map V.ref:=zbr5.mpr ⟨t,zbq0 et,rfl⟩
  walk_at "wh"
  refine two u5 ((LP.same (u3.trans t4)).ne f5) h5 (by rw[zbp9,zbp9];simp only[zbq5,zbr1];omega) (fun y hy=>?_)
  rcases zbr2.mp hy with hy|hy
  ·rcases zbr2.mp hy with hy|hy
   ·exact rds u5 y (zf6 hy)
   ·simp only[zbq8,zbs5,or_false] at hy
    rcases hy with rfl|rfl<;>exact rds u5 _ tm
  ·exact rds u5 y (zf6 hy)
 refine zd3 (fun g4=>?_) (fun g4=>?_)
 ·walk_at "wh"
  refine zf9 (SqL.of (out (Same.refl _))) (fun p1 I1 f1 t1 h1=>?_)
  refine zf9 (SqL.of (out t1)) (fun p2 I2 f2 t2 h2=>?_)
  refine rv_rd (SqL.of h2) (fun p6 I6 f6 t6 h6=>?_)
  have u6:=(t1.trans t2).trans t6
  have la:=zv0 (xs:=bs.map V.ref) (lo:=none) (hi:=some (i:Int))
  have lb:=zv0 (xs:=bs.map V.ref) (lo:=some (i:Int)) (hi:=some ((i:Int)+2))
  have lc:=zv0 (xs:=bs.map V.ref) (lo:=some ((i:Int)+2)) (hi:=none)
  have ex3:(cutV (bs.map V.ref) none (some (i:Int))).length+(cutV (bs.map V.ref) (some (i:Int)) (some ((i:Int)+2))).length+(cutV (bs.map V.ref) (some ((i:Int)+2)) none).length<=18:=by
   have e1:(cutV (bs.map V.ref) none (some (i:Int))).length<=i:=by rw[zo8 (by walk_at "om"),zbt0];omega
   have e2:(cutV (bs.map V.ref) (some (i:Int)) (some ((i:Int)+2))).length<=2:=by
    unfold cutV
    rw[HT.sIx_nat,show (i:Int)+2=((i+2:Nat):Int) by walk_at "om",HT.sIx_nat,zbt0]
    omega
   have e3:(cutV (bs.map V.ref) (some ((i:Int)+2)) none).length<=10 - i:=by rw[zp8 (by walk_at "om"),zbu1,zbp5];omega
   omega
  refine zi9 ((t2.trans t6) _ _ h1) h6 (by rw[sizeLine_eq,zbu8];omega) (fun p3 I3 f3 t3 h3=>?_)
  have u3:=u6.trans t3
  refine zf9 (SqL.of (out u3)) (fun p4 I4 f4 t4 h4=>?_)
  refine zi9 (t4 _ _ h3) h4 (by rw[sizeLine_eq,zbp9,zbu8];omega) (fun p5 I5 f5 t5 h5=>?_)
  have u5:=(u3.trans t4).trans t5
  walk_at "wh"
  refine two u5 ((LP.same (u3.trans t4)).ne f5) h5 (by rw[zbp9,zbp9,zbu8];omega) (fun y hy=>?_)
  rcases zbr2.mp hy with hy|hy
  ·rcases zbr2.mp hy with hy|hy
   ·exact rds u5 y (zf6 hy)
   ·exact rds u5 y (zf6 (List.mem_reverse.mp hy))
  ·exact rds u5 y (zf6 hy)
 refine zd3 (fun g5=>?_) (fun g5=>?_)
 ·walk_at "wh"
  refine rv_rd (SqL.of (out (Same.refl _))) (fun p6 I6 f6 t6 h6=>?_)
  walk_at "wh"
  refine two t6 (LP.ne f6) h6 (by rw[zbu8,zbp5];omega) (fun y hy=>rds t6 y (List.mem_reverse.mp hy))
 refine zd3 (fun g6=>?_) (fun g6=>?_)
 ·walk_at "wh"
  refine zc9 (zd3 (fun g7=>?_) (fun g7=>?_))
  ·walk_at "wh"
   refine zc4 (fun p1 I1 f1 t1 h1=>?_)
   refine zak5 (SqL.of (out t1)) (fun p2 I2 f2 t2 h2=>?_)
   refine zc4 (fun p3 I3 f3 t3 h3=>?_)
   have u3:=(t1.trans t2).trans t3
   refine zq5 (by decide) (fun md m0 m1=>?_)
   refine zl4 h3 (by walk_at "om") (by simp only[zbq5,zbr1];omega) (fun v hv=>?_)
   walk_at "wh"
   refine ret v (sP.trans u3) ?_
   have rr:RB (rm a I3) (.ref r):=RB.lst (rw0 I3 u3).out (by rw[zbp5];omega) (rds u3)
   simp only[zbq8,zbs5,or_false] at hv
   rcases hv with rfl|rfl|rfl|rfl|rfl|rfl|rfl
   ·exact RB.lst (zg1 (LP.ne f1) ((t2.trans t3) _ _ h1)) (by show 0<=18;decide) (fun y hy=>by cases hy)
   ·exact RB.non _
   ·exact RB.tup (zg1 ((LP.same t1).ne f2) (t3 _ _ h2)) (by rw[zbp5];omega) (rds u3)
   ·exact rr
   ·exact rr
   ·exact rr
   ·exact rr
  ·walk_at "wh"
   refine zv1 (SqL.of (out (Same.refl _))) (fun m I1 f1 t1 h1=>?_)
   have nm:m≠a:=LP.ne f1
   refine zb8 (fun p2 I2 f2 t2 h2=>?_)
   refine zag0 (t2 _ _ h1) (zaw1 (by walk_at "om") (by rw[zbp5];omega)) (fun I3 c3 h3=>?_)
   have u2:=t1.trans t2
   have u3:Same J24 I3:=u2.chg f1 c3
   refine zd4 (v:=.ref to) (out u3) ato ?_
   refine zh4 (v:=.int xo.1) (row u3 o to xo eto exo) rfl ?_
   refine zd4 (v:=.ref to) (out u3) ato ?_
   refine zh4 (v:=.int xo.2.1) (row u3 o to xo eto exo) rfl ?_
   refine zd4 (v:=.ref to) (out u3) ato ?_
   refine zh4 (v:=.int xo.2.2) (row u3 o to xo eto exo) rfl ?_
   refine zb8 (fun p4 I4 f4 t4 h4=>?_)
   refine zag0 (t4 _ _ h3) (zaw1 (by walk_at "om") (by rw[List.length_set,zbp5];omega)) (fun I5 c5 h5=>?_)
   have u5:Same J24 I5:=(u3.trans t4).chg f1 c5
   have n2a:p2≠a:=(LP.same t1).ne f2
   have n4a:p4≠a:=(LP.same u3).ne f4
   have n2m:p2≠m:=Ne.symm (za5 h1 f2)
   have n4m:p4≠m:=Ne.symm (za5 h3 f4)
   walk_at "wh"
   refine two u5 nm h5 (by rw[List.length_set,List.length_set,zbp5];omega) (fun y hy=>?_)
   rcases List.mem_or_eq_of_mem_set hy with hy|rfl
   ·rcases List.mem_or_eq_of_mem_set hy with hy|rfl
    ·exact rds u5 y hy
    ·exact Rd.tupF (zg1 n2a (c5 _ _ n2m (t4 _ _ (c3 _ _ n2m h2)))) rfl (by simp only[zbq5,zbr1];decide)
   ·exact Rd.tupF (zg1 n4a (c5 _ _ n4m h4)) rfl (by simp only[zbq5,zbr1];decide)
 ·walk_at "wh"
  refine br_F ?_
  refine zc4 (fun p1 I1 f1 t1 h1=>?_)
  refine zak5 (SqL.of (out t1)) (fun p2 I2 f2 t2 h2=>?_)
  refine zc4 (fun p3 I3 f3 t3 h3=>?_)
  have u3:=(t1.trans t2).trans t3
  refine zq5 (by decide) (fun md m0 m1=>?_)
  refine zl4 h3 (by walk_at "om") (by simp only[zbq5,zbr1];omega) (fun v hv=>?_)
  walk_at "wh"
  refine ret v (sP.trans u3) ?_
  have rr:RB (rm a I3) (.ref r):=RB.lst (rw0 I3 u3).out (by rw[zbp5];omega) (rds u3)
  simp only[zbq8,zbs5,or_false] at hv
  rcases hv with rfl|rfl|rfl|rfl|rfl|rfl|rfl
  ·exact RB.lst (zg1 (LP.ne f1) ((t2.trans t3) _ _ h1)) (by show 0<=18;decide) (fun y hy=>by cases hy)
  ·exact RB.non _
  ·exact RB.tup (zg1 ((LP.same t1).ne f2) (t3 _ _ h2)) (by rw[zbp5];omega) (rds u3)
  ·exact rr
  ·exact rr
  ·exact rr
  ·exact rr
structure StW (H:Hp) (p:Addr) (rs:List (Addr×List Addr)) (xss:List (List (Int×Int×Int))):Prop where
 out:H p=some (.lst (rs.map fun r=>V.ref r.1))
 len:rs.length=xss.length
 row:∀ (i:Nat) r xs,rs[i]?=some r->xss[i]?=some xs->RwAt H r.1 r.2 xs
theorem StW.same {H H':Hp}{p:Addr}{rs:List (Addr×List Addr)}{xss:List (List (Int×Int×Int))}(R:StW H p rs xss) (s:Same H H'):StW H' p rs xss:=⟨s _ _ R.out,R.len,fun i r xs e1 e2=>(R.row i r xs e1 e2).same s⟩
theorem StW.sh {H:Hp}{p:Addr}{rs:List (Addr×List Addr)}{xss:List (List (Int×Int×Int))}(R:StW H p rs xss):ShV H (.ref p) (stmD xss):=.lst R.out (ShL.idx (by rw[zbp5,zbp5,R.len]) fun i x d h1 h2=>by
 rw[zbq2] at h1 h2
 obtain⟨b,eb,rfl⟩:=zbq7.mp h1
 obtain⟨z,ez,rfl⟩:=zbq7.mp h2
 exact (R.row i b z eb ez).sh)
theorem StAt.toW {H:Hp}{p:Addr}{rs:List (Addr×List Addr)}{xss:List (List (Int×Int×Int))}(R:StAt H p rs xss):StW H p rs xss:=⟨R.out,R.len,fun i r xs e1 e2=>(R.row i r xs e1 e2).same (zn7 _ _)⟩
theorem StW.rbs {H:Hp}{p:Addr}{rs:List (Addr×List Addr)}{xss:List (List (Int×Int×Int))}(R:StW H p rs xss) (h:∀ xs∈xss,xs.length<=10):∀ x∈rs.map fun r=>V.ref r.1,RB H x:=fun x hx=>by
 obtain⟨r,hr,rfl⟩:=zbr5.mp hx
 obtain⟨i,ei⟩:=zbs8 hr
 obtain⟨z,ez⟩:∃ z,xss[i]?=some z:=⟨_,zbp6 (by have:=(zbp8.mp ei).1;have:=R.len;omega)⟩
 have R1:=R.row i r z ei ez
 have:=h z (zbq0 ez)
 have:=R1.len
 exact RB.lst R1.out (by rw[zbp5];omega) R1.rds
@[irreducible] def zg5:Sp:=fun vs H Q _=>∃ (a st:Addr) (b:Int) (rs:List (Addr×List Addr)) (xss:List (List (Int×Int×Int))),vs=[.ref a,.ref st]/\zb2 H a b/\b<=90000/\StW (rm a H) st rs xss/\(1<=xss.length/\xss.length<=10)/\(∀ xs∈xss,1<=xs.length/\xs.length<=10)/\∀ v H',Chg a H H'->zb2 H' a (b+6)->SB (rm a H') v->Q v H'
theorem zbc2 {H:Hp}{a st:Addr}{b:Int}{rs:List (Addr×List Addr)}{xss:List (List (Int×Int×Int))}{Q:VK}{E:XK}(hL:zb2 H a b) (hb:b<=90000) (R:StW (rm a H) st rs xss) (h1:1<=xss.length/\xss.length<=10) (h2:∀ xs∈xss,1<=xs.length/\xs.length<=10) (q:∀ v H',Chg a H H'->zb2 H' a (b+6)->SB (rm a H') v->Q v H'):zg5 [.ref a,.ref st] H Q E:=by
 unfold zg5;exact⟨a,st,b,rs,xss,rfl,hL,hb,R,h1,h2,q⟩
set_option maxHeartbeats 0 in
theorem zaf1 {f:Addr}{fd:FuncData}(F:Fun K "_law_bent" "_law_bent" zj9 f fd) (N:Nm mg) (zbn6:Def P w K mg base CX0 3 "_law_bent_row" ["_law_left_here","_law_row"] zd0) (zbn2:Def P w K mg base CX0 2 "_law_draw" ["_law_left_here","_law_base"] zc5):FnOk P w K mg base CX0 4 f fd ["_law_left_here","_law_stream"] zg5:=by
 refine F.ok zo6 (fun vs H Q E h=>by unfold zg5 at h;obtain⟨_,_,_,_,_,rfl,_⟩:=h;rfl) (fun cdv A outer s H vs Q E hr h=>?_)
 unfold zg5 at h
 obtain⟨a,st,b,rs,xss,rfl,hL,hb,S0,⟨l1,l2⟩,hx,q⟩:=h
 have hu:=hu40 hr
 have sl:=S0.len
 have off:=zn7 a
 have hx2:∀ xs∈xss,xs.length<=10:=fun xs h=>(hx xs h).2
 refine⟨_,(pssTo (zb1 (psOf (psS (i:=2) zo6.nd (pD zbn2 hr zd5 (za0 (pq 0) (za0 (pB (zo1 (K:=K) rfl) N.len_ zi6 (za0 (pq 1) za3)) za3)))))
   (zb1 (psOf (psS (i:=3) zo6.nd (pD zbn2 hr zd5 (za0 (pq 0) (za0 za2 za3)))))
   (zb1 (psOf (zx9 (ptC (zn2 (K:=K) rfl (by exact hu)) (pq 3) za2) (zh0 (zj6 (ze6 oAdd (za6 (zb4 (slXK (K:=K) rfl) (pq 1) zd2 (ze1 (pq 2)))) (za6 (zb4 (slXK (K:=K) rfl) (pq 1) (ze1 (zc1 oAdd (pq 2) za2)) zd2))))) zi8))
   (zb1 (psOf (zx9 (ptC (zn2 (K:=K) rfl (by exact hu)) (pq 3) za2) (zh0 (zj6 (ze6 oAdd (za6 (zb4 (slXK (K:=K) rfl) (pq 1) zd2 (ze1 (zc1 oAdd (pq 2) za2)))) (za6 (zb4 (slXK (K:=K) rfl) (pq 1) (ze1 (pq 2)) zd2))))) zi8))
   (zb1 (psOf (zx9 (ptC (zn2 (K:=K) rfl (by exact hu)) (pq 3) za2) (zh0 (zj6 (ze6 oAdd (ze6 oAdd (za6 (zb4 (slXK (K:=K) rfl) (pq 1) zd2 (ze1 (pq 2)))) (za6 (peRv (K:=K) rfl (zb4 (slXK (K:=K) rfl) (pq 1) (ze1 (pq 2)) (ze1 (zc1 oAdd (pq 2) za2)))))) (za6 (zb4 (slXK (K:=K) rfl) (pq 1) (ze1 (zc1 oAdd (pq 2) za2)) zd2))))) zi8))
   (zb1 (psOf (zx9 (ptC (zn2 (K:=K) rfl (by exact hu)) (pq 3) za2) (zh0 (zj6 (zl9 (K:=K) rfl (zo0 (za1 (zo0 zb9) (za1 zac0 (za1 (za6 (pT (cTupK (K:=K) rfl) N.tuple_ zu9 (za0 (pq 1) za3))) (za1 zas2 (za1 (za6 (peRv (K:=K) rfl (pq 1))) zb9) ze4)) ze4) zaj1)) (za6 (pD zbn2 hr zd5 (za0 (pq 0) (za0 za2 za3))))))) zi8))
   (zb1 (psOf (zx9 (ptC (oLtX (by exact hu)) (pq 3) za2) (zh0 (zj6 (ze6 oAdd (ze6 oAdd (za6 (zb4 (slXK (K:=K) rfl) (pq 1) zd2 (ze1 (pq 2)))) (zo0 (za1 (za6 (pD zbn6 hr zd5 (za0 (pq 0) (za0 (zd1 (K:=K) rfl (pq 1) (pq 2)) za3)))) zb9))) (za6 (zb4 (slXK (K:=K) rfl) (pq 1) (ze1 (zc1 oAdd (pq 2) za2)) zd2))))) zi8))
   (zh0 (zj6 (za6 (pq 1)))))))))))),?_⟩
 refine zg3 (off _ _ _ S0.out) ?_
 rw[zbp5,sl]
 refine ze5 hL (by walk_at "om") (by walk_at "om") (by walk_at "om") (fun at_ H1 a0 a1 c1 L1=>?_)
 obtain⟨i,rfl⟩:∃ i:Nat,at_=i:=⟨at_.toNat,by walk_at "om"⟩
 refine ze5 L1 (by walk_at "om") (by walk_at "om") (by walk_at "om") (fun ch H3 w0 w1 c2 L3=>?_)
 have c03:=c1.trans c2
 have S3:=S0.same (Chg.rm c03)
 have keep:∀ {J:Hp},Chg a H3 J->StW (rm a J) st rs xss:=fun {J} sJ=>S3.same (Chg.rm sJ)
 have out:∀ {J:Hp},Chg a H3 J->J st=some (.lst (rs.map fun r=>V.ref r.1)):=fun {J} sJ=>(zz1 (keep sJ).out).2
 have rbs:∀ {J:Hp},Chg a H3 J->∀ x∈rs.map fun r=>V.ref r.1,RB (rm a J) x:=fun {J} sJ=>(keep sJ).rbs hx2
 have lm:(rs.map fun r=>V.ref r.1).length=xss.length:=by rw[zbp5,sl]
 have fin:∀ {J:Hp}{p:Addr}{ys:List V}{c:Int},c<=b+6->Chg a H3 J->zb2 J a c->p≠a->J p=some (.lst ys)->ys.length<=1000->(∀ y∈ys,RB (rm a J) y)->Q (.ref p) J:=fun {J p ys c} hc sJ LJ np h hl hy=>q _ J (c03.trans sJ) (LJ.up hc) (SB.lst (zg1 np h) hl hy)
 clear S0 c1 c2 L1
 have c2l:=zao1 (xs:=rs.map fun r=>V.ref r.1) (k:=i) (by rw[lm];omega)
 have clen:∀ {lo hi:Option Int},(cutV (rs.map fun r=>V.ref r.1) lo hi).length<=10:=fun {lo hi}=>by have:=zv0 (xs:=rs.map fun r=>V.ref r.1) (lo:=lo) (hi:=hi);omega
 refine zd3 (fun g1=>?_) (fun g1=>?_)
 ·walk_at "wh"
  refine zf9 (SqL.of (out (Chg.refl _ _))) (fun p1 I1 f1 t1 h1=>?_)
  refine zf9 (SqL.of (out t1.toChg)) (fun p4 I4 f4 t4 h4=>?_)
  have x1:=clen (lo:=none) (hi:=some (i:Int))
  have x2:=clen (lo:=some ((i:Int)+1)) (hi:=none)
  refine zi9 (t4 _ _ h1) h4 (by rw[sizeLine_eq];omega) (fun p5 I5 f5 t5 h5=>?_)
  have u5:=(t1.trans t4).trans t5
  walk_at "wh"
  refine fin (c:=b+2) (by walk_at "om") u5.toChg ((L3.same u5).up (by walk_at "om")) ((L3.same (t1.trans t4)).ne f5) h5 (by rw[zbp9];omega) (fun y hy=>?_)
  rcases zbr2.mp hy with hy|hy<;>exact rbs u5.toChg y (zf6 hy)
 refine zd3 (fun g2=>?_) (fun g2=>?_)
 ·walk_at "wh"
  refine zf9 (SqL.of (out (Chg.refl _ _))) (fun p1 I1 f1 t1 h1=>?_)
  refine zf9 (SqL.of (out t1.toChg)) (fun p4 I4 f4 t4 h4=>?_)
  have x1:=clen (lo:=none) (hi:=some ((i:Int)+1))
  have x2:=clen (lo:=some (i:Int)) (hi:=none)
  refine zi9 (t4 _ _ h1) h4 (by rw[sizeLine_eq];omega) (fun p5 I5 f5 t5 h5=>?_)
  have u5:=(t1.trans t4).trans t5
  walk_at "wh"
  refine fin (c:=b+2) (by walk_at "om") u5.toChg ((L3.same u5).up (by walk_at "om")) ((L3.same (t1.trans t4)).ne f5) h5 (by rw[zbp9];omega) (fun y hy=>?_)
  rcases zbr2.mp hy with hy|hy<;>exact rbs u5.toChg y (zf6 hy)
 refine zd3 (fun g3=>?_) (fun g3=>?_)
 ·walk_at "wh"
  refine zf9 (SqL.of (out (Chg.refl _ _))) (fun p1 I1 f1 t1 h1=>?_)
  refine zf9 (SqL.of (out t1.toChg)) (fun p2 I2 f2 t2 h2=>?_)
  refine rv_rd (SqL.of h2) (fun p6 I6 f6 t6 h6=>?_)
  have x1:=clen (lo:=none) (hi:=some (i:Int))
  have x2:=clen (lo:=some (i:Int)) (hi:=some ((i:Int)+2))
  have x3:=clen (lo:=some ((i:Int)+2)) (hi:=none)
  have u6:=(t1.trans t2).trans t6
  refine zi9 ((t2.trans t6) _ _ h1) h6 (by rw[sizeLine_eq,zbu8];omega) (fun p3 I3 f3 t3 h3=>?_)
  have u3:=u6.trans t3
  refine zf9 (SqL.of (out u3.toChg)) (fun p4 I4 f4 t4 h4=>?_)
  refine zi9 (t4 _ _ h3) h4 (by rw[sizeLine_eq,zbp9,zbu8];omega) (fun p5 I5 f5 t5 h5=>?_)
  have u5:=(u3.trans t4).trans t5
  walk_at "wh"
  refine fin (c:=b+2) (by walk_at "om") u5.toChg ((L3.same u5).up (by walk_at "om")) ((L3.same (u3.trans t4)).ne f5) h5 (by rw[zbp9,zbp9,zbu8];omega) (fun y hy=>?_)
  rcases zbr2.mp hy with hy|hy
  ·rcases zbr2.mp hy with hy|hy
   ·exact rbs u5.toChg y (zf6 hy)
   ·exact rbs u5.toChg y (zf6 (List.mem_reverse.mp hy))
  ·exact rbs u5.toChg y (zf6 hy)
 refine zd3 (fun g4=>?_) (fun g4=>?_)
 ·walk_at "wh"
  refine zc4 (fun p1 I1 f1 t1 h1=>?_)
  refine zak5 (SqL.of (out t1.toChg)) (fun p2 I2 f2 t2 h2=>?_)
  refine rv_rd (SqL.of (out (t1.trans t2).toChg)) (fun p6 I6 f6 t6 h6=>?_)
  refine zc4 (fun p3 I3 f3 t3 h3=>?_)
  have u6:=(t1.trans t2).trans t6
  have u3:=u6.trans t3
  refine ze5 (L3.same u3) (by walk_at "om") (by walk_at "om") (by walk_at "om") (fun dd I4 d0 d1 c4 L4=>?_)
  have np3:p3≠a:=(L3.same u6).ne f3
  refine zl4 (c4 _ _ np3 h3) (by walk_at "om") (by simp only[zbq5,zbr1];omega) (fun v hv=>?_)
  have u4:Chg a H3 I4:=u3.toChg.trans c4
  have ln0:=(L3).ne f1
  walk_at "wh"
  refine q v I4 (c03.trans u4) (L4.up (by walk_at "om")) ?_
  simp only[zbq8,zbs5,or_false] at hv
  rcases hv with rfl|rfl|rfl|rfl|rfl
  ·exact SB.lst (zg1 ln0 (c4 _ _ ln0 (((t2.trans t6).trans t3) _ _ h1))) (by show 0<=1000;decide) (fun y hy=>by cases hy)
  ·exact SB.non _
  ·have n2:=(L3.same t1).ne f2
   exact SB.tup (zg1 n2 (c4 _ _ n2 ((t6.trans t3) _ _ h2))) (by walk_at "om") (rbs u4)
  ·exact SB.str _ (by decide +kernel)
  ·have n6:=(L3.same (t1.trans t2)).ne f6
   exact SB.lst (zg1 n6 (c4 _ _ n6 (t3 _ _ h6))) (by rw[zbu8];omega) (fun y hy=>rbs u4 y (List.mem_reverse.mp hy))
 refine zd3 (fun g5=>?_) (fun g5=>?_)
 ·obtain⟨r,er⟩:∃ r,rs[i]?=some r:=⟨_,zbp6 (by walk_at "om")⟩
  obtain⟨xs,exs⟩:∃ x,xss[i]?=some x:=⟨_,zbp6 (by walk_at "om")⟩
  obtain⟨y1,y2⟩:=hx xs (zbq0 exs)
  refine zf9 (SqL.of (out (Chg.refl _ _))) (fun p1 I1 f1 t1 h1=>?_)
  refine zd4 (v:=.ref r.1) (out t1.toChg) (zm2 (by rw[zbq2,er];rfl)) ?_
  refine zaj3 (L3.same t1) (by walk_at "om") ((keep t1.toChg).row i r xs er exs) y1 y2 (fun v I2 c2 L2 hv=>?_)
  have np1:=L3.ne f1
  have u2:Chg a H3 I2:=t1.toChg.trans c2
  refine zc4 (fun p3 I3 f3 t3 h3=>?_)
  have np3:=L2.ne f3
  have x1:=clen (lo:=none) (hi:=some (i:Int))
  have x2:=clen (lo:=some ((i:Int)+1)) (hi:=none)
  refine zi9 (t3 _ _ (c2 _ _ np1 h1)) h3 (by rw[sizeLine_eq,zbs0];omega) (fun p4 I4 f4 t4 h4=>?_)
  have u4:Chg a H3 I4:=u2.same (t3.trans t4)
  refine zf9 (SqL.of (out u4)) (fun p5 I5 f5 t5 h5=>?_)
  refine zi9 (t5 _ _ h4) h5 (by rw[sizeLine_eq,zbp9,zbs0];omega) (fun p6 I6 f6 t6 h6=>?_)
  have t26:=((t3.trans t4).trans t5).trans t6
  have u6:Chg a H3 I6:=u2.same t26
  walk_at "wh"
  refine fin (c:=b+2+3) (by walk_at "om") u6 ((L2.same t26).up (by walk_at "om")) ((L2.same ((t3.trans t4).trans t5)).ne f6) h6 (by rw[zbp9,zbp9,zbs0];omega) (fun y hy=>?_)
  rcases zbr2.mp hy with hy|hy
  ·rcases zbr2.mp hy with hy|hy
   ·exact rbs u6 y (zf6 hy)
   ·rw[zbu5.mp hy];exact hv.same (Same.rm (p:=a) t26)
  ·exact rbs u6 y (zf6 hy)
 walk_at "wh"
 exact q _ _ c03 (L3.up (by walk_at "om")) (SB.lst S3.out (by walk_at "om") (rbs (Chg.refl _ _)))
@[irreducible] def ze2:Sp:=fun vs H Q _=>∃ (a m:Addr) (b:Int) (f:Nat) (ts:List (Addr×Addr)) (ms:List (List Int×Int)),vs=[.ref a,.ref m]/\zb2 H a b/\b<=90000/\zj4 H m ts ms/\m≠a/\Off a ts/\(1<=ms.length/\ms.length<=8)/\(1<=f/\f<=8)/\(∀ x∈ms,x.1.length=f)/\∀ v H',Chg a H H'->zb2 H' a (b+6)->SB (rm a H') v->Q v H'
theorem zau7 {H:Hp}{a m:Addr}{b:Int}{f:Nat}{ts:List (Addr×Addr)}{ms:List (List Int×Int)}{Q:VK}{E:XK}(hL:zb2 H a b) (hb:b<=90000) (M:zj4 H m ts ms) (n:m≠a) (O:Off a ts) (h1:1<=ms.length/\ms.length<=8) (h2:1<=f/\f<=8) (h3:∀ x∈ms,x.1.length=f) (q:∀ v H',Chg a H H'->zb2 H' a (b+6)->SB (rm a H') v->Q v H'):ze2 [.ref a,.ref m] H Q E:=by
 unfold ze2;exact⟨a,m,b,f,ts,ms,rfl,hL,hb,M,n,O,h1,h2,h3,q⟩
theorem zj4.snoc {H:Hp}{m m' p t:Addr}{ts:List (Addr×Addr)}{ms:List (List Int×Int)}{ns:List Int}{w:Int}(M:zj4 H m ts ms) (h:H m'=some (.lst ((ts.map fun t=>V.ref t.1)++[.ref t]))) (ht:H t=some (.tup [.ref p,.int w])) (hp:H p=some (.lst (ns.map V.int))):zj4 H m' (ts++[(t,p)]) (ms++[(ns,w)]):=by
 have l:=M.len
 refine⟨by rw[h,zbt3];rfl,by rw[zbp9,zbp9,l];rfl,fun i t' x h1 h2=>?_⟩
 rcases zf0 h1 with ⟨c,e⟩|⟨c,e⟩
 ·rcases zf0 h2 with ⟨c2,e2⟩|⟨c2,e2⟩
  ·exact M.part i t' x e e2
  ·omega
 ·rcases zf0 h2 with ⟨c2,e2⟩|⟨c2,e2⟩
  ·omega
  ·rw[e,e2];exact⟨ht,hp⟩
set_option maxHeartbeats 0 in
theorem zz2 {f:Addr}{fd:FuncData}(F:Fun K "_law_beside" "_law_beside" zh3 f fd) (N:Nm mg) (zbn2:Def P w K mg base CX0 2 "_law_draw" ["_law_left_here","_law_base"] zc5) (zbn4:Def P w K mg base CX0 1 "_law_flows" ["_law_mix_here"] ze0):FnOk P w K mg base CX0 3 f fd ["_law_left_here","_law_mix_here"] ze2:=by
 refine F.ok zk3 (fun vs H Q E h=>by unfold ze2 at h;obtain⟨_,_,_,_,_,_,rfl,_⟩:=h;rfl) (fun cdv A outer s H vs Q E hr h=>?_)
 unfold ze2 at h
 obtain⟨a,m,b,f,ts,ms,rfl,hL,hb,M,nm,O,⟨l1,l2⟩,⟨f1,f2⟩,xl,q⟩:=h
 have hu:=hu40 hr
 refine⟨_,(za4 (psS (i:=2) zk3.nd (pT (zan9 (K:=K) rfl) N.list_ zm6 (za0 (zd1 (K:=K) rfl (zd1 (K:=K) rfl (pq 1) (pD zbn2 hr zd5 (za0 (pq 0) (za0 (pB (zo1 (K:=K) rfl) N.len_ zi6 (za0 (pq 1) za3)) za3)))) za2) za3)))
   (za4 (zu5 PassesOwn.never rfl (zi7 (K:=K) rfl (zp0 (za0 za2 (za0 (zaj6 uNeg za2) za3)))) (za9 (i:=3) zk3.nd rfl (by first|exact Or.inl rfl|exact Or.inr rfl)) (za4 (psS (i:=4) zk3.nd (pD zbn2 hr zd5 (za0 (pq 0) (za0 (pB (zo1 (K:=K) rfl) N.len_ zi6 (za0 (pq 2) za3)) za3))))
   (za8 (zad8 (zc1 oAdd (zd1 (K:=K) rfl (pq 2) (pq 4)) (pq 3)) (zaf6 (pq 2) (pq 4) setM)))))
   (za8 (zc2 (pD zbn4 hr zd5 (za0 (zc1 oAdd (pq 1) (zp0 (za0 (zx7 (za0 (pq 2) (za0 (zd1 (K:=K) rfl (zp0 (za0 za2 (za0 za2 (za0 (zaj6 uNeg za2) (za0 (zaj6 uNeg za2) za3))))) (pD zbn2 hr zd5 (za0 (pq 0) (za0 za2 za3)))) za3))) za3))) za3)))))),?_⟩
 refine zg3 M.out ?_
 rw[zbp5,M.len]
 refine ze5 hL (by walk_at "om") (by walk_at "om") (by walk_at "om") (fun at_ H1 a0 a1 c1 L1=>?_)
 obtain⟨i,rfl⟩:∃ i:Nat,at_=i:=⟨at_.toNat,by walk_at "om"⟩
 have M1:=M.chg c1 nm O
 obtain⟨x,ex⟩:∃ x,ms[i]?=some x:=⟨_,zbp6 (by walk_at "om")⟩
 obtain⟨t,et,at0,ht,hp⟩:=M1.ix ex
 have xf:=xl x (zbq0 ex)
 refine zd4 (v:=.ref t.1) M1.out at0 ?_
 refine zh4 (v:=.ref t.2) ht rfl ?_
 refine zv1 (SqL.of hp) (fun p H2 g2 s2 h2=>?_)
 have np:p≠a:=L1.ne g2
 refine zc4 (fun st H3 g3 s3 h3=>?_)
 have nst:st≠a:=(L1.same s2).ne g3
 have nsp:st≠p:=Ne.symm (za5 h2 g3)
 have s13:=s2.trans s3
 refine zd6 h3 ?_
 refine zk5 (xs:=[V.int 1,V.int (-1)]) (fun j σ J=>∃ (y4 y5:Option V) (ns:List Int),σ=[some (.ref a),some (.ref m),some (.ref p),y4,y5]/\Chg a H1 J/\zb2 J a (b+1+j)/\J st=some (.lst [V.int 1,V.int (-1)])/\J p=some (.lst (ns.map V.int))/\ns.length=f) ?_ ?_ ?_ ?_
 ·exact⟨_,_,x.1,rfl,s13.toChg,(L1.same s13).up (by walk_at "om"),h3,s3 _ _ h2,xf⟩
 ·rintro j σ J _ ⟨_,_,_,_,_,_,h,_⟩
  exact SqL.of h
 ·rintro j v σ J hj ⟨y4,y5,ns,rfl,cJ,LJ,hst,hpJ,nl⟩
  obtain⟨w,rfl⟩:∃ w:Int,v=.int w:=by
   have:=zbq0 hj
   simp only[zbq8,zbs5,or_false] at this
   rcases this with rfl|rfl
   ·exact⟨_,rfl⟩
   ·exact⟨_,rfl⟩
  have jl:j<2:=(zbp8.mp hj).1
  refine zg3 hpJ ?_
  rw[zbp5,nl]
  refine ze5 LJ (by walk_at "om") (by walk_at "om") (by walk_at "om") (fun kd J1 k0 k1 c2 L2=>?_)
  obtain⟨k,rfl⟩:∃ i:Nat,kd=i:=⟨kd.toNat,by walk_at "om"⟩
  have hp1:=c2 _ _ np hpJ
  obtain⟨y,ey⟩:∃ y,ns[k]?=some y:=⟨_,zbp6 (by walk_at "om")⟩
  refine zd4 (v:=.int y) hp1 (zm2 (by rw[zbq2,ey];rfl)) ?_
  refine zag0 hp1 (zaw1 (by walk_at "om") (by rw[zbp5];omega)) (fun J2 c3 h3'=>?_)
  have cJ1:Chg a H1 J1:=cJ.trans c2
  walk_at "wh"
  refine⟨_,_,ns.set k (y+w),rfl,fun b o g e=>c3 _ _ (za5 e g2) (cJ1 _ _ g e),(L2.chg c3 (Ne.symm np)).up (by walk_at "om"),c3 _ _ nsp (c2 _ _ nst hst),by rw[h3',List.map_set];rfl,by rw[List.length_set];exact nl⟩
 ·rintro σ J ⟨y4,y5,ns,rfl,cJ,LJ,hst,hpJ,nl⟩
  have MJ:=M1.chg cJ nm O
  refine zc4 (fun l1' J1 g1 s1 k1=>?_)
  refine ze5 (LJ.same s1) (by simp only[zbq5,zbr1];omega) (by walk_at "om") (by walk_at "om") (fun d J2 d0 d1 c2 L2=>?_)
  have n1:=LJ.ne g1
  refine zl4 (c2 _ _ n1 k1) (by walk_at "om") (by simp only[zbq5,zbr1];omega) (fun v hv=>?_)
  obtain⟨w,rfl⟩:∃ w:Int,v=.int w:=by
   simp only[zbq8,zbs5,or_false] at hv
   rcases hv with rfl|rfl|rfl|rfl<;>exact⟨_,rfl⟩
  have M2:=(MJ.same s1).chg c2 nm O
  have hp2:=c2 _ _ np (s1 _ _ hpJ)
  refine zb8 (fun tu J3 g3' s3' k3=>?_)
  refine zc4 (fun li J4 g4 s4 k4=>?_)
  have s34:=s3'.trans s4
  refine zi9 (M2.same s34).out k4 (by rw[zbp5,M2.len,sizeLine_eq,zbs0];omega) (fun mm J5 g5 s5 k5=>?_)
  have M5:=((M2.same s34).same s5).snoc k5 ((s4.trans s5) _ _ k3) ((s34.trans s5) _ _ hp2)
  have s25:=s34.trans s5
  have L5:=L2.same s25
  obtain⟨oa,ea⟩:=L5.some
  refine zam5 (f:=f) M5 (by rw[zbp9];omega) (by rw[zbp9,zbs0];omega) (by walk_at "om") (fun x hx=>?_) (fun r rs xss J6 s6 S6 SI=>?_)
  ·rcases zbr2.mp hx with hx|hx
   ·exact xl x hx
   ·rw[zbu5.mp hx];exact nl
  have W:=(S6.same (nw_rm ea)).toW
  have c26:Chg a H J6:=((((c1.trans cJ).same s1).trans c2).same s25).same s6
  walk_at "wh"
  refine q _ J6 c26 ((L5.same s6).up (by simp only[zbq5,zbr1];omega)) (SB.lst W.out (by rw[zbp5,W.len,SI.1];omega) (W.rbs fun xs hx=>?_))
  obtain⟨i,ei⟩:=zbs8 hx
  have:=(SI.2 i xs ei).2
  rw[zbp9,zbs0] at this
  omega
def spLaw (K:zbp7):Sp:=fun vs H Q _=>∃ (a:Addr) (ns:List Int),vs=[.ref a]/\SqL K H a (ns.map V.int)/\ns.length<=63/\∀ H',Q (.bl true) H'
theorem zae5 {ns:List Int}(h:ns.length<=63):[V.int 0].length+(cutV (ns.map V.int) none (some 40)).length<=sizeLine:=by
 rw[zo8 (by decide),zbt0,zbp5,sizeLine_eq,zbs0];omega
theorem zah6 {ns:List Int}{i:Nat}{x:V}(h:([V.int 0]++cutV (ns.map V.int) none (some 40))[i]?=some x):∃ z,x=.int z:=by
 rw[zo8 (by decide)] at h
 rcases zbr2.mp (zbq0 h) with h|h
 ·exact⟨0,by simpa using h⟩
 ·obtain⟨z,_,rfl⟩:=zbr5.mp (zbw0 h)
  exact⟨z,rfl⟩
theorem SB.at {H:Hp}{v:V}(h:SB H v):∃ d,ShV H v d/\okD 3 d/\∀ x∈zb6 d,(zb6 x).length<=18:=h
set_option maxHeartbeats 0 in
theorem ok_law {f:Addr}{fd:FuncData}(F:Fun K "law" "law" zac7 f fd) (N:Nm mg) (zbo5:Def P w K mg base CX0 4 "_law_bent" ["_law_left_here","_law_stream"] zg5) (zbn9:Def P w K mg base CX0 3 "_law_beside" ["_law_left_here","_law_mix_here"] ze2) (zbo6:Def P w K mg base CX0 1 "_law_copy" ["_law_stream"] zg9) (zbn2:Def P w K mg base CX0 2 "_law_draw" ["_law_left_here","_law_base"] zc5) (zbn4:Def P w K mg base CX0 1 "_law_flows" ["_law_mix_here"] ze0) (zbn3:Def P w K mg base CX0 3 "_law_is_stream" ["_law_hosts","_law_many","_law_stream"] zc7) (zbo7:Def P w K mg base CX0 2 "_law_left" ["_law_script","_law_k"] zg8) (zbp0:Def P w K mg base CX0 4 "_law_lot" ["_law_left_here","_law_most","_law_fields","_law_parts"] zh9) (zbo8:Def P w K mg base CX0 7 "is_stream" ["hosts","fields","stream"] zg4):FnOk P w K mg base CX0 9 f fd ["_law_script"] (spLaw K):=by
 refine F.ok zk4 (fun vs H Q E h=>by obtain⟨n,k,rfl,_⟩:=h;rfl) (fun cdv A outer s H vs Q E hr h=>?_)
 obtain⟨a,ns0,rfl,hS,hlen,k⟩:=h
 have hu:=hu40 hr
 refine⟨_,(za4 (zu5 PassesOwn.never rfl (zi7 (K:=K) rfl (zc1 oAdd (zp0 (za0 za2 za3)) (zb4 (slXK (K:=K) rfl) (pq 0) zd2 (ze1 za2)))) (za9 (i:=1) zk4.nd rfl (by first|exact Or.inl rfl|exact Or.inr rfl)) (za4 (psS (i:=2) zk4.nd (pD zbo7 hr zd5 (za0 (zp0 (za0 (pq 1) za3)) (za0 za2 za3))))
   (za4 (psS (i:=3) zk4.nd (pD zbp0 hr zd5 (za0 (pq 2) (za0 (zd1 (K:=K) rfl (zp0 (za0 za2 (za0 za2 (za0 za2 za3)))) (pD zbn2 hr zd5 (za0 (pq 2) (za0 za2 za3)))) (za0 za2 (za0 za2 za3))))))
   (za4 (psS (i:=4) zk4.nd (pB (cSumK (K:=K) rfl rfl) N.sum_ zbi1 (za0 (zd1 (K:=K) rfl (zd1 (K:=K) rfl (pq 3) za2) za2) za3)))
   (za4 (psS (i:=5) zk4.nd (pB (zo1 (K:=K) rfl) N.len_ zi6 (za0 (zd1 (K:=K) rfl (zd1 (K:=K) rfl (pq 3) za2) za2) za3)))
   (za4 (psS (i:=6) zk4.nd (pD zbn4 hr zd5 (za0 (pq 3) za3)))
   (za4 (psIf (zm9 (ptV (pD zbn3 hr zd5 (za0 (pq 4) (za0 (pq 5) (za0 (pq 6) za3)))))) (za8 (zc2 zt1)) zf1)
   (za8 (zu5 PassesOwn.never rfl (zae0 N.range_ (za0 za2 za3)) (za9 (i:=7) zk4.nd rfl (by first|exact Or.inl rfl|exact Or.inr rfl)) (za4 (psS (i:=8) zk4.nd (pq 6))
   (za4 (psCut (psIf (ptC oGt (pq 7) za2) (za8 (psS (i:=8) zk4.nd (pD zbo5 hr zd5 (za0 (pq 2) (za0 (pq 6) za3))))) zf1))
   (za4 (psCut (psIf (ptC (zn2 (K:=K) rfl (by exact hu)) (pq 7) za2) (za8 (psS (i:=8) zk4.nd (pD zbn9 hr zd5 (za0 (pq 2) (za0 (pq 3) za3))))) zf1))
   (za4 (psS (i:=9) zk4.nd (zd1 (K:=K) rfl (zp0 (za0 (pq 4) (za0 (zc1 oAdd (pq 4) za2) (za0 (pB (cMaxK (K:=K) rfl rfl) N.max_ zbf3 (za0 za2 (za0 (zc1 oSub (pq 4) za2) za3))) (za0 (pq 4) za3))))) (pD zbn2 hr zd5 (za0 (pq 2) (za0 za2 za3)))))
   (za4 (psS (i:=10) zk4.nd (zd1 (K:=K) rfl (zp0 (za0 (pq 5) (za0 (pq 5) (za0 (zc1 oAdd (pq 5) za2) (za0 (pB (cMaxK (K:=K) rfl rfl) N.max_ zbf3 (za0 za2 (za0 (zc1 oSub (pq 5) za2) za3))) za3))))) (pD zbn2 hr zd5 (za0 (pq 2) (za0 za2 za3)))))
   (za8 (zu5 PassesOwn.never rfl (zi7 (K:=K) rfl (zp0 (za0 (zx7 (za0 (pq 4) (za0 (pq 5) za3))) (za0 (zx7 (za0 (pB (cMinK (K:=K) rfl rfl) N.min_ zbh4 (za0 (pq 9) (za0 za2 za3))) (za0 (pB (cMinK (K:=K) rfl rfl) N.min_ zbh4 (za0 (pq 10) (za0 za2 za3))) za3))) za3)))) (za9 (i:=11) zk4.nd rfl (by first|exact Or.inl rfl|exact Or.inr rfl)) (za4 (psS (i:=12) zk4.nd (pD zbo6 hr zd5 (za0 (pq 8) za3)))
   (za4 (psS (i:=13) zk4.nd (pD zbo8 hr zd5 (za0 (zd1 (K:=K) rfl (pq 11) za2) (za0 (zd1 (K:=K) rfl (pq 11) za2) (za0 (pq 12) za3)))))
   (za4 (psS (i:=14) zk4.nd (pD zbn3 hr zd5 (za0 (zd1 (K:=K) rfl (pq 11) za2) (za0 (zd1 (K:=K) rfl (pq 11) za2) (za0 (pq 8) za3)))))
   (za8 (psIf (ptW (pwOr (zm9 (ptV (pB (zt6 (K:=K) rfl) N.isinstance_ zb5 (za0 (pq 13) (za0 (pTy N.bool_ zaj4) za3))))) (pwOr (ptC (zac5 (K:=K) rfl (by exact hu)) (pq 13) (pq 14)) (zs4 (ptC (zac5 (K:=K) rfl (by exact hu)) (pq 12) (pq 8)))))) (za8 (zc2 zt1)) zf1)))))))))))))))))))))
   (za8 (zc2 zt1))),?_⟩
 refine zc4 (fun p1 H1 hf1 hs1 ha1=>?_)
 refine zf9 (hs1.seq hS) (fun p2 H2 hf2 hs2 ha2=>?_)
 refine zi9 (hs2 _ _ ha1) ha2 (zae5 hlen) (fun p3 H3 hf3 hs3 ha3=>?_)
 refine zd6 ha3 ?_
 refine zk5 (xs:=[V.int 0]++cutV (ns0.map V.int) none (some 40)) (fun i σ H4=>∃ x1 x2 x3 x4 x5 x6 x7 x8 x9 x10 x11 x12 x13 x14:Option V,σ=[some (.ref a),x1,x2,x3,x4,x5,x6,x7,x8,x9,x10,x11,x12,x13,x14]/\Same H3 H4) ?_ ?_ ?_ ?_
 ·exact⟨_,_,_,_,_,_,_,_,_,_,_,_,_,_,rfl,Same.refl _⟩
 ·rintro i σ H4 _ ⟨_,_,_,_,_,_,_,_,_,_,_,_,_,_,_,h⟩
  exact SqL.of (h _ _ ha3)
 ·rintro i x σ H4 hi ⟨x1,x2,x3,x4,x5,x6,x7,x8,x9,x10,x11,x12,x13,x14,rfl,s4⟩
  obtain⟨z,rfl⟩:=zah6 hi
  refine zc4 (fun c5 H5 f5 s5 h5=>?_)
  refine zbm3 h5 (fun pl H6 f6 s6 L6=>?_)
  have fpl:H3 pl=none:=(s4.trans s5).free f6
  have s36:Same H3 H6:=(s4.trans s5).trans s6
  refine zc4 (fun q7 H7 f7 s7 h7=>?_)
  refine ze5 (L6.same s7) (by walk_at "om") (by walk_at "om") (by walk_at "om") (fun d8 H8 d80 d81 c8 L8=>?_)
  have h78:=c8 _ _ (L6.ne f7) h7
  refine zl4 h78 (by walk_at "om") (by simp only[zbq5,zbr1];omega) ?_
  intro v hv
  obtain⟨t,rfl,ht⟩:∃ t:Nat,v=.int t/\t<=40:=by
   simp only[zbq8,zbs5,or_false] at hv
   rcases hv with rfl|rfl|rfl
   ·exact⟨4,rfl,by walk_at "om"⟩
   ·exact⟨10,rfl,by walk_at "om"⟩
   ·exact⟨40,rfl,by walk_at "om"⟩
  clear hv h78 h7
  have s38:Same H3 H8:=(s36.trans s7).chg fpl c8
  refine lot_rd L8 (by walk_at "om") ht (fun h f m0 ts0 ms H9 f9 c9 L9 n9 M9 O9 _ hf9 ml9 ok9=>?_)
  have s39:=s38.chg fpl c9
  obtain⟨h40,f1,f8⟩:=hf9
  have xl:∀ x∈ms,x.1.length=f:=fun x hx=>by have:=(ok9 x hx).1.2.1;omega
  have O:OkS ms h f:=⟨ml9.1,f1,fun x hx=>by
   obtain⟨⟨o1,o2,o3,o4⟩,_⟩:=ok9 x hx
   exact⟨o1,by walk_at "om",o3,o4⟩⟩
  obtain⟨x0,ex0⟩:∃ x,ms[0]?=some x:=⟨_,zbp6 (by walk_at "om")⟩
  obtain⟨_,x0l,x0s,_⟩:=O.all x0 (zbq0 ex0)
  obtain⟨t0,et0,at0,ht0,hp0⟩:=M9.ix ex0
  obtain⟨ol,el⟩:=L9.some
  refine zd4 (v:=.ref t0.1) M9.out at0 ?_
  refine zh4 (v:=.ref t0.2) ht0 rfl ?_
  refine zbf2 hp0 ?_
  rw[x0s]
  refine zd4 (v:=.ref t0.1) M9.out at0 ?_
  refine zh4 (v:=.ref t0.2) ht0 rfl ?_
  refine zg3 hp0 ?_
  rw[zbp5,x0l]
  refine zam5 M9 ml9.1 (by walk_at "om") (by walk_at "om") xl (fun du rsD xss H10 s10 SD SI=>?_)
  have WD:StW (rm pl H10) du rsD xss:=(SD.same (nw_rm el)).toW
  have tr:=stm_ok O SI
  have xl2:∀ xs∈xss,xs.length<=10:=fun xs hx=>by
   obtain⟨i,ei⟩:=zbs8 hx
   have:=(SI.2 i xs ei).2
   omega
  have xl1:∀ xs∈xss,1<=xs.length:=fun xs hx=>by
   obtain⟨i,ei⟩:=zbs8 hx
   have il:=(zbp8.mp ei).1
   have:=(zn1 (ds:=xss.map zh5) tr).2.2.1 i (by rw[zbp5];exact il)
   rw[zbq4,zbq2,ei] at this
   obtain⟨es,e1,e2,_⟩:=zv2 this
   cases e1
   rw[zbp5] at e2
   exact e2
  have sbD:∀ {J:Hp},Chg pl H10 J->SB (rm pl J) (.ref du):=fun {J} c=>by
   have W:=WD.same (Chg.rm c)
   exact SB.lst W.out (by rw[zbp5,W.len,SI.1];omega) (W.rbs xl2)
  have shD:=(WD.same (zn7 _ _)).sh
  refine zam7 shD f1 (by walk_at "om") (fun x hx=>?_) (fun H11 s11=>?_)
  ·obtain⟨xs,hxs,rfl⟩:=zbr5.mp (show x∈xss.map zh5 from hx)
   have:=xl2 xs hxs
   show (xs.map _).length<=18
   rw[zbp5];omega
  rw[tr]
  refine zc9 (br_T ?_)
  have L11:=(L9.same s10).same s11
  have M11:=(M9.same s10).same s11
  have s311:=(s39.trans s10).trans s11
  clear L8 L6 c9 c8 s38 s36 s5 s6 h5 shD SD M9 ok9 s39
  generalize hb1:(0:Int)+1+200=b1 at L11
  have hb1:b1<=300:=by walk_at "om"
  refine zr3 (by decide) (by decide) (by decide) (by decide) ?_
  refine zn4 (fun j σ I=>∃ x7 x8 x9 x10 x11 x12 x13 x14:Option V,σ=[some (.ref a),some (.int z),some (.ref pl),some (.ref m0),some (.int h),some (.int f),some (.ref du),x7,x8,x9,x10,x11,x12,x13,x14]/\Chg pl H11 I/\zb2 I pl (b1+20*j)) ?_ ?_ ?_
  ·exact⟨_,_,_,_,_,_,_,_,rfl,Chg.refl _ _,L11.up (by walk_at "om")⟩
  ·rintro j σ I hj ⟨y7,y8,y9,y10,y11,y12,y13,y14,rfl,cI,LI⟩
   have hj:j<5:=hj
   have cDI:Chg pl H10 I:=s11.toChg.trans cI
   refine zbi0 (fun σ J=>∃ v,σ=[some (.ref a),some (.int z),some (.ref pl),some (.ref m0),some (.int h),some (.int f),some (.ref du),some (.int (0+(j:Int))),some v,y9,y10,y11,y12,y13,y14]/\Chg pl H11 J/\zb2 J pl (b1+20*j+6)/\SB (rm pl J) v) ?_ ?_
   ·walk_at "wh"
    refine zd3 (fun g=>?_) (fun g=>?_)
    ·walk_at "wh"
     refine zbc2 LI (by walk_at "om") (WD.same (Chg.rm cDI)) ⟨by rw[SI.1];exact f1,by rw[SI.1];omega⟩ (fun xs hx=>⟨xl1 xs hx,xl2 xs hx⟩) (fun v J cJ LJ SJ=>?_)
     walk_at "wh"
     exact⟨v,rfl,cI.trans cJ,LJ,SJ⟩
    ·walk_at "wh"
     exact⟨_,rfl,cI,LI.up (by walk_at "om"),sbD cDI⟩
   rintro σ I1 ⟨v1,rfl,c1,L1,S1⟩
   refine zbi0 (fun σ J=>∃ v,σ=[some (.ref a),some (.int z),some (.ref pl),some (.ref m0),some (.int h),some (.int f),some (.ref du),some (.int (0+(j:Int))),some v,y9,y10,y11,y12,y13,y14]/\Chg pl H11 J/\zb2 J pl (b1+20*j+12)/\SB (rm pl J) v) ?_ ?_
   ·walk_at "wh"
    refine zd3 (fun g=>?_) (fun g=>?_)
    ·walk_at "wh"
     refine zau7 L1 (by walk_at "om") (M11.chg c1 n9 O9) n9 O9 ml9 ⟨f1,f8⟩ xl (fun v J cJ LJ SJ=>?_)
     walk_at "wh"
     exact⟨v,rfl,c1.trans cJ,LJ.up (by walk_at "om"),SJ⟩
    ·walk_at "wh"
     exact⟨_,rfl,c1,L1.up (by walk_at "om"),S1⟩
   rintro σ I2 ⟨v2,rfl,c2,L2,S2⟩
   clear S1 L1 c1 LI cI cDI
   refine zc4 (fun l1 I3 g3 s3 h3=>?_)
   refine ze5 (L2.same s3) (by walk_at "om") (by walk_at "om") (by walk_at "om") (fun d4 I4 d40 d41 c4 L4=>?_)
   refine zl4 (c4 _ _ (L2.ne g3) h3) (by walk_at "om") (by simp only[zbq5,zbr1];omega) (fun v hv=>?_)
   obtain⟨ot,rfl⟩:∃ w:Int,v=.int w:=by
    simp only[zbq8,zbs5,or_false] at hv
    rcases hv with rfl|rfl|rfl|rfl<;>exact⟨_,rfl⟩
   clear hv
   refine zc4 (fun l5 I5 g5 s5 h5=>?_)
   refine ze5 (L4.same s5) (by walk_at "om") (by walk_at "om") (by walk_at "om") (fun d6 I6 d60 d61 c6 L6=>?_)
   refine zl4 (c6 _ _ (L4.ne g5) h5) (by walk_at "om") (by simp only[zbq5,zbr1];omega) (fun v hv=>?_)
   obtain⟨sz,rfl,sz1,sz2⟩:∃ w:Int,v=.int w/\1<=w/\w<=9:=by
    simp only[zbq8,zbs5,or_false] at hv
    rcases hv with rfl|rfl|rfl|rfl
    ·exact⟨_,rfl,by walk_at "om",by walk_at "om"⟩
    ·exact⟨_,rfl,by walk_at "om",by walk_at "om"⟩
    ·exact⟨_,rfl,by walk_at "om",by walk_at "om"⟩
    ·exact⟨_,rfl,by walk_at "om",by walk_at "om"⟩
   clear hv
   have c26:Chg pl I2 I6:=((s3.toChg.trans c4).same s5).trans c6
   have S6:=S2.same (Chg.rm c26)
   obtain⟨d,hd,od,il⟩:=S6.at
   have hd6:=hd.same (zn7 _ _)
   refine zb8 (fun t1 I7 g7 s7 h7=>?_)
   refine zb8 (fun t2 I8 g8 s8 h8=>?_)
   refine zc4 (fun l9 I9 g9 s9 h9=>?_)
   refine zd6 h9 ?_
   have s69:=(s7.trans s8).trans s9
   have hd9:=hd6.same s69
   refine zk5 (xs:=[V.ref t1,V.ref t2]) (fun j' σ J=>∃ y11 y12 y13 y14:Option V,σ=[some (.ref a),some (.int z),some (.ref pl),some (.ref m0),some (.int h),some (.int f),some (.ref du),some (.int (0+(j:Int))),some v2,some (.int ot),some (.int sz),y11,y12,y13,y14]/\Same I9 J) ?_ ?_ ?_ ?_
   ·exact⟨_,_,_,_,rfl,Same.refl _⟩
   ·rintro j' σ J _ ⟨_,_,_,_,_,hJ⟩
    exact SqL.of (hJ _ _ h9)
   ·rintro j' v σ J hj' ⟨u11,u12,u13,u14,rfl,sJ⟩
    obtain⟨t,ho,fo,rfl,htt,fo1,fo2⟩:∃ (t:Addr) (ho:Int) (fo:Nat),v=.ref t/\I9 t=some (.tup [.int ho,.int fo])/\1<=fo/\fo<=8:=by
     have:=zbq0 hj'
     simp only[zbq8,zbs5,or_false] at this
     rcases this with rfl|rfl
     ·exact⟨t1,h,f,rfl,(s8.trans s9) _ _ h7,f1,f8⟩
     ·refine⟨t2,if 40<ot then 40 else ot,(if 8<sz then 8 else sz).toNat,rfl,?_,?_,?_⟩
      ·rw[show (((if 8<sz then 8 else sz).toNat:Nat):Int)=if 8<sz then 8 else sz by split<;>omega]
       exact s9 _ _ h8
      ·split<;>omega
      ·split<;>omega
    refine zbc1 (hd9.same sJ) od.1 (fun hv J1 s1 k1=>?_)
    have sJ1:=sJ.trans s1
    refine zh4 (v:=.int ho) (sJ1 _ _ htt) rfl ?_
    refine zh4 (v:=.int fo) (sJ1 _ _ htt) rfl ?_
    refine zaq6 k1 od.1 (fun J2 s2=>?_)
    have sJ2:=sJ1.trans s2
    refine zh4 (v:=.int ho) (sJ2 _ _ htt) rfl ?_
    refine zh4 (v:=.int fo) (sJ2 _ _ htt) rfl ?_
    refine zam7 (hd9.same sJ2) fo1 (by walk_at "om") il (fun J3 s3=>?_)
    have sJ3:=sJ2.trans s3
    refine zx8 (b:=true) ?_
    refine zc9 (br_T ?_)
    walk_at "wh"
    generalize zf8 ho fo d=tb
    walk_at "wh"
    first
     | refine br_F ?_
     | refine zc9 (br_T ?_)
     | refine zc9 (br_dT rfl ?_)
    walk_at "wh"
    have nn:=(k1.same s2).same s3
    have mh:=hd9.same sJ3
    have nn2:=nn
    have mh2:=mh
    have dep:d.depth<=40:=zbt7 od.2.2 (by decide)
    have can:=od.2.1
    have ee:d.eqv d=true:=od.eqv
    clear hd9 hd6 hd k1 S2 S6 od il
    cases nn<;>cases mh
    all_goals first
     | (refine eqS_rd nn2 mh2 can can dep ?_;rw[ee];refine br_F ?_;walk_at "wh";exact⟨_,_,_,_,rfl,sJ3⟩)
     | (walk_at "wh";rw[decide_eq_true rfl];refine br_F ?_;walk_at "wh";exact⟨_,_,_,_,rfl,sJ3⟩)
   ·rintro σ J ⟨u11,u12,u13,u14,rfl,sJ⟩
    have s6J:=s69.trans sJ
    walk_at "wh"
    exact⟨_,_,_,_,_,_,_,_,rfl,(c2.trans c26).same s6J,(L6.same s6J).up (by walk_at "om")⟩
  ·rintro σ I ⟨y7,y8,y9,y10,y11,y12,y13,y14,rfl,cI,LI⟩
   walk_at "wh"
   exact⟨_,_,_,_,_,_,_,_,_,_,_,_,_,_,rfl,s311.chg fpl cI⟩
 ·rintro σ H4 ⟨_,_,_,_,_,_,_,_,_,_,_,_,_,_,rfl,_⟩
  exact k H4
end
theorem all_mk {l:PySem.W.OpenLaw}{w:World}{K:zbp7}{h:Heap}{mg:Str->Option Value}{fa:Addr}(X:K.In h) (G:h.Ns mainGlobals mg) (hfa:mg "law"=some (.ref fa))
  {f_0:Addr}{od_0 an_0:Option Addr}{sl_0:Array (Option Value)}{oc_0 kV_0 dc_0 pm_0 cd_0 ct_0:Value}{f_1:Addr}{od_1 an_1:Option Addr}{sl_1:Array (Option Value)}{oc_1 kV_1 dc_1 pm_1 cd_1 ct_1:Value}{f_2:Addr}{od_2 an_2:Option Addr}{sl_2:Array (Option Value)}{oc_2 kV_2 dc_2 pm_2 cd_2 ct_2:Value}{f_3:Addr}{od_3 an_3:Option Addr}{sl_3:Array (Option Value)}{oc_3 kV_3 dc_3 pm_3 cd_3 ct_3:Value}{f_4:Addr}{od_4 an_4:Option Addr}{sl_4:Array (Option Value)}{oc_4 kV_4 dc_4 pm_4 cd_4 ct_4:Value}{f_5:Addr}{od_5 an_5:Option Addr}{sl_5:Array (Option Value)}{oc_5 kV_5 dc_5 pm_5 cd_5 ct_5:Value}{f_6:Addr}{od_6 an_6:Option Addr}{sl_6:Array (Option Value)}{oc_6 kV_6 dc_6 pm_6 cd_6 ct_6:Value}{f_7:Addr}{od_7 an_7:Option Addr}{sl_7:Array (Option Value)}{oc_7 kV_7 dc_7 pm_7 cd_7 ct_7:Value}{f_8:Addr}{od_8 an_8:Option Addr}{sl_8:Array (Option Value)}{oc_8 kV_8 dc_8 pm_8 cd_8 ct_8:Value}{f_9:Addr}{od_9 an_9:Option Addr}{sl_9:Array (Option Value)}{oc_9 kV_9 dc_9 pm_9 cd_9 ct_9:Value}{f_10:Addr}{od_10 an_10:Option Addr}{sl_10:Array (Option Value)}{oc_10 kV_10 dc_10 pm_10 cd_10 ct_10:Value}{f_11:Addr}{od_11 an_11:Option Addr}{sl_11:Array (Option Value)}{oc_11 kV_11 dc_11 pm_11 cd_11 ct_11:Value}{f_12:Addr}{od_12 an_12:Option Addr}{sl_12:Array (Option Value)}{oc_12 kV_12 dc_12 pm_12 cd_12 ct_12:Value}{f_13:Addr}{od_13 an_13:Option Addr}{sl_13:Array (Option Value)}{oc_13 kV_13 dc_13 pm_13 cd_13 ct_13:Value}{f_14:Addr}{od_14 an_14:Option Addr}{sl_14:Array (Option Value)}{oc_14 kV_14 dc_14 pm_14 cd_14 ct_14:Value}{f_15:Addr}{od_15 an_15:Option Addr}{sl_15:Array (Option Value)}{oc_15 kV_15 dc_15 pm_15 cd_15 ct_15:Value}{f_16:Addr}{od_16 an_16:Option Addr}{sl_16:Array (Option Value)}{oc_16 kV_16 dc_16 pm_16 cd_16 ct_16:Value}{f_17:Addr}{od_17 an_17:Option Addr}{sl_17:Array (Option Value)}{oc_17 kV_17 dc_17 pm_17 cd_17 ct_17:Value}{f_18:Addr}{od_18 an_18:Option Addr}{sl_18:Array (Option Value)}{oc_18 kV_18 dc_18 pm_18 cd_18 ct_18:Value}{f_19:Addr}{od_19 an_19:Option Addr}{sl_19:Array (Option Value)}{oc_19 kV_19 dc_19 pm_19 cd_19 ct_19:Value}{f_20:Addr}{od_20 an_20:Option Addr}{sl_20:Array (Option Value)}{oc_20 kV_20 dc_20 pm_20 cd_20 ct_20:Value}{f_21:Addr}{od_21 an_21:Option Addr}{sl_21:Array (Option Value)}{oc_21 kV_21 dc_21 pm_21 cd_21 ct_21:Value}{f_22:Addr}{od_22 an_22:Option Addr}{sl_22:Array (Option Value)}{oc_22 kV_22 dc_22 pm_22 cd_22 ct_22:Value}{f_23:Addr}{od_23 an_23:Option Addr}{sl_23:Array (Option Value)}{oc_23 kV_23 dc_23 pm_23 cd_23 ct_23:Value}
  (a_0:zbr7 K mainGlobals "is_whole"=some (some (.ref f_0)))
  (l_0:K.lookup f_0=some ⟨oc_0,od_0,.func (zbs6 "is_whole" "is_whole" (zc3 zl8) (zc0 zl8) (za7 zl8) .none kV_0 dc_0 pm_0 an_0 cd_0 ct_0),sl_0⟩)
  (c_0:zbs2 K cd_0 "is_whole"=true)
  (k_0:zbr9 K (.ref f_0)=true)
  (a_1:zbr7 K mainGlobals "is_from"=some (some (.ref f_1)))
  (l_1:K.lookup f_1=some ⟨oc_1,od_1,.func (zbs6 "is_from" "is_from" (zc3 zn0) (zc0 zn0) (za7 zn0) .none kV_1 dc_1 pm_1 an_1 cd_1 ct_1),sl_1⟩)
  (c_1:zbs2 K cd_1 "is_from"=true)
  (k_1:zbr9 K (.ref f_1)=true)
  (a_2:zbr7 K mainGlobals "is_between"=some (some (.ref f_2)))
  (l_2:K.lookup f_2=some ⟨oc_2,od_2,.func (zbs6 "is_between" "is_between" (zc3 zi1) (zc0 zi1) (za7 zi1) .none kV_2 dc_2 pm_2 an_2 cd_2 ct_2),sl_2⟩)
  (c_2:zbs2 K cd_2 "is_between"=true)
  (k_2:zbr9 K (.ref f_2)=true)
  (a_3:zbr7 K mainGlobals "is_flow"=some (some (.ref f_3)))
  (l_3:K.lookup f_3=some ⟨oc_3,od_3,.func (zbs6 "is_flow" "is_flow" (zc3 zn3) (zc0 zn3) (za7 zn3) .none kV_3 dc_3 pm_3 an_3 cd_3 ct_3),sl_3⟩)
  (c_3:zbs2 K cd_3 "is_flow"=true)
  (k_3:zbr9 K (.ref f_3)=true)
  (a_4:zbr7 K mainGlobals "is_row"=some (some (.ref f_4)))
  (l_4:K.lookup f_4=some ⟨oc_4,od_4,.func (zbs6 "is_row" "is_row" (zc3 zp9) (zc0 zp9) (za7 zp9) .none kV_4 dc_4 pm_4 an_4 cd_4 ct_4),sl_4⟩)
  (c_4:zbs2 K cd_4 "is_row"=true)
  (k_4:zbr9 K (.ref f_4)=true)
  (a_5:zbr7 K mainGlobals "begins"=some (some (.ref f_5)))
  (l_5:K.lookup f_5=some ⟨oc_5,od_5,.func (zbs6 "begins" "begins" (zc3 zp7) (zc0 zp7) (za7 zp7) .none kV_5 dc_5 pm_5 an_5 cd_5 ct_5),sl_5⟩)
  (c_5:zbs2 K cd_5 "begins"=true)
  (k_5:zbr9 K (.ref f_5)=true)
  (a_6:zbr7 K mainGlobals "summed"=some (some (.ref f_6)))
  (l_6:K.lookup f_6=some ⟨oc_6,od_6,.func (zbs6 "summed" "summed" (zc3 zp6) (zc0 zp6) (za7 zp6) .none kV_6 dc_6 pm_6 an_6 cd_6 ct_6),sl_6⟩)
  (c_6:zbs2 K cd_6 "summed"=true)
  (k_6:zbr9 K (.ref f_6)=true)
  (a_7:zbr7 K mainGlobals "meets"=some (some (.ref f_7)))
  (l_7:K.lookup f_7=some ⟨oc_7,od_7,.func (zbs6 "meets" "meets" (zc3 zt2) (zc0 zt2) (za7 zt2) .none kV_7 dc_7 pm_7 an_7 cd_7 ct_7),sl_7⟩)
  (c_7:zbs2 K cd_7 "meets"=true)
  (k_7:zbr9 K (.ref f_7)=true)
  (a_8:zbr7 K mainGlobals "is_stream"=some (some (.ref f_8)))
  (l_8:K.lookup f_8=some ⟨oc_8,od_8,.func (zbs6 "is_stream" "is_stream" (zc3 zk1) (zc0 zk1) (za7 zk1) .none kV_8 dc_8 pm_8 an_8 cd_8 ct_8),sl_8⟩)
  (c_8:zbs2 K cd_8 "is_stream"=true)
  (k_8:zbr9 K (.ref f_8)=true)
  (a_9:zbr7 K mainGlobals "_law_mix"=some (some (.ref f_9)))
  (l_9:K.lookup f_9=some ⟨oc_9,od_9,.func (zbs6 "_law_mix" "_law_mix" (zc3 zl7) (zc0 zl7) (za7 zl7) .none kV_9 dc_9 pm_9 an_9 cd_9 ct_9),sl_9⟩)
  (c_9:zbs2 K cd_9 "_law_mix"=true)
  (k_9:zbr9 K (.ref f_9)=true)
  (a_10:zbr7 K mainGlobals "_law_cell_at"=some (some (.ref f_10)))
  (l_10:K.lookup f_10=some ⟨oc_10,od_10,.func (zbs6 "_law_cell_at" "_law_cell_at" (zc3 zf7) (zc0 zf7) (za7 zf7) .none kV_10 dc_10 pm_10 an_10 cd_10 ct_10),sl_10⟩)
  (c_10:zbs2 K cd_10 "_law_cell_at"=true)
  (k_10:zbr9 K (.ref f_10)=true)
  (a_11:zbr7 K mainGlobals "_law_left"=some (some (.ref f_11)))
  (l_11:K.lookup f_11=some ⟨oc_11,od_11,.func (zbs6 "_law_left" "_law_left" (zc3 zj1) (zc0 zj1) (za7 zj1) .none kV_11 dc_11 pm_11 an_11 cd_11 ct_11),sl_11⟩)
  (c_11:zbs2 K cd_11 "_law_left"=true)
  (k_11:zbr9 K (.ref f_11)=true)
  (a_12:zbr7 K mainGlobals "_law_draw"=some (some (.ref f_12)))
  (l_12:K.lookup f_12=some ⟨oc_12,od_12,.func (zbs6 "_law_draw" "_law_draw" (zc3 zj2) (zc0 zj2) (za7 zj2) .none kV_12 dc_12 pm_12 an_12 cd_12 ct_12),sl_12⟩)
  (c_12:zbs2 K cd_12 "_law_draw"=true)
  (k_12:zbr9 K (.ref f_12)=true)
  (a_13:zbr7 K mainGlobals "_law_plan"=some (some (.ref f_13)))
  (l_13:K.lookup f_13=some ⟨oc_13,od_13,.func (zbs6 "_law_plan" "_law_plan" (zc3 zj8) (zc0 zj8) (za7 zj8) .none kV_13 dc_13 pm_13 an_13 cd_13 ct_13),sl_13⟩)
  (c_13:zbs2 K cd_13 "_law_plan"=true)
  (k_13:zbr9 K (.ref f_13)=true)
  (a_14:zbr7 K mainGlobals "_law_lot"=some (some (.ref f_14)))
  (l_14:K.lookup f_14=some ⟨oc_14,od_14,.func (zbs6 "_law_lot" "_law_lot" (zc3 zl5) (zc0 zl5) (za7 zl5) .none kV_14 dc_14 pm_14 an_14 cd_14 ct_14),sl_14⟩)
  (c_14:zbs2 K cd_14 "_law_lot"=true)
  (k_14:zbr9 K (.ref f_14)=true)
  (a_15:zbr7 K mainGlobals "_law_flows"=some (some (.ref f_15)))
  (l_15:K.lookup f_15=some ⟨oc_15,od_15,.func (zbs6 "_law_flows" "_law_flows" (zc3 zi2) (zc0 zi2) (za7 zi2) .none kV_15 dc_15 pm_15 an_15 cd_15 ct_15),sl_15⟩)
  (c_15:zbs2 K cd_15 "_law_flows"=true)
  (k_15:zbr9 K (.ref f_15)=true)
  (a_16:zbr7 K mainGlobals "_law_whole"=some (some (.ref f_16)))
  (l_16:K.lookup f_16=some ⟨oc_16,od_16,.func (zbs6 "_law_whole" "_law_whole" (zc3 zi4) (zc0 zi4) (za7 zi4) .none kV_16 dc_16 pm_16 an_16 cd_16 ct_16),sl_16⟩)
  (c_16:zbs2 K cd_16 "_law_whole"=true)
  (k_16:zbr9 K (.ref f_16)=true)
  (a_17:zbr7 K mainGlobals "_law_is_row"=some (some (.ref f_17)))
  (l_17:K.lookup f_17=some ⟨oc_17,od_17,.func (zbs6 "_law_is_row" "_law_is_row" (zc3 zh1) (zc0 zh1) (za7 zh1) .none kV_17 dc_17 pm_17 an_17 cd_17 ct_17),sl_17⟩)
  (c_17:zbs2 K cd_17 "_law_is_row"=true)
  (k_17:zbr9 K (.ref f_17)=true)
  (a_18:zbr7 K mainGlobals "_law_is_stream"=some (some (.ref f_18)))
  (l_18:K.lookup f_18=some ⟨oc_18,od_18,.func (zbs6 "_law_is_stream" "_law_is_stream" (zc3 zd9) (zc0 zd9) (za7 zd9) .none kV_18 dc_18 pm_18 an_18 cd_18 ct_18),sl_18⟩)
  (c_18:zbs2 K cd_18 "_law_is_stream"=true)
  (k_18:zbr9 K (.ref f_18)=true)
  (a_19:zbr7 K mainGlobals "_law_copy"=some (some (.ref f_19)))
  (l_19:K.lookup f_19=some ⟨oc_19,od_19,.func (zbs6 "_law_copy" "_law_copy" (zc3 zj7) (zc0 zj7) (za7 zj7) .none kV_19 dc_19 pm_19 an_19 cd_19 ct_19),sl_19⟩)
  (c_19:zbs2 K cd_19 "_law_copy"=true)
  (k_19:zbr9 K (.ref f_19)=true)
  (a_20:zbr7 K mainGlobals "_law_bent_row"=some (some (.ref f_20)))
  (l_20:K.lookup f_20=some ⟨oc_20,od_20,.func (zbs6 "_law_bent_row" "_law_bent_row" (zc3 ze9) (zc0 ze9) (za7 ze9) .none kV_20 dc_20 pm_20 an_20 cd_20 ct_20),sl_20⟩)
  (c_20:zbs2 K cd_20 "_law_bent_row"=true)
  (k_20:zbr9 K (.ref f_20)=true)
  (a_21:zbr7 K mainGlobals "_law_bent"=some (some (.ref f_21)))
  (l_21:K.lookup f_21=some ⟨oc_21,od_21,.func (zbs6 "_law_bent" "_law_bent" (zc3 zj9) (zc0 zj9) (za7 zj9) .none kV_21 dc_21 pm_21 an_21 cd_21 ct_21),sl_21⟩)
  (c_21:zbs2 K cd_21 "_law_bent"=true)
  (k_21:zbr9 K (.ref f_21)=true)
  (a_22:zbr7 K mainGlobals "_law_beside"=some (some (.ref f_22)))
  (l_22:K.lookup f_22=some ⟨oc_22,od_22,.func (zbs6 "_law_beside" "_law_beside" (zc3 zh3) (zc0 zh3) (za7 zh3) .none kV_22 dc_22 pm_22 an_22 cd_22 ct_22),sl_22⟩)
  (c_22:zbs2 K cd_22 "_law_beside"=true)
  (k_22:zbr9 K (.ref f_22)=true)
  (a_23:zbr7 K mainGlobals "law"=some (some (.ref f_23)))
  (l_23:K.lookup f_23=some ⟨oc_23,od_23,.func (zbs6 "law" "law" (zc3 zac7) (zc0 zac7) (za7 zac7) .none kV_23 dc_23 pm_23 an_23 cd_23 ct_23),sl_23⟩)
  (c_23:zbs2 K cd_23 "law"=true)
  (k_23:zbr9 K (.ref f_23)=true)
  (z_all:zbr7 K mainGlobals "all"=some none)
  (z_bool:zbr7 K mainGlobals "bool"=some none)
  (z_int:zbr7 K mainGlobals "int"=some none)
  (z_isinstance:zbr7 K mainGlobals "isinstance"=some none)
  (z_len:zbr7 K mainGlobals "len"=some none)
  (z_list:zbr7 K mainGlobals "list"=some none)
  (z_max:zbr7 K mainGlobals "max"=some none)
  (z_min:zbr7 K mainGlobals "min"=some none)
  (z_range:zbr7 K mainGlobals "range"=some none)
  (z_set:zbr7 K mainGlobals "set"=some none)
  (z_sorted:zbr7 K mainGlobals "sorted"=some none)
  (z_sum:zbr7 K mainGlobals "sum"=some none)
  (z_tuple:zbr7 K mainGlobals "tuple"=some none)
  (z_zip:zbr7 K mainGlobals "zip"=some none) :
  ∃ fd:FuncData,(∀ (s:Shared) (v:Value),BindsTo s fd ⟨[v],[]⟩ [("_law_script",v)])/\∀ base:Heap,K.In base->base.Ns mainGlobals mg->FnOk l.prog w K mg base CX0 9 fa fd ["_law_script"] (spLaw K):=by
 have e:=hfa.symm.trans (zbt2 X G a_23)
 cases e
 have N:Nm mg:=⟨zbt6 X G z_all,zbt6 X G z_bool,zbt6 X G z_int,zbt6 X G z_isinstance,zbt6 X G z_len,zbt6 X G z_list,zbt6 X G z_max,zbt6 X G z_min,zbt6 X G z_range,zbt6 X G z_set,zbt6 X G z_sorted,zbt6 X G z_sum,zbt6 X G z_tuple,zbt6 X G z_zip⟩
 have F_0:=zg0 (st:=zl8) l_0 c_0 k_0
 have F_1:=zg0 (st:=zn0) l_1 c_1 k_1
 have F_2:=zg0 (st:=zi1) l_2 c_2 k_2
 have F_3:=zg0 (st:=zn3) l_3 c_3 k_3
 have F_4:=zg0 (st:=zp9) l_4 c_4 k_4
 have F_5:=zg0 (st:=zp7) l_5 c_5 k_5
 have F_6:=zg0 (st:=zp6) l_6 c_6 k_6
 have F_7:=zg0 (st:=zt2) l_7 c_7 k_7
 have F_8:=zg0 (st:=zk1) l_8 c_8 k_8
 have F_9:=zg0 (st:=zl7) l_9 c_9 k_9
 have F_10:=zg0 (st:=zf7) l_10 c_10 k_10
 have F_11:=zg0 (st:=zj1) l_11 c_11 k_11
 have F_12:=zg0 (st:=zj2) l_12 c_12 k_12
 have F_13:=zg0 (st:=zj8) l_13 c_13 k_13
 have F_14:=zg0 (st:=zl5) l_14 c_14 k_14
 have F_15:=zg0 (st:=zi2) l_15 c_15 k_15
 have F_16:=zg0 (st:=zi4) l_16 c_16 k_16
 have F_17:=zg0 (st:=zh1) l_17 c_17 k_17
 have F_18:=zg0 (st:=zd9) l_18 c_18 k_18
 have F_19:=zg0 (st:=zj7) l_19 c_19 k_19
 have F_20:=zg0 (st:=ze9) l_20 c_20 k_20
 have F_21:=zg0 (st:=zj9) l_21 c_21 k_21
 have F_22:=zg0 (st:=zh3) l_22 c_22 k_22
 have F_23:=zg0 (st:=zac7) l_23 c_23 k_23
 refine⟨zbs6 "law" "law" (zc3 zac7) (zc0 zac7) (za7 zac7) .none kV_23 dc_23 pm_23 an_23 cd_23 ct_23,fun s v=>.of_eq rfl,fun base XB GB=>?_⟩
 have zbo9:Def l.prog w K mg base CX0 1 "is_whole" ["thing"] zi0:=⟨⟨_,_,zai9 (P:=l.prog) (w:=w) (base:=base) F_0 N ,zbt2 X G a_0,k_0,F_0.binds fun _ _ _ _ _ _ us hl=>match us,hl with | [_],_=>rfl⟩⟩
 have zbn5:Def l.prog w K mg base CX0 2 "is_from" ["thing","least"] zi3:=⟨⟨_,_,zap1 (P:=l.prog) (w:=w) (base:=base) F_1 N zbo9,zbt2 X G a_1,k_1,F_1.binds fun _ _ _ _ _ _ us hl=>match us,hl with | [_,_],_=>rfl⟩⟩
 have zbo0:Def l.prog w K mg base CX0 3 "is_between" ["thing","least","most"] zf4:=⟨⟨_,_,zac9 (P:=l.prog) (w:=w) (base:=base) F_2 N zbn5,zbt2 X G a_2,k_2,F_2.binds fun _ _ _ _ _ _ us hl=>match us,hl with | [_,_,_],_=>rfl⟩⟩
 have zbp2:Def l.prog w K mg base CX0 4 "is_flow" ["thing"] zk0:=⟨⟨_,_,zap4 (P:=l.prog) (w:=w) (base:=base) F_3 N zbo0 zbn5,zbt2 X G a_3,k_3,F_3.binds fun _ _ _ _ _ _ us hl=>match us,hl with | [_],_=>rfl⟩⟩
 have zbo2:Def l.prog w K mg base CX0 5 "is_row" ["row"] zk6:=⟨⟨_,_,zay6 (P:=l.prog) (w:=w) (base:=base) F_4 N zbp2,zbt2 X G a_4,k_4,F_4.binds fun _ _ _ _ _ _ us hl=>match us,hl with | [_],_=>rfl⟩⟩
 have zbp3:Def l.prog w K mg base CX0 6 "begins" ["stream"] zm1:=⟨⟨_,_,zat4 (P:=l.prog) (w:=w) (base:=base) F_5 N zbo2,zbt2 X G a_5,k_5,F_5.binds fun _ _ _ _ _ _ us hl=>match us,hl with | [_],_=>rfl⟩⟩
 have zbp1:Def l.prog w K mg base CX0 1 "summed" ["pairs"] zm0:=⟨⟨_,_,zaz7 (P:=l.prog) (w:=w) (base:=base) F_6 N ,zbt2 X G a_6,k_6,F_6.binds fun _ _ _ _ _ _ us hl=>match us,hl with | [_],_=>rfl⟩⟩
 have zbp4:Def l.prog w K mg base CX0 2 "meets" ["ahead","row"] zn9:=⟨⟨_,_,zbc8 (P:=l.prog) (w:=w) (base:=base) F_7 N zbp1,zbt2 X G a_7,k_7,F_7.binds fun _ _ _ _ _ _ us hl=>match us,hl with | [_,_],_=>rfl⟩⟩
 have zbo8:Def l.prog w K mg base CX0 7 "is_stream" ["hosts","fields","stream"] zg4:=⟨⟨_,_,zae2 (P:=l.prog) (w:=w) (base:=base) F_8 N zbp3 zbo2 zbp4,zbt2 X G a_8,k_8,F_8.binds fun _ _ _ _ _ _ us hl=>match us,hl with | [_,_,_],_=>rfl⟩⟩
 have zbo3:Def l.prog w K mg base CX0 1 "_law_mix" ["_law_number","_law_k"] zh8:=⟨⟨_,_,zak6 (P:=l.prog) (w:=w) (base:=base) F_9 N ,zbt2 X G a_9,k_9,F_9.binds fun _ _ _ _ _ _ us hl=>match us,hl with | [_,_],_=>rfl⟩⟩
 have zbn7:Def l.prog w K mg base CX0 1 "_law_cell_at" ["_law_script","_law_k"] zd7:=⟨⟨_,_,zv6 (P:=l.prog) (w:=w) (base:=base) F_10 N ,zbt2 X G a_10,k_10,F_10.binds fun _ _ _ _ _ _ us hl=>match us,hl with | [_,_],_=>rfl⟩⟩
 have zbo7:Def l.prog w K mg base CX0 2 "_law_left" ["_law_script","_law_k"] zg8:=⟨⟨_,_,zag5 (P:=l.prog) (w:=w) (base:=base) F_11 N zbn7,zbt2 X G a_11,k_11,F_11.binds fun _ _ _ _ _ _ us hl=>match us,hl with | [_,_],_=>rfl⟩⟩
 have zbn2:Def l.prog w K mg base CX0 2 "_law_draw" ["_law_left_here","_law_base"] zc5:=⟨⟨_,_,zaf3 (P:=l.prog) (w:=w) (base:=base) F_12 N zbo3,zbt2 X G a_12,k_12,F_12.binds fun _ _ _ _ _ _ us hl=>match us,hl with | [_,_],_=>rfl⟩⟩
 have zbo4:Def l.prog w K mg base CX0 3 "_law_plan" ["_law_left_here","_law_hosts","_law_many"] zg7:=⟨⟨_,_,zag9 (P:=l.prog) (w:=w) (base:=base) F_13 N zbn2,zbt2 X G a_13,k_13,F_13.binds fun _ _ _ _ _ _ us hl=>match us,hl with | [_,_,_],_=>rfl⟩⟩
 have zbp0:Def l.prog w K mg base CX0 4 "_law_lot" ["_law_left_here","_law_most","_law_fields","_law_parts"] zh9:=⟨⟨_,_,zaj7 (P:=l.prog) (w:=w) (base:=base) F_14 N zbn2 zbo4,zbt2 X G a_14,k_14,F_14.binds fun _ _ _ _ _ _ us hl=>match us,hl with | [_,_,_,_],_=>rfl⟩⟩
 have zbn4:Def l.prog w K mg base CX0 1 "_law_flows" ["_law_mix_here"] ze0:=⟨⟨_,_,zab0 (P:=l.prog) (w:=w) (base:=base) F_15 N ,zbt2 X G a_15,k_15,F_15.binds fun _ _ _ _ _ _ us hl=>match us,hl with | [_],_=>rfl⟩⟩
 have zbo1:Def l.prog w K mg base CX0 1 "_law_whole" ["_law_thing"] zf2:=⟨⟨_,_,zac4 (P:=l.prog) (w:=w) (base:=base) F_16 N ,zbt2 X G a_16,k_16,F_16.binds fun _ _ _ _ _ _ us hl=>match us,hl with | [_],_=>rfl⟩⟩
 have zbn8:Def l.prog w K mg base CX0 2 "_law_is_row" ["_law_row","_law_hosts"] ze3:=⟨⟨_,_,zz0 (P:=l.prog) (w:=w) (base:=base) F_17 N zbo1,zbt2 X G a_17,k_17,F_17.binds fun _ _ _ _ _ _ us hl=>match us,hl with | [_,_],_=>rfl⟩⟩
 have zbn3:Def l.prog w K mg base CX0 3 "_law_is_stream" ["_law_hosts","_law_many","_law_stream"] zc7:=⟨⟨_,_,zs6 (P:=l.prog) (w:=w) (base:=base) F_18 N zbn8,zbt2 X G a_18,k_18,F_18.binds fun _ _ _ _ _ _ us hl=>match us,hl with | [_,_,_],_=>rfl⟩⟩
 have zbo6:Def l.prog w K mg base CX0 1 "_law_copy" ["_law_stream"] zg9:=⟨⟨_,_,zag6 (P:=l.prog) (w:=w) (base:=base) F_19 N ,zbt2 X G a_19,k_19,F_19.binds fun _ _ _ _ _ _ us hl=>match us,hl with | [_],_=>rfl⟩⟩
 have zbn6:Def l.prog w K mg base CX0 3 "_law_bent_row" ["_law_left_here","_law_row"] zd0:=⟨⟨_,_,zu3 (P:=l.prog) (w:=w) (base:=base) F_20 N zbn2,zbt2 X G a_20,k_20,F_20.binds fun _ _ _ _ _ _ us hl=>match us,hl with | [_,_],_=>rfl⟩⟩
 have zbo5:Def l.prog w K mg base CX0 4 "_law_bent" ["_law_left_here","_law_stream"] zg5:=⟨⟨_,_,zaf1 (P:=l.prog) (w:=w) (base:=base) F_21 N zbn6 zbn2,zbt2 X G a_21,k_21,F_21.binds fun _ _ _ _ _ _ us hl=>match us,hl with | [_,_],_=>rfl⟩⟩
 have zbn9:Def l.prog w K mg base CX0 3 "_law_beside" ["_law_left_here","_law_mix_here"] ze2:=⟨⟨_,_,zz2 (P:=l.prog) (w:=w) (base:=base) F_22 N zbn2 zbn4,zbt2 X G a_22,k_22,F_22.binds fun _ _ _ _ _ _ us hl=>match us,hl with | [_,_],_=>rfl⟩⟩
 exact ok_law (P:=l.prog) (w:=w) (base:=base) F_23 N zbo5 zbn9 zbo6 zbn2 zbn4 zbn3 zbo7 zbp0 zbo8
theorem walk {l:PySem.W.OpenLaw}{q:Program}{loose:List Str}{XP:(Str->Option Value)->Heap->Prop}{YP:World->Heap->Prop}{d:DefRec}{K:Params->zbp7}(hn:l.most=some 63) (hdf:d.params.defaults=[])
  (hY:∀ (w:World) (h:Heap),YP w h->(K w.params).In h)
  (F:∀ (w:World) (mg:Str->Option Value) (fa:Addr) (h:Heap),(K w.params).In h->h.Ns mainGlobals mg->mg d.name=some (.ref fa) ->
   ∃ fd:FuncData,(∀ (s:Shared) (u:Value),BindsTo s fd ⟨[u],[]⟩ [("_law_script",u)])/\∀ base:Heap,(K w.params).In base->base.Ns mainGlobals mg->FnOk l.prog w (K w.params) mg base CX0 9 fa fd ["_law_script"] (spLaw (K w.params))) :
  PySem.W.WalkO q loose XP YP l.row.toRowW d [] (fun f vs=>PySem.call f vs):=
 L2.walk_of (n:=63) (k:=9) (x:="_law_script") (CX:=fun _=>CX0) (sp:=fun w=>spLaw (K w.params)) hn (by decide) hdf ⟨rfl,by decide,by decide,rfl⟩ hY F (fun _ _ a ns hl _ hS=>⟨a,ns,rfl,hS,hl,fun _=>rfl⟩) fun _ _ _ _ _ z=>z
end G
theorem PySem.W.Fast.tw4595629725217125117 : True := trivial
theorem PySem.W.Fast.tw1934410178455209033 : True := trivial
theorem PySem.W.Fast.tw909992883917708889 : True := trivial
theorem PySem.W.Fast.tw7367165441750843946 : True := trivial
theorem PySem.W.Fast.tw6932289945961920341 : True := trivial
theorem PySem.W.Fast.tw11865846188699926597 : True := trivial
theorem PySem.W.Fast.tw4801055549536744361 : True := trivial
theorem PySem.W.Fast.tw16736722218779375891 : True := trivial
theorem PySem.W.Fast.tw3699857113502343499 : True := trivial
theorem PySem.W.Fast.tw720177993445724522 : True := trivial
theorem PySem.W.Fast.tw11799925739624479063 : True := trivial
theorem PySem.W.Fast.tw16090799216278590062 : True := trivial
theorem PySem.W.Fast.tw12759145296315266691 : True := trivial
theorem PySem.W.Fast.tw3916107063643828232 : True := trivial
theorem PySem.W.Fast.tw17493511041039064651 : True := trivial
open PySem PySem.W PyProof.Rows
set_option maxRecDepth 100000 in
set_option maxHeartbeats 0 in
theorem PySem.Challenge.cw_hostfields_k21_streams_looked_at_holds : PySem.Challenge.rw_hostfields_k21_streams_looked_at.Holds := by
 w_on;o_law;k_head;(case hw=>w_witness2)
 k_fill
 first|refine G.walk (l:=PySem.Challenge.rw_hostfields_k21_streams_looked_at) rfl rfl (fun w h Y=>PySem.W.kIn_of Y) ?F|refine G.walk (l:=PySem.Challenge.rw_hostfields_k21_streams_looked_at) rfl rfl (fun w h Y=>PySem.W.km_in_of Y) ?F
 case F=>
  intro w mg fa h KX GG hmg
  refine' G.all_mk KX GG hmg ?a_0 ?l_0 ?c_0 ?k_0 ?a_1 ?l_1 ?c_1 ?k_1 ?a_2 ?l_2 ?c_2 ?k_2 ?a_3 ?l_3 ?c_3 ?k_3 ?a_4 ?l_4 ?c_4 ?k_4 ?a_5 ?l_5 ?c_5 ?k_5 ?a_6 ?l_6 ?c_6 ?k_6 ?a_7 ?l_7 ?c_7 ?k_7 ?a_8 ?l_8 ?c_8 ?k_8 ?a_9 ?l_9 ?c_9 ?k_9 ?a_10 ?l_10 ?c_10 ?k_10 ?a_11 ?l_11 ?c_11 ?k_11 ?a_12 ?l_12 ?c_12 ?k_12 ?a_13 ?l_13 ?c_13 ?k_13 ?a_14 ?l_14 ?c_14 ?k_14 ?a_15 ?l_15 ?c_15 ?k_15 ?a_16 ?l_16 ?c_16 ?k_16 ?a_17 ?l_17 ?c_17 ?k_17 ?a_18 ?l_18 ?c_18 ?k_18 ?a_19 ?l_19 ?c_19 ?k_19 ?a_20 ?l_20 ?c_20 ?k_20 ?a_21 ?l_21 ?c_21 ?k_21 ?a_22 ?l_22 ?c_22 ?k_22 ?a_23 ?l_23 ?c_23 ?k_23 ?z_all ?z_bool ?z_int ?z_isinstance ?z_len ?z_list ?z_max ?z_min ?z_range ?z_set ?z_sorted ?z_sum ?z_tuple ?z_zip
  (case a_0=>k_is)
  (case l_0=>k_is)
  (case c_0=>k_is)
  (case k_0=>k_is)
  (case a_1=>k_is)
  (case l_1=>k_is)
  (case c_1=>k_is)
  (case k_1=>k_is)
  (case a_2=>k_is)
  (case l_2=>k_is)
  (case c_2=>k_is)
  (case k_2=>k_is)
  (case a_3=>k_is)
  (case l_3=>k_is)
  (case c_3=>k_is)
  (case k_3=>k_is)
  (case a_4=>k_is)
  (case l_4=>k_is)
  (case c_4=>k_is)
  (case k_4=>k_is)
  (case a_5=>k_is)
  (case l_5=>k_is)
  (case c_5=>k_is)
  (case k_5=>k_is)
  (case a_6=>k_is)
  (case l_6=>k_is)
  (case c_6=>k_is)
  (case k_6=>k_is)
  (case a_7=>k_is)
  (case l_7=>k_is)
  (case c_7=>k_is)
  (case k_7=>k_is)
  (case a_8=>k_is)
  (case l_8=>k_is)
  (case c_8=>k_is)
  (case k_8=>k_is)
  (case a_9=>k_is)
  (case l_9=>k_is)
  (case c_9=>k_is)
  (case k_9=>k_is)
  (case a_10=>k_is)
  (case l_10=>k_is)
  (case c_10=>k_is)
  (case k_10=>k_is)
  (case a_11=>k_is)
  (case l_11=>k_is)
  (case c_11=>k_is)
  (case k_11=>k_is)
  (case a_12=>k_is)
  (case l_12=>k_is)
  (case c_12=>k_is)
  (case k_12=>k_is)
  (case a_13=>k_is)
  (case l_13=>k_is)
  (case c_13=>k_is)
  (case k_13=>k_is)
  (case a_14=>k_is)
  (case l_14=>k_is)
  (case c_14=>k_is)
  (case k_14=>k_is)
  (case a_15=>k_is)
  (case l_15=>k_is)
  (case c_15=>k_is)
  (case k_15=>k_is)
  (case a_16=>k_is)
  (case l_16=>k_is)
  (case c_16=>k_is)
  (case k_16=>k_is)
  (case a_17=>k_is)
  (case l_17=>k_is)
  (case c_17=>k_is)
  (case k_17=>k_is)
  (case a_18=>k_is)
  (case l_18=>k_is)
  (case c_18=>k_is)
  (case k_18=>k_is)
  (case a_19=>k_is)
  (case l_19=>k_is)
  (case c_19=>k_is)
  (case k_19=>k_is)
  (case a_20=>k_is)
  (case l_20=>k_is)
  (case c_20=>k_is)
  (case k_20=>k_is)
  (case a_21=>k_is)
  (case l_21=>k_is)
  (case c_21=>k_is)
  (case k_21=>k_is)
  (case a_22=>k_is)
  (case l_22=>k_is)
  (case c_22=>k_is)
  (case k_22=>k_is)
  (case a_23=>k_is)
  (case l_23=>k_is)
  (case c_23=>k_is)
  (case k_23=>k_is)
  (case z_all=>k_is)
  (case z_bool=>k_is)
  (case z_int=>k_is)
  (case z_isinstance=>k_is)
  (case z_len=>k_is)
  (case z_list=>k_is)
  (case z_max=>k_is)
  (case z_min=>k_is)
  (case z_range=>k_is)
  (case z_set=>k_is)
  (case z_sorted=>k_is)
  (case z_sum=>k_is)
  (case z_tuple=>k_is)
  (case z_zip=>k_is)
