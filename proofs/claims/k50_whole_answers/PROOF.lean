import PyProof.Rows.All
import Wide.All
import OpenK.AllK
import Wide.FinOn
import Lean
import PyProof.EqAt
import PyProof.EqKinds
import PyProof.TupleCall
import PyProof.NeKinds
import PyProof.CompFree
import PyProof.EnumMake
import KE.KTryMore
import PyProof.ExcArgsOwn
import PyProof.ZipIter
import PyProof.ListRange
import KE.KIsAll
import PyProof.InstStoreFacts
import PyProof.ExcInit
import PyProof.ReprRoads
import PyProof.CallStr
import KE.KEqDict
import PyProof.EqLayable
import KE.KRevIter
import PyProof.CollectIter
import PyProof.StrLawsRepr
import PySem.Challenge.RW_hostfields_k50_whole_answers
open List renaming getElem?_eq_getElem->zcx9,length_map->zcy0,getElem?_map->zcy2,getD_eq_getElem?_getD->zcy3,getElem?_eq_some_iff->zcy4,mem_of_getElem?->zcy7,size_toArray->zcy8,mem_cons->zcz5,length_append->zcz8,getElem?_eq_none->zda0,mem_map->zda1,length_range->zda2,map_append->zda3,map_congr_left->zda4,map_map->zda5,map_cons->zda7,all_eq_true->zda9,getElem?_range->zdb0,mem_singleton->zdb2,length_cons->zdb6,not_mem_nil->zdb7,mem_cons_of_mem->zdb8,getElem?_of_mem->zdb9,mem_range->zdc0,mem_append_right->zdc1,length_drop->zdc2,getElem?_append_left->zdc3,lookup_cons->zdc4,mem_cons_self->zdc5,getElem?_append_right->zdc6,sum_cons->zdc7,ext_getElem?->zdd0,mem_append->zdd1,length_reverse->zdd4,find?_cons->zdd6,drop_of_length_le->zdd7,drop_eq_getElem_cons->zdd8,nodup_cons->zdd9,range_succ->zde2,getElem_mem->zde4,getElem?_drop->zde5,take_length->zde6,all_map->zde8,sum_append->zdf0,filterMap_cons->zdf1,replicate_succ->zdf2,length_take->zdf4,filter_cons->zdf5,getElem?_reverse->zdf8,length_nil->zdf9,nodup_append->zdg1,mem_iff_getElem->zdg2,ext_getElem->zdg3,getElem_map->zdg4,take_succ->zdg5
open PySem.W renaming Frag->zcy1,keepIn->zcy9,codeIn->zcz1,nsIn->zcz2,mg_of->zcz3,fnOf->zcz4,mg_none_of->zdb5,kia_one->zdd3,kitOne->zde7,kitAny->zdf7
open PySem.Heap renaming get?_push_of_some->zcy5,lt_size->zcz7,get?_push_size->zcz9,size_push->zdf6
open Option renaming map_eq_some_iff->zcy6
open Bool renaming false_ne_true->zcz0,and_eq_true->zdb3,false_eq_true->zdd5,true_and->zde0
open Nat renaming le_refl->zcz6,zero_le->zda6,ne_of_lt->zda8,lt_of_lt_of_le->zdb1,le_trans->zdb4,le_add_right->zdd2
open Int renaming zero_add->zdc8,gcd_eq_natAbs_gcd_natAbs->zdc9,toNat_natCast->zde1,emod_lt_of_pos->zde3,mul_le_mul_of_nonneg_right->zde9,mul_le_mul_of_nonneg_left->zdf3,emod_nonneg->zdg0
set_option Elab.async false
set_option linter.all false
set_option maxRecDepth 100000
namespace L2
open PySem PySem.Spec PyProof.Rows
abbrev Key:=Sum Int Str
def zbn7:Key->Value->Bool
 | .inl k,v=>Value.isInt k v
 | .inr x,v=>Value.isStrOf x v
def keyH (w:World):Key->Int
 | .inl k=>hashInt k
 | .inr x=>hashStr w x
theorem zi2:∀ {k:Key}{v:Value},zbn7 k v=true->(∃ i t,k=Sum.inl i/\v=Value.int i t)∨(∃ x t,k=Sum.inr x/\v=Value.str x t)
 | .inl i,v,h=>by
  obtain⟨t,e⟩:=Value.isInt_shape (k:=i) (v:=v) h
  exact .inl ⟨i,t,rfl,e⟩
 | .inr x,v,h=>by
  obtain⟨t,e⟩:=Value.isStrOf_shape (x:=x) (v:=v) h
  exact .inr ⟨x,t,rfl,e⟩
theorem zbv1 (i:Int) (t:Tok):zbn7 (.inl i) (.int i t)=true:=by simp[zbn7,Value.isInt]
theorem zbt2 (x:Str) (t:Tok):zbn7 (.inr x) (.str x t)=true:=by simp[zbn7,Value.isStrOf]
theorem key_ll (a b:Int):decide ((Sum.inl a:Key)=Sum.inl b)=(a==b):=by
 by_cases e:a=b
 ·subst e;simp
 ·have h:¬ (Sum.inl a:Key)=Sum.inl b:=fun q=>e (Sum.inl.inj q)
  rw[decide_eq_false h]
  exact (beq_eq_false_iff_ne.mpr e).symm
theorem key_rr (a b:Str):decide ((Sum.inr a:Key)=Sum.inr b)=decide (a=b):=by
 by_cases e:a=b
 ·subst e;simp
 ·have h:¬ (Sum.inr a:Key)=Sum.inr b:=fun q=>e (Sum.inr.inj q)
  rw[decide_eq_false h,decide_eq_false e]
theorem key_lr (a:Int) (b:Str):decide ((Sum.inl a:Key)=Sum.inr b)=false:=decide_eq_false (fun q=>nomatch q)
theorem key_rl (a:Str) (b:Int):decide ((Sum.inr a:Key)=Sum.inl b)=false:=decide_eq_false (fun q=>nomatch q)
def zm7 (prog:Program) (w:World):PySem.KeyKind prog w Key where
 is:=zbn7
 hash:=keyH w
 inj:=fun v a b ha hb=>by
  rcases zi2 ha with ⟨i,t,rfl,rfl⟩|⟨x,t,rfl,rfl⟩
  ·rcases zi2 hb with ⟨j,u,rfl,e⟩|⟨y,u,rfl,e⟩
   ·injection e with e1 _;rw[e1]
   ·exact nomatch e
  ·rcases zi2 hb with ⟨j,u,rfl,e⟩|⟨y,u,rfl,e⟩
   ·exact nomatch e
   ·injection e with e1 _;rw[e1]
 byValue:=fun k v h=>by
  rcases zi2 h with ⟨i,t,rfl,rfl⟩|⟨x,t,rfl,rfl⟩<;>rfl
 pyHash:=fun hv h=>by
  rcases zi2 hv with ⟨i,t,rfl,rfl⟩|⟨x,t,rfl,rfl⟩
  ·exact wpAny_pyHash_int h
  ·exact wpAny_pyHash_str h
 eqBool:=fun hu hv h=>by
  rcases zi2 hu with ⟨i,t,rfl,rfl⟩|⟨x,t,rfl,rfl⟩
  ·rcases zi2 hv with ⟨j,u,rfl,rfl⟩|⟨y,u,rfl,rfl⟩
   ·rw[key_ll] at h;exact wpAny_eqBool_int h
   ·rw[key_lr] at h;exact SeqAt.EqAt.int_str i t y u _ _ _ _ h
  ·rcases zi2 hv with ⟨j,u,rfl,rfl⟩|⟨y,u,rfl,rfl⟩
   ·rw[key_rl] at h;exact SeqAt.EqAt.str_int x t j u _ _ _ _ h
   ·rw[key_rr] at h;exact wpAny_eqBool_str h
 «strs»:=fun k x t v h=>by
  rcases zi2 h with ⟨i,u,rfl,e⟩|⟨y,u,rfl,e⟩
  ·exact nomatch e
  ·injection e with e1 _
   subst e1
   cases v<;>rfl
theorem zbb1 (prog:Program) (w:World) (i:Int) (t:Tok):(zm7 prog w).is (.inl i) (.int i t)=true:=zbv1 i t
theorem zba5 (prog:Program) (w:World) (x:Str) (t:Tok):(zm7 prog w).is (.inr x) (.str x t)=true:=zbt2 x t
end L2
namespace L2
open PySem PySem.Spec PyProof.Rows
inductive V where
 | non | bl (b:Bool) | int (i:Int) | str (x:Str) | byt (b:Array UInt8) | flt (b:UInt64) | ref (a:Addr) | ty (n:String)
 deriving DecidableEq
def RelV:V->Value->Prop
 | .non,u=>u=Value.none
 | .bl b,u=>u=Value.bool b
 | .int i,u=>∃ t,u=Value.int i t
 | .str x,u=>∃ t,u=Value.str x t
 | .byt b,u=>∃ t,u=Value.bytes b t
 | .flt b,u=>∃ t,u=Value.float b t
 | .ref a,u=>u=Value.ref a
 | .ty n,u=>u=Value.type n
abbrev Vals:List V->List Value->Prop:=Paired RelV
theorem Vals.length {xs:List V}{us:List Value}(r:Vals xs us):xs.length=us.length:=Paired.length r
theorem Vals.get:∀ {xs:List V}{us:List Value}{i:Nat}{x:V},Vals xs us->xs[i]?=some x->∃ u,us[i]?=some u/\RelV x u
 | _,_,_,_,.nil,e=>by simp at e
 | _,_,0,_,.cons r _,e=>by simp at e;subst e;exact⟨_,rfl,r⟩
 | _,_,i+1,x,.cons _ t,e=>by
  obtain⟨u,h1,h2⟩:=Vals.get (i:=i) (x:=x) t (by simpa using e)
  exact⟨u,by simpa using h1,h2⟩
theorem Vals.set {x:V}{u:Value}(r:RelV x u):∀ {xs:List V}{us:List Value}(i:Nat),Vals xs us->Vals (xs.set i x) (us.set i u)
 | _,_,_,.nil=>.nil
 | _,_,0,.cons _ t=>.cons r t
 | _,_,i+1,.cons q t=>.cons q (Vals.set r i t)
theorem Vals.append:∀ {xs ys:List V}{us ws:List Value},Vals xs us->Vals ys ws->Vals (xs++ys) (us++ws)
 | _,_,_,_,.nil,s=>s
 | _,_,_,_,.cons r t,s=>.cons r (Vals.append t s)
theorem Vals.take:∀ {xs:List V}{us:List Value}(n:Nat),Vals xs us->Vals (xs.take n) (us.take n)
 | _,_,0,_=>.nil
 | _,_,_+1,.nil=>.nil
 | _,_,n+1,.cons r t=>.cons r (Vals.take n t)
theorem Vals.drop:∀ {xs:List V}{us:List Value}(n:Nat),Vals xs us->Vals (xs.drop n) (us.drop n)
 | _,_,0,r=>r
 | _,_,_+1,.nil=>.nil
 | _,_,n+1,.cons _ t=>Vals.drop n t
def RelO:Option V->Option Value->Prop
 | some v,some u=>RelV v u
 | none,none=>True
 | _,_=>False
def KV {κ:Type}:List (κ×V)->List (κ×Value)->Prop:=Paired fun (p:κ×V) (q:κ×Value)=>p.1=q.1/\RelV p.2 q.2
def kV:Key->V
 | .inl i=>.int i
 | .inr x=>.str x
inductive HO where
 | lst (xs:List V)
 | tup (xs:List V)
 | dK (kvs:List (Key×V)) | dT (kvs:List (List Key×V))
 | set (S:Int->Bool) (n:Nat)
 | ins (C dx:Addr) (fs:List (Str×V))
 | own (x:Addr)
 | xd (fs:List (Str×V))
 | met (f x:Addr)
 | rng (lo hi:Int)
 | frz (o:Obj) (u:HO)
 | tbl (ps:Array Value)
 | ext (φ:Heap->Prop)
abbrev Hp:=Addr->Option HO
def upd (H:Hp) (a:Addr) (o:HO):Hp:=fun b=>if b=a then some o else H b
theorem zc4 {H:Hp}{a:Addr}{o:HO}:upd H a o a=some o:=by unfold upd;rw[if_pos rfl]
theorem zc9 {H:Hp}{a b:Addr}{o:HO}(h:b≠a):upd H a o b=H b:=by unfold upd;rw[if_neg h]
theorem ne_of {H:Hp}{a b:Addr}{o u:HO}(h:H a=some o) (h':H b=some u) (d:o≠u):a≠b:=by
 intro e;subst e;rw[h] at h';exact d (Option.some.inj h')
theorem zb2 {H:Hp}{a b:Addr}{o:HO}(h:H a=some o) (h':H b=none):a≠b:=by
 intro e;subst e;rw[h] at h';cases h'
section
variable (P:Program) (w:World)
def zg6 (H:Hp) (h:Heap) (a:Addr):HO->Prop
 | .lst xs=>xs.length<=sizeLine/\∃ (its:List Value) (n:Nat),Vals xs its/\h.get? a=some { cls:=.type "list",data:=.seq its.toArray n }
 | .tup xs=>xs.length<=sizeLine/\∃ its:List Value,Vals xs its/\IsTup h a its.toArray
 | .dK kvs=>kvs.length<=sizeLine/\(a==sysModules)=false/\∃ vs,KV kvs vs/\h.DictOf (zm7 P w) a vs
 | .dT kvs=>kvs.length<=sizeLine/\(a==sysModules)=false/\∃ xs:List (List Key×Addr×Value),
   Paired (fun (p:List Key×V) (q:List Key×Addr×Value)=>p.1=q.1/\H q.2.1=some (.tup (p.1.map kV))/\RelV p.2 q.2.2) kvs xs /\
   ∃ o es ep,h.get? a=some o/\o.ExactDict/\o.data=.dict es ep/\es.toList=xs.map (entryOfKey (tupleKind (zm7 P w)))/\(xs.map (·.1)).Nodup
 | .set S n=>h.SetOf (intKind P w) a S n
 | .ins C dx fs=>H dx=some (.own a)/\fs.length<=1000/\dx≠a/\h.get? a=some (PySem.W.instObj C dx) /\
   ∃ mA,h.Ns1 dx mA/\(∀ f,RelO (fs.lookup f) (mA f))/\PySem.Within mA (fs.map (·.1))
 | .own _=>∃ o,h.get? a=some o
 | .xd fs=>∃ mA,h.Ns1 a mA/\∀ f,RelO (fs.lookup f) (mA f)
 | .rng lo hi=>∃ t u v,h.get? a=some { cls:=.type "range",data:=.fields #[.int lo t,.int hi u,.int 1 v] }
 | .frz o u=>h.get? a=some o/\zg6 H h a u
 | .tbl ps=>h.get? a=some { cls:=.none,data:=.fields ps }
 | .met f x=>h.get? a=some (PySem.W.methodObj (.ref f) (.ref x))
 | .ext φ=>φ h/\(∃ o,h.get? a=some o)/\∀ h1 h2:Heap,φ h1->(∀ o,h1.get? a=some o->h2.get? a=some o)->φ h2
def HOk (H:Hp) (h:Heap):Prop:=∀ a o,H a=some o->zg6 P w H h a o
end
section
variable {P:Program}{w:World}{H H':Hp}{h h':Heap}{a:Addr}{o:HO}
theorem zg6.lt (x:zg6 P w H h a o):a<h.objs.size:=by
 cases o with
 | lst xs=>obtain⟨_,_,_,_,e⟩:=x;exact zcz7 e
 | tup xs=>obtain⟨_,_,_,p⟩:=x;exact p.lt
 | dK kvs=>obtain⟨_,_,_,_,o,_,_,e,_⟩:=x;exact zcz7 e
 | dT kvs=>obtain⟨_,_,_,_,o,_,_,e,_⟩:=x;exact zcz7 e
 | set S n=>obtain⟨o,_,_,_,e,_⟩:=x;exact zcz7 e
 | ins C dx fs=>obtain⟨_,_,_,e,_⟩:=x;exact zcz7 e
 | own y=>obtain⟨_,e⟩:=x;exact zcz7 e
 | xd fs=>obtain⟨_,⟨_,_,_,e,_⟩,_⟩:=x;exact zcz7 e
 | rng lo hi=>obtain⟨_,_,_,e⟩:=x;exact zcz7 e
 | frz ob u=>obtain⟨e,_⟩:=x;exact zcz7 e
 | tbl ps=>exact zcz7 (show h.get? a=some _ from x)
 | met f y=>exact zcz7 (show h.get? a=some _ from x)
 | ext φ=>obtain⟨_,⟨_,e⟩,_⟩:=x;exact zcz7 e
theorem Paired.mapP {α β:Type}{F G:α->β->Prop}:∀ {l₁:List α}{l₂:List β},Paired F l₁ l₂->(∀ a b,F a b->G a b)->Paired G l₁ l₂
 | _,_,.nil,_=>.nil
 | _,_,.cons r t,f=>.cons (f _ _ r) (Paired.mapP t f)
theorem zg6.stay (x:zg6 P w H h a o) (k:∀ b u,(b=a∨H b=some (.own a))->h.get? b=some u->h'.get? b=some u)
  (ho:∀ b,H b=some (.own a)->H' b=some (.own a)) (ht:∀ b xs,H b=some (.tup xs)->H' b=some (.tup xs)):zg6 P w H' h' a o:=by
 induction o with
 | lst xs=>obtain⟨z,its,n,r,e⟩:=x;exact⟨z,its,n,r,k _ _ (.inl rfl) e⟩
 | tup xs=>obtain⟨z,its,r,ob,e,c⟩:=x;exact⟨z,its,r,ob,k _ _ (.inl rfl) e,c⟩
 | dK kvs=>obtain⟨z,y,vs,r,ob,es,ep,e,c⟩:=x;exact⟨z,y,vs,r,ob,es,ep,k _ _ (.inl rfl) e,c⟩
 | dT kvs=>
  obtain⟨z,y,xs,r,ob,es,ep,e,c⟩:=x
  exact⟨z,y,xs,Paired.mapP r fun p q z=>⟨z.1,ht _ _ z.2.1,z.2.2⟩,ob,es,ep,k _ _ (.inl rfl) e,c⟩
 | set S n=>obtain⟨ob,es,ep,t,e,c⟩:=x;exact⟨ob,es,ep,t,k _ _ (.inl rfl) e,c⟩
 | ins C dx fs=>
  obtain⟨d,z,ne,e,mA,⟨od,es,ep,e2,c⟩,r⟩:=x
  exact⟨ho _ d,z,ne,k _ _ (.inl rfl) e,mA,⟨od,es,ep,k _ _ (.inr d) e2,c⟩,r⟩
 | own y=>obtain⟨ob,e⟩:=x;exact⟨ob,k _ _ (.inl rfl) e⟩
 | xd fs=>obtain⟨mA,⟨od,es,ep,e,c⟩,r⟩:=x;exact⟨mA,⟨od,es,ep,k _ _ (.inl rfl) e,c⟩,r⟩
 | rng lo hi=>obtain⟨t,u,v,e⟩:=x;exact⟨t,u,v,k _ _ (.inl rfl) e⟩
 | frz ob u ih=>obtain⟨e,q⟩:=x;exact⟨k _ _ (.inl rfl) e,ih q⟩
 | tbl ps=>
  have e:h.get? a=some { cls:=.none,data:=.fields ps }:=x
  show h'.get? a=some { cls:=.none,data:=.fields ps }
  exact k a _ (.inl rfl) e
 | met f y=>
  have e:h.get? a=some (PySem.W.methodObj (.ref f) (.ref y)):=x
  show h'.get? a=some (PySem.W.methodObj (.ref f) (.ref y))
  exact k a _ (.inl rfl) e
 | ext φ=>obtain⟨p,⟨o,e⟩,st⟩:=x;exact⟨st _ _ p fun o q=>k _ _ (.inl rfl) q,⟨o,k _ _ (.inl rfl) e⟩,st⟩
theorem HOk.lt (x:HOk P w H h) (e:H a=some o):a<h.objs.size:=(x a o e).lt
theorem HOk.fresh (x:HOk P w H h) (e:h.objs.size<=a):H a=none:=by
 cases q:H a with
 | none=>rfl
 | some u=>exact absurd (zdb1 (x.lt q) e) (Nat.lt_irrefl _)
theorem HOk.kept (x:HOk P w H h) (k:∀ b u,h.get? b=some u->h'.get? b=some u):HOk P w H h':=fun a o e=>
 (x a o e).stay (fun b u _ q=>k b u q) (fun _ q=>q) fun _ _ q=>q
theorem HOk.laid (x:HOk P w H h) (k:∀ b u,h.get? b=some u->h'.get? b=some u) (hp:h.objs.size<=a) (new:zg6 P w (upd H a o) h' a o):HOk P w (upd H a o) h':=fun b u e=>by
 have hn:=x.fresh hp
 by_cases hb:b=a
 ·subst hb;rw[zc4] at e;cases e;exact new
 ·rw[zc9 hb] at e
  exact (x b u e).stay (fun c v _ q=>k c v q) (fun c q=>by rw[zc9 (zb2 q hn)];exact q) fun c xs q=>by rw[zc9 (zb2 q hn)];exact q
end
def Rd (H:Hp) (a:Addr) (u:HO):Prop:=H a=some u∨∃ o,H a=some (.frz o u)
theorem Rd.of {H:Hp}{a:Addr}{u:HO}(h:H a=some u):Rd H a u:=.inl h
theorem Rd.ok {P:Program}{w:World}{H:Hp}{h:Heap}{a:Addr}{u:HO}(r:Rd H a u) (x:HOk P w H h):zg6 P w H h a u:=by
 rcases r with r|⟨o,r⟩
 ·exact x a u r
 ·obtain⟨_,q⟩:=x a _ r
  exact q
def Mut:Option HO->Prop
 | some (.lst _)=>True
 | some (.dK _)=>True
 | some (.dT _)=>True
 | some (.set _ _)=>True
 | some (.ins _ _ _)=>True
 | some (.ext _)=>True
 | _=>False
section
variable {P:Program}{w:World}{H:Hp}{h h':Heap}{x e:Addr}{o':HO}
theorem HOk.write (ok:HOk P w H h) (mu:Mut (H x)) (he:e=x∨H e=some (.own x)) (k:∀ b u,b≠e->h.get? b=some u->h'.get? b=some u) (heo:∃ u,h'.get? e=some u)
  (new:zg6 P w (upd H x o') h' x o'):HOk P w (upd H x o') h':=fun b u q=>by
 have nown:∀ c y,H c=some (.own y)->c≠x:=fun c y r z=>by subst z;rw[r] at mu;exact mu
 have ntup:∀ c xs,H c=some (.tup xs)->c≠x:=fun c xs r z=>by subst z;rw[r] at mu;exact mu
 by_cases hb:b=x
 ·subst hb;rw[zc4] at q;cases q;exact new
 ·rw[zc9 hb] at q
  by_cases hbe:b=e
  ·have q':H b=some (.own x):=by
    rcases he with z|z
    ·exact absurd (hbe.trans z) hb
    ·rw[hbe];exact z
   rw[q] at q';cases q'
   obtain⟨v,hv⟩:=heo
   exact⟨v,by rw[hbe];exact hv⟩
  ·refine (ok b u q).stay (fun c v hc r=>k c v ?_ r) (fun c r=>by rw[zc9 (nown c b r)];exact r) fun c xs r=>by rw[zc9 (ntup c xs r)];exact r
   rcases hc with rfl|hc
   ·exact hbe
   ·rintro rfl
    rcases he with z|z
    ·exact nown c b hc z
    ·rw[hc] at z;cases z;exact hb rfl
end
structure Un (fs ex:List Addr) (H H':Hp) (h h':Heap):Prop where
 keep:∀ b o,h.get? b=some o->H b=none->b ∉ fs->b ∉ ex->h'.get? b=some o
 slot:∀ b o,h.get? b=some o->H b=none->b∈fs->b ∉ ex->∃ sl,h'.get? b=some { o with slots:=sl }
 free:∀ b o,h.get? b=some o->H b=none->b ∉ ex->H' b=none
 there:∀ b o,h.get? b=some o->b ∉ ex->∃ o',h'.get? b=some o'
 tups:∀ b xs,H b=some (.tup xs)->H' b=some (.tup xs)
 frzs:∀ b o u,H b=some (.frz o u)->H' b=some (.frz o u)
 tbls:∀ b ps,H b=some (.tbl ps)->∃ more,H' b=some (.tbl (ps++more))
section
variable {fs fs' ex ex':List Addr}{H H1 H2:Hp}{h h1 h2 h':Heap}{a x e:Addr}{o:HO}
theorem Un.any (u:Un fs ex H H1 h h1) {b:Addr}{ob:Obj}(q:h.get? b=some ob) (n:H b=none) (hx:b ∉ ex):∃ sl,h1.get? b=some { ob with slots:=sl }:=by
 by_cases hb:b∈fs
 ·exact u.slot b ob q n hb hx
 ·exact⟨ob.slots,u.keep b ob q n hb hx⟩
theorem Un.trans (a:Un fs ex H H1 h h1) (b:Un fs ex H1 H2 h1 h2):Un fs ex H H2 h h2 where
 keep:=fun c ob q n hc hx=>b.keep c ob (a.keep c ob q n hc hx) (a.free c ob q n hx) hc hx
 slot:=fun c ob q n hc hx=>by
  obtain⟨sl,e1⟩:=a.slot c ob q n hc hx
  obtain⟨sl',e2⟩:=b.slot c _ e1 (a.free c ob q n hx) hc hx
  exact⟨sl',e2⟩
 free:=fun c ob q n hx=>by
  obtain⟨o',e1⟩:=a.there c ob q hx
  exact b.free c o' e1 (a.free c ob q n hx) hx
 there:=fun c ob q hx=>by
  obtain⟨o',e1⟩:=a.there c ob q hx
  exact b.there c o' e1 hx
 tups:=fun c xs q=>b.tups c xs (a.tups c xs q)
 frzs:=fun c ob xs q=>b.frzs c ob xs (a.frzs c ob xs q)
 tbls:=fun c ps q=>by
  obtain⟨m1,e1⟩:=a.tbls c ps q
  obtain⟨m2,e2⟩:=b.tbls c _ e1
  exact⟨m1++m2,by rw[e2,Array.append_assoc]⟩
theorem Un.kept (k:∀ b u,h.get? b=some u->h'.get? b=some u):Un fs ex H H h h':=
 ⟨fun b ob q _ _ _=>k b ob q,fun b ob q _ _ _=>⟨ob.slots,k b ob q⟩,fun _ _ _ n _=>n,fun b ob q _=>⟨ob,k b ob q⟩,fun _ _ q=>q,fun _ _ _ q=>q,fun _ ps q=>⟨#[],by rw[q];simp⟩⟩
theorem Un.refl:Un fs ex H H h h:=Un.kept fun _ _ q=>q
theorem Un.laid (k:∀ b u,h.get? b=some u->h'.get? b=some u) (hp:h.objs.size<=a) (hn:H a=none):Un fs ex H (upd H a o) h h' where
 keep:=fun b u q _ _ _=>k b u q
 slot:=fun b u q _ _ _=>⟨u.slots,k b u q⟩
 free:=fun b u q n _=>by rw[zc9 (zda8 (zdb1 (zcz7 q) hp))];exact n
 there:=fun b u q _=>⟨u,k b u q⟩
 tups:=fun b xs q=>by rw[zc9 (zb2 q hn)];exact q
 frzs:=fun b u xs q=>by rw[zc9 (zb2 q hn)];exact q
 tbls:=fun b ps q=>⟨#[],by rw[zc9 (zb2 q hn),q];simp⟩
theorem Un.write (mu:Mut (H x)) (he:e=x∨H e=some (.own x)) (k:∀ b u,b≠e->h.get? b=some u->h'.get? b=some u) (heo:∃ u,h'.get? e=some u):Un fs ex H (upd H x o) h h':=by
 have hx:∀ b,H b=none->b≠x:=fun b n z=>by subst z;rw[n] at mu;exact mu
 have hb:∀ b,H b=none->b≠e:=fun b n z=>by
  subst z
  rcases he with r|r
  ·exact hx b n r
  ·rw[n] at r;cases r
 have hm:∀ b u,H b=some u->¬ Mut (some u)->b≠x:=fun b u q nm z=>by subst z;rw[q] at mu;exact nm mu
 refine⟨fun b u q n _ _=>k b u (hb b n) q,fun b u q n _ _=>⟨u.slots,k b u (hb b n) q⟩,fun b u q n _=>by rw[zc9 (hx b n)];exact n,fun b u q _=>?_,
  fun b xs q=>by rw[zc9 (hm b _ q fun z=>z)];exact q,fun b u xs q=>by rw[zc9 (hm b _ q fun z=>z)];exact q,fun b ps q=>⟨#[],by rw[zc9 (hm b _ q fun z=>z),q];simp⟩⟩
 by_cases hbe:b=e
 ·subst hbe;exact heo
 ·exact⟨u,k b u hbe q⟩
end
def trk (h:Heap) (H:Hp):List Addr:=(List.range h.objs.size).filter fun a=>(H a).isSome
def hidT (h:Heap) (H:Hp):Heap:=PySem.W.hideAll h (trk h H)
theorem zbq4 (h:Heap) (H:Hp):(hidT h H).objs.size=h.objs.size:=PySem.W.hideAll_size _ _
theorem zcc7 {h:Heap}{H:Hp}{b:Addr}{o:Obj}(e:h.get? b=some o) (n:H b=none):(hidT h H).get? b=some o:=
 PySem.W.hideAll_get _ e fun hm=>by
  have q:(H b).isSome=true:=(List.mem_filter.mp hm).2
  rw[n] at q;simp at q
theorem zcn5 {h:Heap}{H:Hp}{b:Addr}{o:Obj}(e:(hidT h H).get? b=some o):h.get? b=some o/\H b=none:=by
 have e':h.get? b=some o:=PySem.W.of_hideAll (trk h H) e
 refine⟨e',?_⟩
 cases q:H b with
 | none=>rfl
 | some x=>
  have hm:b∈trk h H:=List.mem_filter.mpr ⟨zdc0.mpr (zcz7 e'),by simp[q]⟩
  have z:(hidT h H).get? b=none:=PySem.W.hideAll_none (trk h H) hm
  rw[z] at e;cases e
def zco6 (g h:Heap) (L:Addr):List (Addr×Obj):=(List.range h.objs.size).filterMap fun a=>if a=L∨(g.get? a).isSome=true then none else (h.get? a).map fun o=>(a,o)
def rest (g h:Heap) (L d:Addr):List (Addr×Obj):=(zco6 g h L).filter fun p=>decide (p.1≠d)
end L2
namespace L2
open PySem PySem.Spec PyProof.Rows
structure Mod (K:zcy1) (mg:Str->Option Value) (base:Heap):Prop where
 kin:K.In base
 glob:base.Ns mainGlobals mg
 blt:∃ mb,base.Ns builtinsNs mb/\∀ x:Str,x≠"__name__"->mb x=bootBuiltins x
 nolimit:base.NoLimit
structure Cx where
 prog:Program
 w:World
 K:zcy1
 mg:Str->Option Value
 base:Heap
 A:Around
 N:List Str
 s₀:Shared
 H₀:Hp
 env:Env
 outer:List Env
 stack:List Env
 ex:List Addr
 fn:Str->Bool
 calm:Bool
 pn:List (Addr×Obj)
 xe:Value->Shared->Prop
def frs (l:List Env):List Addr:=l.filterMap (·.frame)
abbrev Cx.fs (X:Cx):List Addr:=frs X.outer
def Vis (sc:Scope) (x:Str):Prop:=sc.names.lookup x=some .local∨sc.names.lookup x=some .cell∨sc.names.lookup x=some .free
def Loc (sc:Scope) (x:Str):Prop:=sc.names.lookup x=some .local∨sc.names.lookup x=some .cell
def Look (env:Env) (h:Heap) (m:Str->Option Value) (x:Str) (u:Value):Prop:=
 (env.kindOf x=some .local/\m x=some u)∨((env.kindOf x=some .cell∨env.kindOf x=some .free)/\∃ c,env.cells.lookup x=some c/\h.IsCell c (some u))
structure Cx.Ok (X:Cx):Prop where
 mod:Mod X.K X.mg X.base
 kind:X.env.scope.kind=.function
 glob:X.env.globals=mainGlobals
 blt:X.env.builtins=builtinsNs
 above:X.s₀.heap.objs.size<=X.env.locals
 inj:∀ x y c,X.env.cells.lookup x=some c->X.env.cells.lookup y=some c->x=y
 has:∀ x,(X.env.kindOf x=some .cell∨X.env.kindOf x=some .free)->∃ c,X.env.cells.lookup x=some c
 cab:∀ x c,X.fn x=true->X.env.cells.lookup x=some c->X.s₀.heap.objs.size<=c
 hd:X.calm=true->X.A.handled=none
 frames:X.A.frames=some X.stack
 stk:X.stack=X.outer∨(X.stack=X.env :: X.outer/\X.env.frame=some X.env.locals)
 exf:∀ b∈X.ex,b≠X.env.locals/\∀ x c,X.env.cells.lookup x=some c->c≠b
 bs:∀ b o,X.base.get? b=some o->X.s₀.heap.get? b=some o/\X.H₀ b=none
 bsz:X.base.objs.size<=X.s₀.heap.objs.size
 noex:∀ b o,X.base.get? b=some o->b ∉ X.ex
 exfs:∀ b∈X.ex,b ∉ X.fs
 funs:X.s₀.heap.FunFrames X.base X.outer
 frf:∀ b∈X.fs,X.H₀ b=none
structure Inv (X:Cx) (pins:List (Addr×Obj)) (σ:List (Option V)) (H:Hp) (s:Shared):Prop where
 ok:X.Ok
 os:s.os=X.s₀.os
 bare:AllBare s.gens
 base:Un X.fs X.ex X.H₀ H X.s₀.heap s.heap
 loc:∃ m,s.heap.Ns X.env.locals m/\∀ (i:Nat) (x:Str) (v:V),X.N[i]?=some x->σ[i]?=some (some v)->Vis X.env.scope x->∃ u,RelV v u/\Look X.env s.heap m x u
 cell:∀ x c,X.env.cells.lookup x=some c->∃ v,s.heap.IsCell c v
 free:H X.env.locals=none
 freeC:∀ x c,X.env.cells.lookup x=some c->H c=none
 pin:∀ p∈X.pn++pins,s.heap.get? p.1=some p.2/\H p.1=none/\p.1≠X.env.locals/\p.1 ∉ X.fs/\∀ v,p.2.data≠.cell v
 hok:HOk X.prog X.w H s.heap
 len:σ.length=X.N.length
section
variable {X:Cx}{pins:List (Addr×Obj)}{σ:List (Option V)}{H H':Hp}{s:Shared}{h':Heap}
theorem Cx.Ok.nofr (ok:X.Ok) {b:Addr}{o:Obj}(e:X.base.get? b=some o):b ∉ X.fs:=fun hb=>by
 have:=(ok.funs.mem hb).1
 rw[e] at this;cases this
theorem Inv.bs (I:Inv X pins σ H s):∀ b o,X.base.get? b=some o->s.heap.get? b=some o/\H b=none:=fun b o e=>
 ⟨I.base.keep b o (I.ok.bs b o e).1 (I.ok.bs b o e).2 (I.ok.nofr e) (I.ok.noex b o e),I.base.free b o (I.ok.bs b o e).1 (I.ok.bs b o e).2 (I.ok.noex b o e)⟩
theorem Inv.bk (I:Inv X pins σ H s):∀ b o,X.base.get? b=some o->s.heap.get? b=some o:=fun b o e=>(I.bs b o e).1
theorem Inv.mod (I:Inv X pins σ H s):Mod X.K X.mg X.base:=I.ok.mod
theorem Inv.kIn (I:Inv X pins σ H s):X.K.In s.heap:=I.ok.mod.kin.keeps I.bk
theorem Inv.lt (I:Inv X pins σ H s):X.env.locals<s.heap.objs.size:=let ⟨_,hn,_⟩:=I.loc;hn.lt
theorem Inv.sz (I:Inv X pins σ H s):X.s₀.heap.objs.size<=s.heap.objs.size:=zdb4 I.ok.above (Nat.le_of_lt I.lt)
theorem Inv.nofs (I:Inv X pins σ H s) {a:Addr}(h:s.heap.objs.size<=a):a ∉ X.fs:=fun hb=>by
 obtain⟨_,o,ho,_⟩:=I.ok.funs.mem hb
 exact absurd (zdb1 (zcz7 ho) (zdb4 I.sz h)) (Nat.lt_irrefl _)
theorem Inv.cne (I:Inv X pins σ H s):∀ x c,X.env.cells.lookup x=some c->c≠X.env.locals:=fun x c e z=>by
 obtain⟨v,o,ho,hd⟩:=I.cell x c e
 obtain⟨m,⟨o',es,ep,ho',hd',_⟩,_⟩:=I.loc
 rw[z,ho'] at ho;cases ho;rw[hd'] at hd;cases hd
theorem Inv.funs (I:Inv X pins σ H s):s.heap.FunFrames X.base X.outer:=by
 have all:∀ (l:List Env),(∀ b∈frs l,b∈X.fs)->X.s₀.heap.FunFrames X.base l->s.heap.FunFrames X.base l:=by
  intro l
  induction l with
  | nil=>intro _ _;trivial
  | cons env r ih=>
   intro hs hl
   obtain⟨hk,⟨L,o,hf,hn,ho,hd⟩,hr⟩:=hl
   have hL:L∈X.fs:=hs L (by unfold frs;rw[zdf1,hf];exact zdc5)
   obtain⟨sl,e⟩:=I.base.slot L o ho (I.ok.frf L hL) hL fun z=>I.ok.exfs L z hL
   exact⟨hk,⟨L,_,hf,hn,e,hd⟩,ih (fun b hb=>hs b (by unfold frs;rw[zdf1,hf];exact zdb8 _ hb)) hr⟩
 exact all X.outer (fun _ hb=>hb) I.ok.funs
theorem Inv.stack (I:Inv X pins σ H s):s.heap.FunFrames X.base X.stack:=by
 rcases I.ok.stk with e|⟨e,hf⟩
 ·rw[e];exact I.funs
 ·rw[e]
  obtain⟨m,hn,_⟩:=I.loc
  refine .cons (by rw[I.ok.kind];decide) hf hn ?_ I.funs
  exact Heap.get?_none_of_le (zdb4 I.ok.bsz I.ok.above)
theorem Inv.stkSub (I:Inv X pins σ H s):∀ b∈frs X.stack,b∈X.env.locals :: X.fs:=fun b hb=>by
 rcases I.ok.stk with e|⟨e,hf⟩
 ·rw[e] at hb;exact zdb8 _ hb
 ·rw[e] at hb
  unfold frs at hb
  rw[zdf1,hf] at hb
  exact hb
theorem Inv.stkFree (I:Inv X pins σ H s):∀ b∈frs X.stack,H b=none:=fun b hb=>by
 rcases zcz5.mp (I.stkSub b hb) with e|hb
 ·rw[e];exact I.free
 ·obtain⟨_,o,ho,_⟩:=I.ok.funs.mem hb
  exact I.base.free b o ho (I.ok.frf b hb) fun z=>I.ok.exfs b z hb
theorem Inv.step {g':Array GenState}{t':Nat}{d':Drawn}{ch:List Addr}(I:Inv X pins σ H s)
  (hch:∀ b∈ch,(b∈X.ex∨X.s₀.heap.objs.size<=b)/\b≠X.env.locals/\(∀ x c,X.env.cells.lookup x=some c->c≠b)/\∀ p∈X.pn++pins,p.1≠b)
  (keep:∀ b o,b≠X.env.locals->b ∉ X.fs->b ∉ ch->s.heap.get? b=some o->H b=none->h'.get? b=some o)
  (slot:∀ b o,b≠X.env.locals->b∈X.fs->b ∉ ch->s.heap.get? b=some o->H b=none->∃ sl,h'.get? b=some { o with slots:=sl }) (free:∀ b o,b ∉ ch->s.heap.get? b=some o->H b=none->H' b=none)
  (there:∀ b o,b ∉ ch->s.heap.get? b=some o->∃ o',h'.get? b=some o')
  (tups:∀ b xs,H b=some (.tup xs)->H' b=some (.tup xs)) (frzs:∀ b o u,H b=some (.frz o u)->H' b=some (.frz o u)) (tbls:∀ b ps,H b=some (.tbl ps)->∃ more,H' b=some (.tbl (ps++more)))
  (ns:∀ m,s.heap.Ns X.env.locals m->h'.Ns X.env.locals m) (hok:HOk X.prog X.w H' h') (hg:AllBare g') :
  Inv X pins σ H' { s with heap:=h',gens:=g',drawn:=d',toks:=t' }:=by
 have neL:∀ b o,X.s₀.heap.get? b=some o->b≠X.env.locals:=fun b o e=>zda8 (zdb1 (zcz7 e) I.ok.above)
 have neC:∀ b o,X.s₀.heap.get? b=some o->b ∉ X.ex->b ∉ ch:=fun b o e hx hb=>by
  rcases (hch b hb).1 with z|z
  ·exact hx z
  ·exact absurd (zdb1 (zcz7 e) z) (Nat.lt_irrefl _)
 have cellK:∀ x c,X.env.cells.lookup x=some c->∀ v,s.heap.IsCell c v->h'.IsCell c v:=fun x c e v ⟨o,ho,hd⟩=>by
  have nch:c ∉ ch:=fun z=>(hch c z).2.2.1 x c e rfl
  by_cases hc:c∈X.fs
  ·obtain⟨sl,q⟩:=slot c o (I.cne x c e) hc nch ho (I.freeC x c e)
   exact⟨_,q,hd⟩
  ·exact⟨o,keep c o (I.cne x c e) hc nch ho (I.freeC x c e),hd⟩
 refine⟨I.ok,I.os,hg,⟨fun b o e n hb hx=>?_,fun b o e n hb hx=>?_,fun b o e n hx=>?_,fun b o e hx=>?_,fun b xs e=>tups b xs (I.base.tups b xs e),fun b o xs e=>frzs b o xs (I.base.frzs b o xs e),fun b ps e=>?_⟩,?_,fun x c e=>?_,?_,fun x c e=>?_,fun p hp=>?_,hok,I.len⟩
 ·exact keep b o (neL b o e) hb (neC b o e hx) (I.base.keep b o e n hb hx) (I.base.free b o e n hx)
 ·obtain⟨sl,e1⟩:=I.base.slot b o e n hb hx
  obtain⟨sl',e2⟩:=slot b _ (neL b o e) hb (neC b o e hx) e1 (I.base.free b o e n hx)
  exact⟨sl',e2⟩
 ·obtain⟨o',e1⟩:=I.base.there b o e hx
  exact free b o' (neC b o e hx) e1 (I.base.free b o e n hx)
 ·obtain⟨o',e1⟩:=I.base.there b o e hx
  exact there b o' (neC b o e hx) e1
 ·obtain⟨m1,e1⟩:=I.base.tbls b ps e
  obtain⟨m2,e2⟩:=tbls b _ e1
  exact⟨m1++m2,by rw[e2,Array.append_assoc]⟩
 ·obtain⟨m,hn,hl⟩:=I.loc
  refine⟨m,ns m hn,fun i x v e1 e2 e3=>?_⟩
  obtain⟨u,r,l⟩:=hl i x v e1 e2 e3
  refine⟨u,r,?_⟩
  rcases l with l|⟨k,c,e,z⟩
  ·exact .inl l
  ·exact .inr ⟨k,c,e,cellK x c e _ z⟩
 ·obtain⟨v,z⟩:=I.cell x c e
  exact⟨v,cellK x c e v z⟩
 ·obtain⟨m,⟨o,_,_,ho,_⟩,_⟩:=I.loc
  exact free _ o (fun z=>(hch _ z).2.1 rfl) ho I.free
 ·obtain⟨v,o,ho,hd⟩:=I.cell x c e
  exact free c o (fun z=>(hch c z).2.2.1 x c e rfl) ho (I.freeC x c e)
 ·obtain⟨e,n,ne,nf,d⟩:=I.pin p hp
  have nch:p.1 ∉ ch:=fun z=>(hch p.1 z).2.2.2 p hp rfl
  exact⟨keep p.1 p.2 ne nf nch e n,free p.1 p.2 nch e n,ne,nf,d⟩
theorem Inv.un {t':Nat}(I:Inv X pins σ H s) (u:Un X.fs [] H H' s.heap h') (hok:HOk X.prog X.w H' h'):Inv X pins σ H' { s with heap:=h',toks:=t' }:=by
 obtain⟨m,⟨o,es,ep,ho,r⟩,_⟩:=id I.loc
 obtain⟨sl,hL⟩:=u.any ho I.free (by simp)
 exact I.step (g':=s.gens) (d':=s.drawn) (ch:=[]) (fun _ z=>nomatch z) (fun b o _ hb _ e n=>u.keep b o e n hb (by simp)) (fun b o _ hb _ e n=>u.slot b o e n hb (by simp)) (fun b o _ e n=>u.free b o e n (by simp)) (fun b o _ e=>u.there b o e (by simp)) u.tups u.frzs u.tbls (fun m' hm=>by
  obtain⟨o',es',ep',ho',r'⟩:=hm
  rw[ho] at ho';cases ho'
  exact⟨_,es',ep',hL,r'⟩) hok I.bare
theorem Inv.call {g':Array GenState}{t':Nat}{d':Drawn}{ch:List Addr}(I:Inv X pins σ H s) (u:Un (frs X.stack) ch H H' s.heap h') (hok:HOk X.prog X.w H' h') (hg:AllBare g')
  (hch:∀ b∈ch,(b∈X.ex∨X.s₀.heap.objs.size<=b)/\b≠X.env.locals/\(∀ x c,X.env.cells.lookup x=some c->c≠b)/\∀ p∈X.pn++pins,p.1≠b) :
  Inv X pins σ H' { s with heap:=h',gens:=g',drawn:=d',toks:=t' }:=by
 obtain⟨m,⟨o,es,ep,ho,r⟩,_⟩:=id I.loc
 obtain⟨sl,hL⟩:=u.any ho I.free fun z=>(hch _ z).2.1 rfl
 exact I.step (ch:=ch) hch (fun b o hL hb hc e n=>u.keep b o e n (fun z=>(zcz5.mp (I.stkSub b z)).elim hL hb) hc) (fun b o _ _ hc e n=>u.any e n hc) (fun b o hc e n=>u.free b o e n hc) (fun b o hc e=>u.there b o e hc) u.tups u.frzs u.tbls (fun m' hm=>by
  obtain⟨o',es',ep',ho',r'⟩:=hm
  rw[ho] at ho';cases ho'
  exact⟨_,es',ep',hL,r'⟩) hok hg
theorem Inv.turned {t':Nat}{it:Addr}(I:Inv X pins σ H s) (k:∀ b o,b≠it->s.heap.get? b=some o->h'.get? b=some o) (hn:H it=none) (hL:it≠X.env.locals)
  (h1:it∈X.ex∨X.s₀.heap.objs.size<=it) (h2:∀ x c,X.env.cells.lookup x=some c->c≠it) (h3:∀ p∈X.pn++pins,p.1≠it):Inv X pins σ H { s with heap:=h',toks:=t' }:=by
 have nit:∀ b u,H b=some u->b≠it:=fun b u e z=>by rw[z,hn] at e;cases e
 refine I.step (g':=s.gens) (d':=s.drawn) (ch:=[it]) (fun b hb=>?_) (fun b o _ _ hc e _=>k b o (fun z=>hc (by simp[z])) e) (fun b o _ _ hc e _=>⟨o.slots,k b o (fun z=>hc (by simp[z])) e⟩) (fun _ _ _ _ n=>n)
  (fun b o hc e=>⟨o,k b o (fun z=>hc (by simp[z])) e⟩) (fun _ _ e=>e) (fun _ _ _ e=>e) (fun b ps e=>⟨#[],by rw[e];simp⟩) (fun m hm=>?_) (fun b u e=>?_) I.bare
 ·have e:b=it:=by simpa using hb
  subst e
  exact⟨h1,hL,h2,h3⟩
 ·obtain⟨o,es,ep,ho,r⟩:=hm
  exact⟨o,es,ep,k _ o (Ne.symm hL) ho,r⟩
 ·refine (I.hok b u e).stay (fun c v hc q=>k c v ?_ q) (fun _ q=>q) fun _ _ q=>q
  rcases hc with z|z
  ·rw[z];exact nit b u e
  ·exact nit c _ z
theorem Inv.tok (I:Inv X pins σ H s) (t:Nat):Inv X pins σ H { s with toks:=t }:=I.un (h':=s.heap) (t':=t) Un.refl I.hok
theorem Inv.kept {t':Nat}(I:Inv X pins σ H s) (k:∀ b u,s.heap.get? b=some u->h'.get? b=some u):Inv X pins σ H { s with heap:=h',toks:=t' }:=I.un (Un.kept k) (I.hok.kept k)
theorem Inv.laid {a:Addr}{o:HO}{t':Nat}(I:Inv X pins σ H s) (k:∀ b u,s.heap.get? b=some u->h'.get? b=some u) (hp:s.heap.objs.size<=a) (new:zg6 X.prog X.w (upd H a o) h' a o) :
  Inv X pins σ (upd H a o) { s with heap:=h',toks:=t' }:=I.un (Un.laid k hp (I.hok.fresh hp)) (I.hok.laid k hp new)
theorem Inv.write {x e:Addr}{o:HO}{t':Nat}(I:Inv X pins σ H s) (mu:Mut (H x)) (he:e=x∨H e=some (.own x)) (k:∀ b u,b≠e->s.heap.get? b=some u->h'.get? b=some u) (heo:∃ u,h'.get? e=some u)
  (new:zg6 X.prog X.w (upd H x o) h' x o):Inv X pins σ (upd H x o) { s with heap:=h',toks:=t' }:=I.un (Un.write mu he k heo) (I.hok.write mu he k heo new)
theorem Inv.pins_of {pins':List (Addr×Obj)}(I:Inv X pins σ H s) (h:∀ p∈pins',s.heap.get? p.1=some p.2/\H p.1=none/\p.1≠X.env.locals/\p.1 ∉ X.fs/\∀ v,p.2.data≠.cell v):Inv X pins' σ H s:=
 ⟨I.ok,I.os,I.bare,I.base,I.loc,I.cell,I.free,I.freeC,fun p hp=>(zdd1.mp hp).elim (fun z=>I.pin p (List.mem_append_left _ z)) (h p),I.hok,I.len⟩
theorem zbi9 {N:List Str}(hN:N.Nodup) {i j:Nat}{x:Str}(a:N[i]?=some x) (b:N[j]?=some x):i=j:=by
 obtain⟨h1,e1⟩:=zcy4.mp a
 obtain⟨h2,e2⟩:=zcy4.mp b
 exact (List.getElem_inj hN).mp (e1.trans e2.symm)
theorem zaz7 {M:Model}{A:Around}{E:Value->Shared->Prop}{i:Nat}{x:Str}{v:V}{u:Value}{Q:Unit->Shared->Prop}(I:Inv X pins σ H s) (hN:X.N.Nodup) (hi:X.N[i]?=some x) (hx:Loc X.env.scope x) (r:RelV v u)
  (h:∀ s',Inv X pins (σ.set i (some v)) H s'->(∃ a,Heap.SameBut a s.heap s'.heap/\(a=X.env.locals∨X.env.cells.lookup x=some a))->Q () s') (hf:X.fn x=true∨X.env.scope.names.lookup x=some .local:=by first|exact .inl rfl|exact .inr rfl|assumption):wpAny M A (storeName X.env x u) Q E s:=by
 obtain⟨m,hn,hl⟩:=id I.loc
 have hcls:(X.env.scope.kind==.class || (X.env.scope.kind==.module&&X.env.locals != X.env.globals))=false:=by rw[I.ok.kind];rfl
 have hiσ:i<σ.length:=by rw[I.len];exact (zcy4.mp hi).1
 have cne:=I.cne
 have tracked:∀ {a:Addr}{h':Heap},(∃ o,s.heap.get? a=some o/\H a=none)->Heap.SameBut a s.heap h'->HOk X.prog X.w H h':=fun {a h'} ha hs b ob e=>by
  obtain⟨_,_,hfree⟩:=ha
  refine (I.hok b ob e).stay (fun c w' hc q=>(hs.2 c ?_).trans q) (fun _ q=>q) fun _ _ q=>q
  rintro rfl
  rcases hc with rfl|hc
  ·rw[hfree] at e;cases e
  ·rw[hfree] at hc;cases hc
 rcases hx with hk|hk
 ·refine wpAny_storeName_local hk hn (fun h' hn' hs=>?_) hcls
  obtain⟨oL,_,_,hoL,_⟩:=id hn
  refine h _ ⟨I.ok,I.os,I.bare,⟨fun b o e n hb hx=>?_,fun b o e n hb hx=>?_,I.base.free,fun b o e hx=>?_,I.base.tups,I.base.frzs,I.base.tbls⟩,⟨_,hn',fun j y v' e1 e2 e3=>?_⟩,fun y c e=>?_,I.free,I.freeC,fun p hp=>?_,tracked ⟨oL,hoL,I.free⟩ hs,by simpa using I.len⟩ ⟨_,hs,.inl rfl⟩
  ·exact (hs.2 b (zda8 (zdb1 (zcz7 e) I.ok.above))).trans (I.base.keep b o e n hb hx)
  ·obtain⟨sl,e1⟩:=I.base.slot b o e n hb hx
   exact⟨sl,(hs.2 b (zda8 (zdb1 (zcz7 e) I.ok.above))).trans e1⟩
  ·obtain⟨o',e1⟩:=I.base.there b o e hx
   exact⟨o',(hs.2 b (zda8 (zdb1 (zcz7 e) I.ok.above))).trans e1⟩
  ·by_cases hj:j=i
   ·subst hj
    rw[hi] at e1;cases e1
    rw[List.getElem?_set_self hiσ] at e2
    cases e2
    exact⟨u,r,.inl ⟨hk,by simp⟩⟩
   ·rw[List.getElem?_set_ne (Ne.symm hj)] at e2
    obtain⟨u',r',q⟩:=hl j y v' e1 e2 e3
    refine⟨u',r',?_⟩
    rcases q with ⟨k,e⟩|⟨k,c,e,z⟩
    ·refine .inl ⟨k,?_⟩
     have:y≠x:=fun e=>hj (zbi9 hN e1 (e▸hi))
     simp[this,e]
    ·exact .inr ⟨k,c,e,z.sameBut hs (cne y c e)⟩
  ·obtain⟨w',z⟩:=I.cell y c e
   exact⟨w',z.sameBut hs (cne y c e)⟩
  ·obtain⟨e,n,ne,nf,d⟩:=I.pin p hp
   exact⟨(hs.2 p.1 ne).trans e,n,ne,nf,d⟩
 ·have hfn:X.fn x=true:=by
   rcases hf with z|z
   ·exact z
   ·rw[z] at hk;cases hk
  obtain⟨c,hc⟩:=I.ok.has x (.inl hk)
  obtain⟨w',z⟩:=I.cell x c hc
  refine wpAny_storeName_cell I.ok.kind hk hc z (fun h' hc' hs=>?_)
  obtain⟨oc,hoc,hocd⟩:=id z
  refine h { s with heap:=h' } ⟨I.ok,I.os,I.bare,⟨fun b o e n hb hx=>?_,fun b o e n hb hx=>?_,I.base.free,fun b o e hx=>?_,I.base.tups,I.base.frzs,I.base.tbls⟩,⟨m,hn.sameBut hs (Ne.symm (cne x c hc)),fun j y v' e1 e2 e3=>?_⟩,fun y c' e=>?_,I.free,I.freeC,fun p hp=>?_,tracked ⟨oc,hoc,I.freeC x c hc⟩ hs,by simpa using I.len⟩ ⟨c,hs,.inr hc⟩
  ·exact (hs.2 b (zda8 (zdb1 (zcz7 e) (I.ok.cab x c hfn hc)))).trans (I.base.keep b o e n hb hx)
  ·obtain⟨sl,e1⟩:=I.base.slot b o e n hb hx
   exact⟨sl,(hs.2 b (zda8 (zdb1 (zcz7 e) (I.ok.cab x c hfn hc)))).trans e1⟩
  ·obtain⟨o',e1⟩:=I.base.there b o e hx
   exact⟨o',(hs.2 b (zda8 (zdb1 (zcz7 e) (I.ok.cab x c hfn hc)))).trans e1⟩
  ·by_cases hj:j=i
   ·subst hj
    rw[hi] at e1;cases e1
    rw[List.getElem?_set_self hiσ] at e2
    cases e2
    exact⟨u,r,.inr ⟨.inl hk,c,hc,hc'⟩⟩
   ·rw[List.getElem?_set_ne (Ne.symm hj)] at e2
    obtain⟨u',r',q⟩:=hl j y v' e1 e2 e3
    refine⟨u',r',?_⟩
    rcases q with q|⟨k,c',e,z'⟩
    ·exact .inl q
    ·refine .inr ⟨k,c',e,z'.sameBut hs ?_⟩
     rintro rfl
     exact hj (zbi9 hN e1 (I.ok.inj _ _ _ e hc▸hi))
  ·by_cases hcc:c'=c
   ·subst hcc;exact⟨_,hc'⟩
   ·obtain⟨w2,z2⟩:=I.cell y c' e
    exact⟨w2,z2.sameBut hs hcc⟩
  ·obtain⟨e,n,ne,nf,d⟩:=I.pin p hp
   refine⟨(hs.2 p.1 ?_).trans e,n,ne,nf,d⟩
   intro q
   rw[q,hoc] at e
   have q':oc=p.2:=Option.some.inj e
   exact d w' (by rw[← q'];exact hocd)
theorem zac8 {M:Model}{A:Around}{E:Value->Shared->Prop}{i:Nat}{x:Str}{v:V}{u:Value}{Q:Unit->Shared->Prop}(I:Inv X pins σ H s) (hN:X.N.Nodup) (hi:X.N[i]?=some x) (hx:Loc X.env.scope x) (r:RelV v u)
  (h:∀ s',Inv X pins (σ.set i (some v)) H s'->Q () s') (hf:X.fn x=true∨X.env.scope.names.lookup x=some .local:=by first|exact .inl rfl|exact .inr rfl|assumption):wpAny M A (storeName X.env x u) Q E s:=
 zaz7 I hN hi hx r (fun s' I' _=>h s' I') hf
end
abbrev XK:=Value->Option Addr->Hp->Prop
abbrev St:=List (Option V)
abbrev VK:=V->Hp->Prop
abbrev TE:=St->Hp->VK->Prop
abbrev TT:=St->Hp->(Bool->Hp->Prop)->Prop
abbrev TA:=St->Hp->(List V->Hp->Prop)->Prop
structure Ends where
 nx:St->Hp->Prop
 rt:VK
 bk:St->Hp->Prop:=fun _ _=>False
 ct:St->Hp->Prop:=fun _ _=>False
abbrev TS:=Ends->St->Hp->Prop
def EP (X:Cx) (pins:List (Addr×Obj)) (σ:St) (Q:VK) (u:Value) (s':Shared):Prop:=∃ v H',Inv X pins σ H' s'/\RelV v u/\Q v H'
def TP (X:Cx) (pins:List (Addr×Obj)) (σ:St) (Q:Bool->Hp->Prop) (b:Bool) (s':Shared):Prop:=∃ H',Inv X pins σ H' s'/\Q b H'
def AP (X:Cx) (pins:List (Addr×Obj)) (σ:St) (Q:List V->Hp->Prop) (us:List Value) (s':Shared):Prop:=∃ vs H',Inv X pins σ H' s'/\Vals vs us/\Q vs H'
def SP (X:Cx) (pins:List (Addr×Obj)) (D:Ends) (f:Flow) (s':Shared):Prop:=
 match f with
 | .next=>∃ σ' H',Inv X pins σ' H' s'/\D.nx σ' H'
 | .brk=>∃ σ' H',Inv X pins σ' H' s'/\D.bk σ' H'
 | .cont=>∃ σ' H',Inv X pins σ' H' s'/\D.ct σ' H'
 | .ret u=>∃ v σ' H',Inv X pins σ' H' s'/\RelV v u/\D.rt v H'
def PE (X:Cx) (e:Expr) (t:TE):Prop:=
 ∀ (pins:List (Addr×Obj)) (s:Shared) (σ:St) (H:Hp) (Q:VK),Inv X pins σ H s->t σ H Q->wpAny (model X.prog X.w) X.A (eval e X.env) (EP X pins σ Q) X.xe s
def PT (X:Cx) (e:Expr) (t:TT):Prop:=
 ∀ (pins:List (Addr×Obj)) (s:Shared) (σ:St) (H:Hp) (Q:Bool->Hp->Prop),Inv X pins σ H s->t σ H Q->wpAny (model X.prog X.w) X.A (isTrue e X.env (eval e X.env)) (TP X pins σ Q) X.xe s
def PW (X:Cx) (e:Expr) (t:TT):Prop:=
 ∀ (whole:Sem Value) (pins:List (Addr×Obj)) (s:Shared) (σ:St) (H:Hp) (Q:Bool->Hp->Prop),Inv X pins σ H s->t σ H Q->wpAny (model X.prog X.w) X.A (isTrue e X.env whole) (TP X pins σ Q) X.xe s
theorem PW.pt {X:Cx}{e:Expr}{t:TT}(h:PW X e t):PT X e t:=h _
def PA (X:Cx) (es:List Expr) (t:TA):Prop:=
 ∀ (pos:Pos) (pins:List (Addr×Obj)) (s:Shared) (σ:St) (H:Hp) (Q:List V->Hp->Prop),Inv X pins σ H s->t σ H Q->wpAny (model X.prog X.w) X.A (spliced (backTo pos (starEach es X.env))) (AP X pins σ Q) X.xe s
def PS (X:Cx) (st:Stmt) (t:TS):Prop:=
 ∀ (pins:List (Addr×Obj)) (s:Shared) (σ:St) (H:Hp) (D:Ends),Inv X pins σ H s->t D σ H->wpAny (model X.prog X.w) X.A (exec st X.env) (SP X pins D) X.xe s
def PSs (X:Cx) (st:List Stmt) (t:TS):Prop:=
 ∀ (pins:List (Addr×Obj)) (s:Shared) (σ:St) (H:Hp) (D:Ends),Inv X pins σ H s->t D σ H->wpAny (model X.prog X.w) X.A (execs st X.env) (SP X pins D) X.xe s
theorem thn {α:Type}{t:Sem α}{Q Q':α->Shared->Prop}{M:Model}{A:Around}{E:Value->Shared->Prop}{s:Shared}(h:wpAny M A t Q E s) (hQ:∀ a s,Q a s->Q' a s):wpAny M A t Q' E s:=wpAny_mono h hQ fun _ _ x=>x
end L2
namespace L2
open PySem PySem.Spec PyProof.Rows
section
variable {X:Cx}
theorem bin {a b:Expr}{ta tb:TE}(ha:PE X a ta) (hb:PE X b tb) {pins:List (Addr×Obj)}{s:Shared}{σ:St}{H:Hp}{R:V->V->Hp->Prop}(I:Inv X pins σ H s) (h:ta σ H fun x H1=>tb σ H1 fun y H2=>R x y H2)
  {α:Type}{Q:α->Shared->Prop}{f:Value->Value->Sem α}
  (hf:∀ v u s2 x y H2,Inv X pins σ H2 s2->RelV x v->RelV y u->R x y H2->wpAny (model X.prog X.w) X.A (f v u) Q X.xe s2) :
  wpAny (model X.prog X.w) X.A (eval a X.env) (fun v s₁=>wpAny (model X.prog X.w) X.A (eval b X.env) (fun u s₂=>wpAny (model X.prog X.w) X.A (f v u) Q X.xe s₂) X.xe s₁) X.xe s:=by
 refine thn (ha pins s σ H _ I h) fun v s1 ⟨x,H1,I1,r1,q1⟩=>?_
 refine thn (hb pins s1 σ H1 _ I1 q1) fun u s2 ⟨y,H2,I2,r2,q2⟩=>?_
 exact hf v u s2 x y H2 I2 r1 r2 q2
def tVar (i:Nat):TE:=fun σ H Q=>∃ v,σ[i]?=some (some v)/\Q v H
def tC (v:V):TE:=fun _ H Q=>Q v H
theorem pe_var {i:Nat}{x:Str}{pos:Pos}(hN:X.N[i]?=some x) (hv:Vis X.env.scope x) (hd:(x==("__debug__":Str))=false:=by decide) (hcd:(x==("__classdict__":Str))=false:=by decide):PE X (.Name x pos) (tVar i):=by
 intro pins s σ H Q I h
 obtain⟨v,e,h⟩:=h
 obtain⟨m,hn,hl⟩:=I.loc
 obtain⟨u,r,l⟩:=hl i x v hN e hv
 have fin:EP X pins σ Q u s:=⟨v,H,I,r,h⟩
 rcases l with ⟨hk,hm⟩|⟨hk,c,hc,hcell⟩
 ·exact wpAny_Name (wpAny_loadName_local I.ok.kind hk hn hm fin) hd
 ·rcases hk with hk|hk
  ·exact wpAny_Name (wpAny_loadName_cell I.ok.kind hk hc hcell fin) hd
  ·exact wpAny_Name (wpAny_loadName_free I.ok.kind hk hc hcell fin hcd) hd
theorem za3 {i j pos}:PE X (.Constant (.int i) j pos) (tC (.int i)):=fun _ _ _ H _ I h=>wpAny_Constant_int ⟨.int i,H,I.tok _,⟨_,rfl⟩,h⟩
theorem zu4 {b j pos}:PE X (.Constant (.bool b) j pos) (tC (.bl b)):=fun _ _ _ H _ I h=>Constant_bool ⟨.bl b,H,I,rfl,h⟩
theorem zae4 {j pos}:PE X (.Constant .none j pos) (tC .non):=fun _ _ _ H _ I h=>Constant_none ⟨.non,H,I,rfl,h⟩
theorem zf2 {x j pos}:PE X (.Constant (.str x) j pos) (tC (.str x)):=fun _ _ _ H _ I h=>Calls.Constant_str ⟨.str x,H,I.tok _,⟨_,rfl⟩,h⟩
def Gl (X:Cx) (x:Str):Prop:=X.env.kindOf x=some .globalImplicit
theorem zbt9 {E:Value->Shared->Prop}{pins:List (Addr×Obj)}{s:Shared}{σ:St}{H:Hp}{x:Str}{u:Value}{pos:Pos}{Q:Value->Shared->Prop}(I:Inv X pins σ H s) (hg:Gl X x) (hm:X.mg x=some u) (h:Q u s)
  (hd:(x==("__debug__":Str))=false:=by decide):wpAny (model X.prog X.w) X.A (eval (.Name x pos) X.env) Q E s:=
 Calls.Name_function_global I.ok.kind hg (Calls.loadGlobal_global (by rw[I.ok.glob];exact I.mod.glob.keeps I.bk) hm h) hd
theorem zx1 {E:Value->Shared->Prop}{pins:List (Addr×Obj)}{s:Shared}{σ:St}{H:Hp}{x:Str}{u:Value}{pos:Pos}{Q:Value->Shared->Prop}(I:Inv X pins σ H s) (hg:Gl X x) (hm:X.mg x=none) (hv:bootBuiltins x=some u) (h:Q u s)
  (hn:x≠"__name__":=by decide) (hd:(x==("__debug__":Str))=false:=by decide):wpAny (model X.prog X.w) X.A (eval (.Name x pos) X.env) Q E s:=by
 obtain⟨mb,h1,h2⟩:=I.mod.blt
 exact Calls.Name_function_global I.ok.kind hg (Calls.loadGlobal_builtin (by rw[I.ok.glob];exact I.mod.glob.keeps I.bk) hm (by rw[I.ok.blt];exact h1.keeps I.bk) ((h2 x hn).trans hv) h) hd
theorem zbb7 {x:Str}{v:V}{u:Value}{pos:Pos}(hg:Gl X x) (hm:X.mg x=some u) (r:RelV v u) (hd:(x==("__debug__":Str))=false:=by decide):PE X (.Name x pos) (tC v):=
 fun _ _ _ H _ I h=>zbt9 I hg hm ⟨v,H,I,r,h⟩ hd
theorem zcm9 {x:Str}{v:V}{u:Value}{pos:Pos}(hg:Gl X x) (hm:X.mg x=none) (hv:bootBuiltins x=some u) (r:RelV v u) (hn:x≠"__name__":=by decide) (hd:(x==("__debug__":Str))=false:=by decide):PE X (.Name x pos) (tC v):=
 fun _ _ _ H _ I h=>zx1 I hg hm hv ⟨v,H,I,r,h⟩ hn hd
variable {a b:Expr}{ta tb:TE}{pos:Pos}
variable {tA tB':TT}{rest:List Expr}
def tAnd (t u:TT):TT:=fun σ H Q=>t σ H fun c H1=>if c=true then u σ H1 Q else Q false H1
def tOr (t u:TT):TT:=fun σ H Q=>t σ H fun c H1=>if c=true then Q true H1 else u σ H1 Q
def tNot (t:TT):TT:=fun σ H Q=>t σ H fun c H1=>Q (!c) H1
theorem zab6 (ha:PT X a tA):PW X (.BoolOp .And [a] pos) tA:=by
 intro wh pins s σ H Q I h
 refine isTrue_and (thn (ha pins s σ H Q I h) fun c s1 e=>?_)
 cases c with
 | true=>exact isTrue_and_nil e
 | false=>exact e
theorem zac6 (ha:PT X a tA):PW X (.BoolOp .Or [a] pos) tA:=by
 intro wh pins s σ H Q I h
 refine isTrue_or (thn (ha pins s σ H Q I h) fun c s1 e=>?_)
 cases c with
 | false=>exact isTrue_or_nil e
 | true=>exact e
theorem pw_and (ha:PT X a tA) (hb:PW X (.BoolOp .And (b :: rest) pos) tB'):PW X (.BoolOp .And (a :: b :: rest) pos) (tAnd tA tB'):=by
 intro wh pins s σ H Q I h
 refine isTrue_and (thn (ha pins s σ H _ I h) fun c s1 ⟨H1,I1,q1⟩=>?_)
 cases c with
 | true=>exact hb wh pins s1 σ H1 Q I1 q1
 | false=>exact⟨H1,I1,q1⟩
theorem pw_or (ha:PT X a tA) (hb:PW X (.BoolOp .Or (b :: rest) pos) tB'):PW X (.BoolOp .Or (a :: b :: rest) pos) (tOr tA tB'):=by
 intro wh pins s σ H Q I h
 refine isTrue_or (thn (ha pins s σ H _ I h) fun c s1 ⟨H1,I1,q1⟩=>?_)
 cases c with
 | true=>exact⟨H1,I1,q1⟩
 | false=>exact hb wh pins s1 σ H1 Q I1 q1
theorem zm9 (ha:PT X a tA):PT X (.UnaryOp .Not a pos) (tNot tA):=by
 intro pins s σ H Q I h
 exact isTrue_not (ha pins s σ H (fun c H1=>Q (!c) H1) I h)
theorem zw8 {op} {t:TE}(h:PE X a t):PE X (.BoolOp op [a] pos) t:=fun pins s σ H Q I hw=>BoolOp_one (h pins s σ H Q I hw)
def tIf (t:TT) (ta tb:TE):TE:=fun σ H Q=>t σ H fun c H1=>if c=true then ta σ H1 Q else tb σ H1 Q
theorem zcd4 {c:Expr}(hc:PT X c tA) (ha:PE X a ta) (hb:PE X b tb):PE X (.IfExp c a b pos) (tIf tA ta tb):=by
 intro pins s σ H Q I h
 refine wpAny_IfExp (thn (hc pins s σ H _ I h) fun d s1 ⟨H1,I1,q1⟩=>?_)
 cases d with
 | true=>exact ha pins s1 σ H1 Q I1 q1
 | false=>exact hb pins s1 σ H1 Q I1 q1
end
end L2
namespace L2
open PySem PySem.Spec PyProof.Rows
def SqL (K:zcy1) (H:Hp) (a:Addr) (xs:List V):Prop:=
 Rd H a (.lst xs) ∨
  ∃ (o:Obj) (its:Array Value) (n:Nat),K.lookup a=some o/\o.cls=.type "list"/\o.dict=none/\o.data=.seq its n/\its.size<=sizeLine/\Vals xs its.toList
def SqT (K:zcy1) (H:Hp) (a:Addr) (xs:List V):Prop:=
 Rd H a (.tup xs) ∨
  ∃ (o:Obj) (its:Array Value) (n:Nat),K.lookup a=some o/\o.cls=.type "tuple"/\o.data=.seq its n/\its.size<=sizeLine/\Vals xs its.toList
def absV:Value->Option V
 | .none=>some .non
 | .bool b=>some (.bl b)
 | .int i _=>some (.int i)
 | .str x _=>some (.str x)
 | .bytes b _=>some (.byt b)
 | .float b _=>some (.flt b)
 | .ref a=>some (.ref a)
 | .type n=>some (.ty n)
 | _=>none
theorem RelV.abs {x:V}{u:Value}(r:RelV x u):absV u=some x:=by
 cases x with
 | non=>cases r;rfl
 | bl _=>cases r;rfl
 | int _=>obtain⟨t,rfl⟩:=r;rfl
 | str _=>obtain⟨t,rfl⟩:=r;rfl
 | byt _=>obtain⟨t,rfl⟩:=r;rfl
 | flt _=>obtain⟨t,rfl⟩:=r;rfl
 | ref _=>cases r;rfl
 | ty _=>cases r;rfl
theorem RelV.inj {x y:V}{u:Value}(r:RelV x u) (q:RelV y u):x=y:=Option.some.inj (r.abs.symm.trans q.abs)
theorem Vals.inj:∀ {xs ys:List V}{us:List Value},Vals xs us->Vals ys us->xs=ys
 | _,_,_,.nil,.nil=>rfl
 | _,_,_,.cons r t,.cons r' t'=>by rw[r.inj r',Vals.inj t t']
section
variable {X:Cx}{pins:List (Addr×Obj)}{σ:St}{H:Hp}{s:Shared}{a:Addr}{xs ys:List V}
theorem SqL.of {K:zcy1}(h:H a=some (.lst xs)):SqL K H a xs:=.inl (.inl h)
theorem SqT.of {K:zcy1}(h:H a=some (.tup xs)):SqT K H a xs:=.inl (.inl h)
theorem Inv.list (I:Inv X pins σ H s) (h:SqL X.K H a xs):∃ its:List Value,Vals xs its/\PlainL s.heap a its.toArray/\xs.length<=sizeLine:=by
 rcases h with h|⟨o,its,n,hk,hc,hd,hs,hz,r⟩
 ·obtain⟨z,its,n,r,e⟩:=h.ok I.hok
  exact⟨its,r,⟨_,n,e,rfl,rfl,rfl⟩,z⟩
 ·refine⟨its.toList,r,⟨o,n,I.kIn a o hk,hc,hd,by simpa using hs⟩,?_⟩
  have e:=r.length
  simp only[Array.length_toList] at e
  omega
theorem Inv.tuple (I:Inv X pins σ H s) (h:SqT X.K H a xs):∃ its:List Value,Vals xs its/\IsTup s.heap a its.toArray/\xs.length<=sizeLine:=by
 rcases h with h|⟨o,its,n,hk,hc,hs,hz,r⟩
 ·obtain⟨z,its,r,p⟩:=h.ok I.hok
  exact⟨its,r,p,z⟩
 ·refine⟨its.toList,r,⟨o,I.kIn a o hk,hc,n,by simpa using hs⟩,?_⟩
  have e:=r.length
  simp only[Array.length_toList] at e
  omega
theorem Inv.list_inj (I:Inv X pins σ H s) (h:SqL X.K H a xs) (h':SqL X.K H a ys):xs=ys:=by
 obtain⟨its,r,⟨o,n,e,_,_,d⟩,_⟩:=I.list h
 obtain⟨its',r',⟨o',n',e',_,_,d'⟩,_⟩:=I.list h'
 rw[e] at e';cases e'
 rw[d] at d'
 injection d' with d1 _
 have:its=its':=by simpa using congrArg Array.toList d1
 subst this
 exact r.inj r'
theorem Inv.tuple_inj (I:Inv X pins σ H s) (h:SqT X.K H a xs) (h':SqT X.K H a ys):xs=ys:=by
 obtain⟨its,r,⟨o,e,_,n,d⟩,_⟩:=I.tuple h
 obtain⟨its',r',⟨o',e',_,n',d'⟩,_⟩:=I.tuple h'
 rw[e] at e';cases e'
 rw[d] at d'
 injection d' with d1 _
 have:its=its':=by simpa using congrArg Array.toList d1
 subst this
 exact r.inj r'
end
abbrev Cx.wish (X:Cx) (E:Value->Shared->Prop):Cx:={ X with xe:=E }
abbrev Cx.nox (X:Cx):Cx:=X.wish fun _ _=>False
theorem Cx.Ok.wish {X:Cx}(ok:X.Ok) (E:Value->Shared->Prop):(X.wish E).Ok:=
 ⟨ok.mod,ok.kind,ok.glob,ok.blt,ok.above,ok.inj,ok.has,ok.cab,ok.hd,ok.frames,ok.stk,ok.exf,ok.bs,ok.bsz,ok.noex,ok.exfs,ok.funs,ok.frf⟩
theorem Cx.Ok.unwish {X:Cx}{E:Value->Shared->Prop}(ok:(X.wish E).Ok):X.Ok:=
 ⟨ok.mod,ok.kind,ok.glob,ok.blt,ok.above,ok.inj,ok.has,ok.cab,ok.hd,ok.frames,ok.stk,ok.exf,ok.bs,ok.bsz,ok.noex,ok.exfs,ok.funs,ok.frf⟩
section
variable {X:Cx}{pins:List (Addr×Obj)}{σ:St}{H:Hp}{s:Shared}{E:Value->Shared->Prop}
theorem Inv.wish (I:Inv X pins σ H s) (E:Value->Shared->Prop):Inv (X.wish E) pins σ H s:=⟨I.ok.wish E,I.os,I.bare,I.base,I.loc,I.cell,I.free,I.freeC,I.pin,I.hok,I.len⟩
theorem Inv.unwish (I:Inv (X.wish E) pins σ H s):Inv X pins σ H s:=⟨I.ok.unwish,I.os,I.bare,I.base,I.loc,I.cell,I.free,I.freeC,I.pin,I.hok,I.len⟩
theorem SP.unwish {D:Ends}{f:Flow}{s':Shared}(h:SP (X.wish E) pins D f s'):SP X pins D f s':=by
 cases f with
 | next=>obtain⟨σ',H',I,q⟩:=h;exact⟨σ',H',I.unwish,q⟩
 | brk=>obtain⟨σ',H',I,q⟩:=h;exact⟨σ',H',I.unwish,q⟩
 | cont=>obtain⟨σ',H',I,q⟩:=h;exact⟨σ',H',I.unwish,q⟩
 | ret u=>obtain⟨v,σ',H',I,r,q⟩:=h;exact⟨v,σ',H',I.unwish,r,q⟩
theorem PSs.nox {st:List Stmt}{t:TS}(h:PSs X.nox st t):PSs X st t:=fun pins s σ H D I hw=>
 wpAny_mono (h pins s σ H D (I.wish _) hw) (fun _ _ q=>q.unwish) fun _ _ z=>False.elim z
end
section
variable {X:Cx}{st:Stmt}{rest:List Stmt}{t u:TS}{e:Expr}{te:TE}{pos:Pos}
def tNext:TS:=fun D σ H=>D.nx σ H
def tSeq (t u:TS):TS:=fun D σ H=>t { D with nx:=u D } σ H
theorem zb6:PSs X [] tNext:=fun _ _ σ H _ I h=>wpAny_execs_nil ⟨σ,H,I,h⟩
theorem za2 (h1:PS X st t) (h2:PSs X rest u):PSs X (st :: rest) (tSeq t u):=by
 intro pins s σ H D I h
 refine wpAny_execs_cons (thn (h1 pins s σ H { D with nx:=u D } I h) fun f s1 q=>?_)
 cases f with
 | next=>
  obtain⟨σ',H',I',q⟩:=q
  exact h2 pins s1 σ' H' D I' q
 | ret v=>exact q
 | brk=>exact q
 | cont=>exact q
theorem za5 (h1:PS X st t):PSs X [st] t:=by
 intro pins s σ H D I h
 refine wpAny_execs_cons (thn (h1 pins s σ H D I h) fun f s1 q=>?_)
 cases f with
 | next=>exact wpAny_execs_nil q
 | ret v=>exact q
 | brk=>exact q
 | cont=>exact q
theorem Inv.quiet {pins:List (Addr×Obj)}{σ:St}{H:Hp}{s:Shared}(I:Inv X pins σ H s):interactive X.env=false:=by simp[interactive,I.ok.kind]
def tDrop (te:TE):TS:=fun D σ H=>te σ H fun _ H1=>D.nx σ H1
theorem ze7 (he:PE X e te) (hs:swapsWith e none pos.line X.env=pure false:=by rfl):PS X (.Expr e pos) (tDrop te):=by
 intro pins s σ H D I h
 exact wpAny_Expr_any (thn (he pins s σ H _ I h) fun v s1 ⟨x,H1,I1,r1,q1⟩=>⟨σ,H1,I1,q1⟩) I.quiet hs
def tRet (te:TE):TS:=fun D σ H=>te σ H D.rt
theorem za8 (he:PE X e te):PS X (.Return (some e) pos) (tRet te):=by
 intro pins s σ H D I h
 exact wpAny_Return_some (thn (he pins s σ H _ I h) fun v s1 ⟨x,H1,I1,r1,q1⟩=>⟨x,σ,H1,I1,r1,q1⟩)
def tIfS (c:TT) (t u:TS):TS:=fun D σ H=>c σ H fun b H1=>if b=true then t D σ H1 else u D σ H1
theorem ps_if {c:Expr}{a b:List Stmt}{tc:TT}(hc:PT X c tc) (ha:PSs X a t) (hb:PSs X b u):PS X (.If c a b pos) (tIfS tc t u):=by
 intro pins s σ H D I h
 refine wpAny_If (thn (hc pins s σ H _ I h) fun d s1 ⟨H1,I1,q1⟩=>?_)
 cases d with
 | true=>exact ha pins s1 σ H1 D I1 q1
 | false=>exact hb pins s1 σ H1 D I1 q1
def tNever:TS:=fun _ _ _=>False
theorem zad8:PS X st tNever:=fun _ _ _ _ _ _ h=>h.elim
end
abbrev TG:=V->St->Hp->(St->Hp->Prop)->Prop
abbrev TGs:=List V->St->Hp->(St->Hp->Prop)->Prop
def PG (X:Cx) (target:Expr) (t:TG):Prop:=
 ∀ (pins:List (Addr×Obj)) (s:Shared) (σ:St) (H:Hp) (v:V) (u:Value) (Q:St->Hp->Prop),Inv X pins σ H s->RelV v u->t v σ H Q ->
  wpAny (model X.prog X.w) X.A (assign target X.env u) (fun _ s'=>∃ σ' H',Inv X pins σ' H' s'/\Q σ' H') X.xe s
def PGs (X:Cx) (ts:List Expr) (t:TGs):Prop:=
 ∀ (pins:List (Addr×Obj)) (s:Shared) (σ:St) (H:Hp) (vs:List V) (us:List Value) (Q:St->Hp->Prop),Inv X pins σ H s->Vals vs us->t vs σ H Q ->
  wpAny (model X.prog X.w) X.A (assignInOrder ((assignEach ts X.env).map (·.2)) us) (fun _ s'=>∃ σ' H',Inv X pins σ' H' s'/\Q σ' H') X.xe s
abbrev TIp:=V->V->Hp->VK->Prop
def PIp (X:Cx) (op:Operator) (t:TIp):Prop:=
 ∀ (pins:List (Addr×Obj)) (s:Shared) (σ:St) (H:Hp) (x y:V) (v u:Value) (Q:VK),Inv X pins σ H s->RelV x v->RelV y u->t x y H Q ->
  wpAny (model X.prog X.w) X.A (inplaceOp op v u) (EP X pins σ Q) X.xe s
section
variable {X:Cx}{pos:Pos}
def zbv2 (i:Nat):TG:=fun v σ H Q=>Q (σ.set i (some v)) H
theorem za6 {i:Nat}{x:Str}(hN:X.N.Nodup) (hi:X.N[i]?=some x) (hx:Loc X.env.scope x) (hf:X.fn x=true∨X.env.scope.names.lookup x=some .local:=by first|exact .inl rfl|exact .inr rfl|assumption):PG X (.Name x pos) (zbv2 i):=by
 intro pins s σ H v u Q I r h
 exact wpAny_assign_Name (zac8 I hN hi hx r (fun s' I'=>⟨_,H,I',h⟩) hf)
def gNil:TGs:=fun vs σ H Q=>vs=[]/\Q σ H
def gCons (t:TG) (u:TGs):TGs:=fun vs σ H Q=>∃ v r,vs=v :: r/\t v σ H fun σ' H'=>u r σ' H' Q
theorem zco2:PGs X [] gNil:=by
 intro pins s σ H vs us Q I r h
 obtain⟨e,h⟩:=h
 subst e
 cases r
 exact assignInOrder_nil ⟨σ,H,I,h⟩
theorem zcc1 {e:Expr}{es:List Expr}{t:TG}{u:TGs}(h1:PG X e t) (h2:PGs X es u)
  (hs:(assignEach (e :: es) X.env).map (·.2)=assign e X.env :: (assignEach es X.env).map (·.2):=by rfl):PGs X (e :: es) (gCons t u):=by
 intro pins s σ H vs us Q I r h
 obtain⟨v,vr,e1,h⟩:=h
 subst e1
 cases r with
 | cons r rr=>
  rw[hs]
  refine assignInOrder_cons (thn (h1 pins s σ H _ _ _ I r h) fun _ s1 ⟨σ1,H1,I1,q1⟩=>?_)
  exact h2 pins s1 σ1 H1 _ _ Q I1 rr q1
def gTup (K:zcy1) (n:Nat) (t:TGs):TG:=fun v σ H Q=>∃ a xs,v=.ref a/\SqT K H a xs/\xs.length=n/\t xs σ H Q
theorem pg_tup {es:List Expr}{k:Nat}{t:TGs}{n:Nat}(hc:X.calm=true) (h:PGs X es t)
  (hn:(assignEach es X.env).length=n:=by rfl) (hst:(assignEach es X.env).findIdx? (·.1)=none:=by rfl):PG X (.Tuple es k pos) (gTup X.K n t):=by
 intro pins s σ H v u Q I r hw
 obtain⟨a,xs,e1,hq,hl,hw⟩:=hw
 subst e1
 cases r
 obtain⟨its,rv,ht,hz⟩:=I.tuple hq
 refine assign_Tuple_tuple (I.ok.hd hc) ht (by simp[hn,← hl,rv.length]) hst fun h' hx=>?_
 have I1:Inv X pins σ H { s with heap:=h' }:=I.kept (t':=s.toks) fun b o e=>hx b o (zda8 (zcz7 e)) e
 exact h pins _ σ H xs _ Q I1 (by simpa using rv) hw
def tAsg (te:TE) (g:TG):TS:=fun D σ H=>te σ H fun x H1=>g x σ H1 D.nx
theorem ps_asg {tg e:Expr}{te:TE}{g:TG}(he:PE X e te) (hg:PG X tg g) (hs:swapsWithSole [tg] e pos.line X.env=pure false:=by rfl) (hw:swappedStores [tg] e X.env=pure none:=by rfl)
  (h1:(assignEach [tg] X.env).map (·.2)=[assign tg X.env]:=by rfl):PS X (.Assign [tg] e pos) (tAsg te g):=by
 intro pins s σ H D I h
 refine wpAny_Assign_stores (thn (he pins s σ H _ I h) fun v s1 ⟨x,H1,I1,r1,q1⟩=>?_) hs hw
 rw[h1]
 exact thn (hg pins s1 σ H1 x v _ I1 r1 q1) fun _ s2 q=>q
theorem zcj1 {i:Nat}{x:Str}{e:Expr}{te:TE}{pos':Pos}(hN:X.N.Nodup) (hi:X.N[i]?=some x) (hx:Loc X.env.scope x) (he:PE X e te) (hs:swapsWith e (some (.Name x pos')) pos.line X.env=pure false:=by rfl) (hf:X.fn x=true∨X.env.scope.names.lookup x=some .local:=by first|exact .inl rfl|exact .inr rfl|assumption) :
  PS X (.Assign [.Name x pos'] e pos) (tAsg te (zbv2 i)):=by
 intro pins s σ H D I h
 refine wpAny_Assign_Name (thn (he pins s σ H _ I h) fun v s1 ⟨y,H1,I1,r1,q1⟩=>?_) hs
 exact zac8 I1 hN hi hx r1 (fun s2 I2=>⟨_,H1,I2,q1⟩) hf
def tAug (i:Nat) (te:TE) (ti:TIp):TS:=fun D σ H=>∃ x,σ[i]?=some (some x)/\te σ H fun y H1=>ti x y H1 fun z H2=>D.nx (σ.set i (some z)) H2
theorem ps_aug {i:Nat}{x:Str}{e:Expr}{te:TE}{op:Operator}{ti:TIp}{pos':Pos}(hN:X.N.Nodup) (hi:X.N[i]?=some x) (hx:Loc X.env.scope x) (he:PE X e te) (ho:PIp X op ti) (hf:X.fn x=true∨X.env.scope.names.lookup x=some .local:=by first|exact .inl rfl|exact .inr rfl|assumption) :
  PS X (.AugAssign (.Name x pos') op e pos) (tAug i te ti):=by
 intro pins s σ H D I h
 obtain⟨v,e1,h⟩:=h
 obtain⟨m,hn,hl⟩:=I.loc
 have vis:Vis X.env.scope x:=by rcases hx with k|k;exact .inl k;exact .inr (.inl k)
 obtain⟨u,r,l⟩:=hl i x v hi e1 vis
 refine wpAny_AugAssign_Name ?_
 have go:wpAny (model X.prog X.w) X.A (eval e X.env) (fun w s₂=>wpAny (model X.prog X.w) X.A (inplaceOp op u w) (fun r s₃=>wpAny (model X.prog X.w) X.A (storeName X.env x r) (fun _=>SP X pins D .next) X.xe s₃) X.xe s₂) X.xe s:=by
  refine thn (he pins s σ H _ I h) fun w s1 ⟨y,H1,I1,r1,q1⟩=>?_
  refine thn (ho pins s1 σ H1 v y u w _ I1 r r1 q1) fun z s2 ⟨zv,H2,I2,r2,q2⟩=>?_
  exact zac8 I2 hN hi hx r2 (fun s3 I3=>⟨_,H2,I3,q2⟩) hf
 rcases l with ⟨hk,hm⟩|⟨hk,c,hc,hcell⟩
 ·exact wpAny_loadName_local I.ok.kind hk hn hm go
 ·rcases hk with hk|hk
  ·exact wpAny_loadName_cell I.ok.kind hk hc hcell go
  ·rcases hx with k|k
   ·have:X.env.scope.names.lookup x=some .free:=hk
    rw[k] at this;cases this
   ·have:X.env.scope.names.lookup x=some .free:=hk
    rw[k] at this;cases this
end
section
variable {X:Cx}{pos:Pos}
def tWhile (c:TT) (tb:TS):TS:=fun D σ H=>∃ W:Nat->St->Hp->Prop,(∃ m,W m σ H)/\∀ m σ H,W m σ H ->
 c σ H fun b H1=>if b=true then ∃ N:St->Hp->Prop,(∀ σ' H',N σ' H'->∃ m',m'<m/\W m' σ' H')/\tb { D with nx:=N,ct:=N,bk:=D.nx } σ H1 else D.nx σ H1
theorem zcd2 {c:Expr}{body:List Stmt}{tc:TT}{tb:TS}(hp:PassesOwn (model X.prog X.w) X.A X.env X.xe) (hc:PT X c tc) (hb:PSs X body tb):PS X (.While c body [] pos) (tWhile tc tb):=by
 intro pins s σ H D I h
 obtain⟨W,⟨m0,w0⟩,turn⟩:=h
 refine wpAny_While (codeAny_whileLoop (fun n s'=>∃ σ' H',Inv X pins σ' H' s'/\W n σ' H') ?_ m0 ⟨σ,H,I,w0⟩)
 rintro n s1 ⟨σ1,H1,I1,w1⟩
 refine wpAny_passesOwn hp (thn (hc pins s1 σ1 H1 _ I1 (turn n σ1 H1 w1)) fun b s2 ⟨H2,I2,q2⟩=>?_)
 cases b with
 | true=>
  obtain⟨N,hN,q2⟩:=q2
  rw[if_pos rfl]
  refine wpAny_passesOwn hp (thn (hb pins s2 σ1 H2 _ I2 q2) fun f s3 q3=>?_)
  cases f with
  | next=>
   obtain⟨σ3,H3,I3,n3⟩:=q3
   obtain⟨m',hm,w3⟩:=hN σ3 H3 n3
   exact⟨m',hm,σ3,H3,I3,w3⟩
  | cont=>
   obtain⟨σ3,H3,I3,n3⟩:=q3
   obtain⟨m',hm,w3⟩:=hN σ3 H3 n3
   exact⟨m',hm,σ3,H3,I3,w3⟩
  | brk=>exact q3
  | ret v=>exact q3
 | false=>
  rw[if_neg zcz0]
  exact wpAny_execs_nil ⟨σ1,H2,I2,q2⟩
end
structure It where
 go:Nat->Hp->Prop
 yld:Nat->Hp->V->Hp->Prop
 stop:Nat->Hp->Prop
def FpOk (X:Cx) (pins:List (Addr×Obj)) (H:Hp) (b:Addr):Prop:=
 H b=none/\b≠X.env.locals/\b ∉ X.fs/\(b∈X.ex∨X.s₀.heap.objs.size<=b)/\(∀ x c,X.env.cells.lookup x=some c->c≠b)/\∀ p∈X.pn++pins,p.1≠b
theorem Inv.fpOk {X:Cx}{pins:List (Addr×Obj)}{σ:St}{H H':Hp}{s:Shared}{b:Addr}(I:Inv X pins σ H s) (hb:s.heap.objs.size<=b) (hn:H' b=none):FpOk X pins H' b:=by
 refine⟨hn,Nat.ne_of_gt (zdb1 I.lt hb),I.nofs hb,.inr (zdb4 I.sz hb),fun x c e z=>?_,fun p hp z=>?_⟩
 ·obtain⟨v,q⟩:=I.cell x c e
  exact absurd (zdb1 q.lt (by rw[z];exact hb)) (Nat.lt_irrefl _)
 ·exact absurd (zdb1 (zcz7 (I.pin p hp).1) (by rw[z];exact hb)) (Nat.lt_irrefl _)
structure Turn (P:Program) (w:World) (K:zcy1) (tg:Expr) (J:It) (fp:List Addr) (it:Addr) (tn:Nat->Heap->Prop):Prop where
 mem:it∈fp
 obj:∀ i h,tn i h->∀ b∈fp,∃ o,h.get? b=some o/\∀ v,o.data≠.cell v
 keep:∀ i h h',tn i h->(∀ b∈fp,∀ o,h.get? b=some o->h'.get? b=some o)->tn i h'
 item:∀ (X:Cx),X.prog=P->X.w=w->X.K=K->X.calm=true->∀ (i:Nat) (pins:List (Addr×Obj)) (s:Shared) (σ:St) (H:Hp) (E:Value->Shared->Prop),Inv X pins σ H s->(∀ b∈fp,FpOk X pins H b)->tn i s.heap->J.go i H ->
  wpAny (model P w) X.A (pyNext (.ref it)) (fun r s1=>∃ u,r=some u /\
   wpAny (model P w) X.A (letOwnedTupleGo tg (.ref it) u) (fun _ s2=>∃ x H',Inv X pins σ H' s2/\RelV x u/\J.yld i H x H'/\tn (i+1) s2.heap/\∀ b∈fp,H' b=none) E s1) E s
 done:∀ (X:Cx),X.prog=P->X.w=w->X.K=K->X.calm=true->∀ (i:Nat) (pins:List (Addr×Obj)) (s:Shared) (σ:St) (H:Hp) (E:Value->Shared->Prop),Inv X pins σ H s->(∀ b∈fp,FpOk X pins H b)->tn i s.heap->J.stop i H ->
  wpAny (model P w) X.A (pyNext (.ref it)) (fun r s1=>r=none/\Inv X pins σ H s1) E s
 self:∀ (A:Around) (i:Nat) (s:Shared) (Q:Value->Shared->Prop) (E:Value->Shared->Prop),tn i s.heap->Q (.ref it) s->wpAny (model P w) A (pyIter (.ref it)) Q E s
abbrev TI:=St->Hp->(It->Hp->Prop)->Prop
def PIE (X:Cx) (pins:List (Addr×Obj)) (σ:St) (tg:Expr) (R:It->Hp->Prop) (itv:Value) (s2:Shared):Prop:=
 ∃ (it:Addr) (fp:List Addr) (tn:Nat->Heap->Prop) (J:It) (H':Hp),itv=.ref it/\Inv X pins σ H' s2/\Turn X.prog X.w X.K tg J fp it tn/\tn 0 s2.heap/\(∀ b∈fp,FpOk X pins H' b)/\R J H'
def PI (X:Cx) (tg iter:Expr) (wi:TI):Prop:=
 ∀ (pins:List (Addr×Obj)) (s:Shared) (σ:St) (H:Hp) (R:It->Hp->Prop),Inv X pins σ H s->wi σ H R ->
  wpAny (model X.prog X.w) X.A (eval iter X.env) (fun v s1=>wpAny (model X.prog X.w) X.A (pyIter v) (PIE X pins σ tg R) X.xe s1) X.xe s
theorem go_of {M:Model}{A:Around}{E:Value->Shared->Prop}{s:Shared}{tg:Expr}{it:Addr}{u:Value}{o:Obj}{n:String}{vs:Array Value}{Q:Unit->Shared->Prop}(ho:s.heap.get? it=some o) (hc:o.cls=.type n) (hd:o.data=.fields vs)
  (hn:["enumerate","zip","dict_itemiterator","dict_reverseitemiterator","odict_iterator","itertools.zip_longest","itertools.pairwise"].contains n=false) (hQ:Q () s):wpAny M A (letOwnedTupleGo tg (.ref it) u) Q E s:=by
 unfold letOwnedTupleGo
 cases tg<;>first
  | exact wpAny_pure hQ
  | (cases u<;>first
    | exact wpAny_pure hQ
    | (refine wpAny_bind (wpAny_load ho ?_);rw[hc,hd];show wpAny M A (if (["enumerate","zip","dict_itemiterator","dict_reverseitemiterator","odict_iterator","itertools.zip_longest","itertools.pairwise"].contains n&&vs[0]?==some (rawInt _))=true then _ else _) Q E s;rw[if_neg (by intro h;rw[hn,Bool.false_and] at h;cases h)];exact wpAny_pure hQ))
def Itl (K:zcy1) (a:Addr):It:=
 ⟨fun i H=>∃ xs x,SqL K H a xs/\xs[i]?=some x,fun i H x H'=>H'=H/\∀ xs,SqL K H a xs->xs[i]?=some x,fun i H=>∃ xs,SqL K H a xs/\xs.length<=i⟩
def Itt (K:zcy1) (a:Addr):It:=
 ⟨fun i H=>∃ xs x,SqT K H a xs/\xs[i]?=some x,fun i H x H'=>H'=H/\∀ xs,SqT K H a xs->xs[i]?=some x,fun i H=>∃ xs,SqT K H a xs/\xs.length<=i⟩
def Itr (lo:Int) (n:Nat):It:=⟨fun i _=>i<n,fun i H x H'=>H'=H/\x=.int (lo+i),fun i _=>n<=i⟩
theorem zbq5 {P:Program}{w:World}{K:zcy1}{tg:Expr}(a it:Addr):Turn P w K tg (Itl K a) [it] it (fun i h=>h.IsListIter it a i) where
 mem:=by simp
 obj:=fun i h st b hb=>by
  have e:b=it:=by simpa using hb
  subst e
  obtain⟨o,e,c,d⟩:=st
  exact⟨o,e,fun v z=>by rw[d] at z;cases z⟩
 keep:=fun i h h' st k=>st.at fun o e=>k it (by simp) o e
 item:=by
  intro X hP hw hK hc i pins s σ H E I hf st hg
  subst hP hw hK
  obtain⟨xs,x,hq,hx⟩:=hg
  obtain⟨its,rv,p,hz⟩:=I.list hq
  obtain⟨u,hu,ru⟩:=rv.get hx
  obtain⟨f0,f1,f2,f3,f4,f5⟩:=hf it (by simp)
  refine wpAny_pyNext_list_item st p.isList (x:=u) (by simpa using hu) fun h' st' sb=>?_
  have I1:Inv X pins σ H { s with heap:=h' }:=I.turned (t':=s.toks) (fun b o hb e=>(sb.2 b hb).trans e) f0 f1 f3 f4 f5
  obtain⟨o,e,c,d⟩:=id st'
  exact⟨u,rfl,go_of (s:={ s with heap:=h' }) e c d (by decide) ⟨x,H,I1,ru,⟨rfl,fun ys hy=>by rw[I.list_inj hy hq];exact hx⟩,st',fun b hb=>(hf b hb).1⟩⟩
 done:=by
  intro X hP hw hK hc i pins s σ H E I hf st hg
  subst hP hw hK
  obtain⟨xs,hq,hx⟩:=hg
  obtain⟨its,rv,p,hz⟩:=I.list hq
  obtain⟨f0,f1,f2,f3,f4,f5⟩:=hf it (by simp)
  have hl:=rv.length
  exact wpAny_pyNext_list_end (I.ok.hd hc) st p.isList (by simp;omega) fun h' eb=>⟨rfl,I.turned (t':=s.toks) (fun b o hb e=>eb b o hb e) f0 f1 f3 f4 f5⟩
 self:=fun _ _ _ _ _ st h=>wpAny_pyIter_listiter st h
theorem zbm5 {P:Program}{w:World}{K:zcy1}{tg:Expr}(a it:Addr):Turn P w K tg (Itt K a) [it] it (fun i h=>h.IsTupleIter it a i) where
 mem:=by simp
 obj:=fun i h st b hb=>by
  have e:b=it:=by simpa using hb
  subst e
  obtain⟨o,e,c,d⟩:=st
  exact⟨o,e,fun v z=>by rw[d] at z;cases z⟩
 keep:=fun i h h' st k=>st.at fun o e=>k it (by simp) o e
 item:=by
  intro X hP hw hK hc i pins s σ H E I hf st hg
  subst hP hw hK
  obtain⟨xs,x,hq,hx⟩:=hg
  obtain⟨its,rv,p,hz⟩:=I.tuple hq
  obtain⟨u,hu,ru⟩:=rv.get hx
  obtain⟨f0,f1,f2,f3,f4,f5⟩:=hf it (by simp)
  refine wpAny_pyNext_tuple_item st (show s.heap.IsTuple a its.toArray from p) (x:=u) (by simpa using hu) fun h' st' sb=>?_
  have I1:Inv X pins σ H { s with heap:=h' }:=I.turned (t':=s.toks) (fun b o hb e=>(sb.2 b hb).trans e) f0 f1 f3 f4 f5
  obtain⟨o,e,c,d⟩:=id st'
  exact⟨u,rfl,go_of (s:={ s with heap:=h' }) e c d (by decide) ⟨x,H,I1,ru,⟨rfl,fun ys hy=>by rw[I.tuple_inj hy hq];exact hx⟩,st',fun b hb=>(hf b hb).1⟩⟩
 done:=by
  intro X hP hw hK hc i pins s σ H E I hf st hg
  subst hP hw hK
  obtain⟨xs,hq,hx⟩:=hg
  obtain⟨its,rv,p,hz⟩:=I.tuple hq
  obtain⟨f0,f1,f2,f3,f4,f5⟩:=hf it (by simp)
  have hl:=rv.length
  exact wpAny_pyNext_tuple_end (I.ok.hd hc) st (show s.heap.IsTuple a its.toArray from p) (by simp;omega) fun h' eb=>⟨rfl,I.turned (t':=s.toks) (fun b o hb e=>eb b o hb e) f0 f1 f3 f4 f5⟩
 self:=fun _ _ _ _ _ st h=>wpAny_pyIter_tupleiter st h
theorem zbn1 {P:Program}{w:World}{K:zcy1}{tg:Expr}(it:Addr) (lo:Int) (n:Nat):Turn P w K tg (Itr lo n) [it] it (fun i h=>IsRangeIter h it (lo+(i:Nat)*1) ((n:Int) - (i:Nat)) 1) where
 mem:=by simp
 obj:=fun i h st b hb=>by
  have e:b=it:=by simpa using hb
  subst e
  exact⟨_,st,fun v z=>by
   have z':Data.fields _=Data.cell v:=z
   cases z'⟩
 keep:=fun i h h' st k=>k it (by simp) _ st
 item:=by
  intro X hP hw hK hc i pins s σ H E I hf st hg
  subst hP hw hK
  obtain⟨f0,f1,f2,f3,f4,f5⟩:=hf it (by simp)
  have W:=Walks.range (prog:=X.prog) (w:=X.w) (I.ok.hd hc) it lo 1 n
  refine W.item i s _ _ hg st fun v h' tk hv st' kk=>?_
  obtain⟨t,rfl⟩:=hv
  have I1:Inv X pins σ H { s with heap:=h',toks:=tk }:=I.turned (fun b o hb e=>kk b o (by simpa using hb) e) f0 f1 f3 f4 f5
  refine⟨_,rfl,go_of (s:={ s with heap:=h',toks:=tk }) (n:="range_iterator") st' rfl rfl (by decide) ⟨.int (lo+i),H,I1,⟨t,?_⟩,⟨rfl,rfl⟩,st',fun b hb=>(hf b hb).1⟩⟩
  rw[Int.mul_one]
 done:=by
  intro X hP hw hK hc i pins s σ H E I hf st hg
  subst hP hw hK
  obtain⟨f0,f1,f2,f3,f4,f5⟩:=hf it (by simp)
  exact wpAny_pyNext_range_end (I.ok.hd hc) st (by have:n<=i:=hg;omega) fun h' eb=>⟨rfl,I.turned (t':=s.toks) (fun b o hb e=>eb b o hb e) f0 f1 f3 f4 f5⟩
 self:=fun _ _ _ _ _ st h=>wpAny_pyIter_rangeiter st h
end L2
namespace L2
open PySem PySem.Spec PyProof.Rows
section
variable {X:Cx}{tg:Expr}
theorem zbi0 {pins:List (Addr×Obj)}{σ:St}{H:Hp}{s:Shared}{R:It->Hp->Prop}{E:Value->Shared->Prop}{lo hi:Int}{t u v:Tok}{tk:Nat}(I:Inv X pins σ H s) (h1:-(2 ^ 62)<=lo) (h2:lo<2 ^ 62) (h3:-(2 ^ 62)<=hi) (h4:hi<2 ^ 62)
  (q:R (Itr lo (hi - lo).toNat) H):wpAny (model X.prog X.w) X.A (pyIter (.ref s.heap.objs.size)) (PIE X pins σ tg R) E { s with heap:=s.heap.push { cls:=.type "range",data:=.fields #[.int lo t,.int hi u,.int 1 v] },toks:=tk }:=by
 refine wpAny_pyIter_range (IsRange.new ..) (small_one h1 h2 h3 h4) ?_
 have I1:Inv X pins σ H { s with heap:=s.heap.push { cls:=.type "range",data:=.fields #[.int lo t,.int hi u,.int 1 v] },toks:=tk }:=I.kept fun b o e=>zcy5 _ e
 refine⟨(s.heap.push { cls:=.type "range",data:=.fields #[.int lo t,.int hi u,.int 1 v] }).objs.size,[(s.heap.push { cls:=.type "range",data:=.fields #[.int lo t,.int hi u,.int 1 v] }).objs.size],_,_,H,rfl,
  I1.kept (t':=tk) fun b o e=>zcy5 _ e,zbn1 _ lo (hi - lo).toNat,?_,fun b hb=>?_,q⟩
 ·have e1:lo+((0:Nat):Int)*1=lo:=by simp
  have e2:(((hi - lo).toNat:Nat):Int) - ((0:Nat):Int)=Builtin.Range.rangeSize lo hi 1:=by rw[rangeSize_one];split<;>omega
  show IsRangeIter _ _ (lo+((0:Nat):Int)*1) ((((hi - lo).toNat:Nat):Int) - ((0:Nat):Int)) 1
  rw[e1,e2]
  exact zcz9 _ rfl
 ·have e:b=(s.heap.push { cls:=.type "range",data:=.fields #[.int lo t,.int hi u,.int 1 v] }).objs.size:=by simpa using hb
  subst e
  exact I1.fpOk (zcz6 _) (I1.hok.fresh (zcz6 _))
def tFor (wi:TI) (g:TG) (tb:TS):TS:=fun D σ H=>wi σ H fun J H1=>∃ W:Nat->Nat->St->Hp->Prop,(∃ m,W 0 m σ H1)/\∀ i m σ H,W i m σ H ->
 (J.stop i H/\D.nx σ H)∨(J.go i H/\∃ N:St->Hp->Prop,(∀ σ' H',N σ' H'->∃ m',m'<m/\W (i+1) m' σ' H')/\∀ x H',J.yld i H x H'->g x σ H' fun σ2 H2=>tb { D with nx:=N,ct:=N,bk:=D.nx } σ2 H2)
def zba4 (fp:List Addr) (h:Heap):List (Addr×Obj):=fp.filterMap fun b=>(h.get? b).map fun o=>(b,o)
theorem zz6 {fp:List Addr}{h:Heap}{b:Addr}{o:Obj}(hb:b∈fp) (e:h.get? b=some o):(b,o)∈zba4 fp h:=List.mem_filterMap.mpr ⟨b,hb,by rw[e];rfl⟩
theorem zbt3 {fp:List Addr}{h:Heap}{p:Addr×Obj}(hp:p∈zba4 fp h):p.1∈fp/\h.get? p.1=some p.2:=by
 obtain⟨b,hb,e⟩:=List.mem_filterMap.mp hp
 cases q:h.get? b with
 | none=>rw[q] at e;cases e
 | some o=>
  rw[q] at e
  have e':(b,o)=p:=Option.some.inj e
  subst e'
  exact⟨hb,q⟩
theorem Inv.pinned {pins:List (Addr×Obj)}{σ:St}{H:Hp}{s:Shared}{fp:List Addr}(I:Inv X pins σ H s) (hf:∀ b∈fp,FpOk X pins H b) (ho:∀ b∈fp,∃ o,s.heap.get? b=some o/\∀ v,o.data≠.cell v):Inv X (pins++zba4 fp s.heap) σ H s:=
 I.pins_of fun p hp=>(zdd1.mp hp).elim (fun z=>I.pin p (zdc1 _ z)) fun z=>by
  obtain⟨hb,e⟩:=zbt3 z
  obtain⟨f0,f1,f2,_⟩:=hf p.1 hb
  obtain⟨o,e',d⟩:=ho p.1 hb
  rw[e] at e';cases e'
  exact⟨e,f0,f1,f2,d⟩
theorem Inv.unpinned {pins pl:List (Addr×Obj)}{σ:St}{H:Hp}{s:Shared}(I:Inv X (pins++pl) σ H s):Inv X pins σ H s:=I.pins_of fun p hp=>I.pin p (zdc1 _ (List.mem_append_left _ hp))
theorem ps_for {iter:Expr}{body:List Stmt}{wi:TI}{g:TG}{tb:TS}{pos:Pos}(hp:PassesOwn (model X.prog X.w) X.A X.env X.xe) (hc:X.calm=true) (hi:PI X tg iter wi) (hg:PG X tg g) (hb:PSs X body tb)
  (hs:∀ x,foldedSetIterable iter X.env x=pure x:=by intro _;rfl):PS X (.For tg iter body [] pos) (tFor wi g tb):=by
 intro pins s σ H D I h
 refine wpAny_For (thn (hi pins s σ H _ I h) fun v s1 h1=>thn h1 fun itv s2 h2=>?_) hs
 obtain⟨it,fp,tn,J,H2,e,I2,T,st2,f2,W,⟨m0,w0⟩,turn⟩:=h2
 subst e
 have stat:∀ {H':Hp},(∀ b∈fp,H' b=none)->∀ b∈fp,FpOk X pins H' b:=fun hn b hb=>⟨hn b hb,(f2 b hb).2⟩
 refine codeAny_forLoop_any (fun n s'=>∃ i σ' H',Inv X pins σ' H' s'/\tn i s'.heap/\(∀ b∈fp,H' b=none)/\W i n σ' H') ?_ m0 ⟨0,σ,H2,I2,st2,fun b hb=>(f2 b hb).1,w0⟩
 rintro n s3 ⟨i,σ3,H3,I3,st3,fr3,w3⟩
 rcases turn i n σ3 H3 w3 with ⟨stop,qn⟩|⟨go,N,hN,step⟩
 ·refine wpAny_passesOwn hp (thn (T.done X rfl rfl rfl hc i pins s3 σ3 H3 X.xe I3 (stat fr3) st3 stop) fun r s4 ⟨hr,I4⟩=>?_)
  subst hr
  exact wpAny_execs_nil ⟨σ3,H3,I4,qn⟩
 ·refine wpAny_passesOwn hp (thn (T.item X rfl rfl rfl hc i pins s3 σ3 H3 X.xe I3 (stat fr3) st3 go) fun r s4 ⟨u,hr,h4⟩=>?_)
  subst hr
  refine wpAny_passesOwn hp (thn h4 fun _ s5 ⟨x,H5,I5,r5,y5,st5,fr5⟩=>?_)
  have I5':=I5.pinned (stat fr5) (T.obj _ _ st5)
  refine wpAny_passesOwn hp (thn (hg _ s5 σ3 H5 x u _ I5' r5 (step x H5 y5)) fun _ s6 ⟨σ6,H6,I6,q6⟩=>?_)
  refine wpAny_passesOwn hp (thn (hb _ s6 σ6 H6 _ I6 q6) fun f s7 q7=>?_)
  have again:∀ {σ7:St}{H7:Hp},Inv X (pins++zba4 fp s5.heap) σ7 H7 s7->N σ7 H7->∃ m,m<n/\∃ i σ' H',Inv X pins σ' H' s7/\tn i s7.heap/\(∀ b∈fp,H' b=none)/\W i m σ' H':=fun {σ7 H7} I7 n7=>by
   obtain⟨m',hm,w7⟩:=hN σ7 H7 n7
   refine⟨m',hm,i+1,σ7,H7,I7.unpinned,T.keep _ _ _ st5 fun b hb o e=>(I7.pin (b,o) (zdc1 _ (zdc1 _ (zz6 hb e)))).1,fun b hb=>?_,w7⟩
   obtain⟨o,e,d⟩:=T.obj _ _ st5 b hb
   exact (I7.pin (b,o) (zdc1 _ (zdc1 _ (zz6 hb e)))).2.1
  cases f with
  | next=>obtain⟨σ7,H7,I7,n7⟩:=q7;exact again I7 n7
  | cont=>obtain⟨σ7,H7,I7,n7⟩:=q7;exact again I7 n7
  | brk=>obtain⟨σ7,H7,I7,q7⟩:=q7;exact⟨σ7,H7,I7.unpinned,q7⟩
  | ret v=>obtain⟨x7,σ7,H7,I7,r7,q7⟩:=q7;exact⟨x7,σ7,H7,I7.unpinned,r7,q7⟩
end
theorem zcb9 {K:zcy1}{a:Addr}{xs:List V}{g:TG}{tb:TS}{D:Ends}{σ:St}{H:Hp}(Pv:Nat->St->Hp->Prop) (h0:Pv 0 σ H) (hl:∀ i σ H,i<=xs.length->Pv i σ H->SqL K H a xs)
  (hs:∀ i x σ H,xs[i]?=some x->Pv i σ H->g x σ H fun σ2 H2=>tb { D with nx:=Pv (i+1),ct:=Pv (i+1),bk:=D.nx } σ2 H2) (hd:∀ σ H,Pv xs.length σ H->D.nx σ H) :
  ∃ W:Nat->Nat->St->Hp->Prop,(∃ m,W 0 m σ H)/\∀ i m σ H,W i m σ H ->
   ((Itl K a).stop i H/\D.nx σ H)∨((Itl K a).go i H/\∃ N:St->Hp->Prop,(∀ σ' H',N σ' H'->∃ m',m'<m/\W (i+1) m' σ' H')/\∀ x H',(Itl K a).yld i H x H'->g x σ H' fun σ2 H2=>tb { D with nx:=N,ct:=N,bk:=D.nx } σ2 H2):=by
 refine⟨fun i m σ H=>m=xs.length - i/\i<=xs.length/\Pv i σ H,⟨xs.length,by simp,zda6 _,h0⟩,?_⟩
 rintro i m σ H ⟨rfl,hi,p⟩
 have q:=hl i σ H hi p
 by_cases hlt:i<xs.length
 ·refine .inr ⟨⟨xs,xs[i],q,by simp[hlt]⟩,Pv (i+1),fun σ' H' p'=>⟨xs.length - (i+1),by omega,rfl,hlt,p'⟩,fun x H' y=>?_⟩
  obtain⟨e,y⟩:=y
  subst e
  exact hs i x σ _ (y xs q) p
 ·have e:i=xs.length:=by omega
  subst e
  exact .inl ⟨⟨xs,q,zcz6 _⟩,hd σ H p⟩
theorem zcp8 {K:zcy1}{a:Addr}{xs:List V}{g:TG}{tb:TS}{D:Ends}{σ:St}{H:Hp}(Pv:Nat->St->Hp->Prop) (h0:Pv 0 σ H) (hl:∀ i σ H,i<=xs.length->Pv i σ H->SqT K H a xs)
  (hs:∀ i x σ H,xs[i]?=some x->Pv i σ H->g x σ H fun σ2 H2=>tb { D with nx:=Pv (i+1),ct:=Pv (i+1),bk:=D.nx } σ2 H2) (hd:∀ σ H,Pv xs.length σ H->D.nx σ H) :
  ∃ W:Nat->Nat->St->Hp->Prop,(∃ m,W 0 m σ H)/\∀ i m σ H,W i m σ H ->
   ((Itt K a).stop i H/\D.nx σ H)∨((Itt K a).go i H/\∃ N:St->Hp->Prop,(∀ σ' H',N σ' H'->∃ m',m'<m/\W (i+1) m' σ' H')/\∀ x H',(Itt K a).yld i H x H'->g x σ H' fun σ2 H2=>tb { D with nx:=N,ct:=N,bk:=D.nx } σ2 H2):=by
 refine⟨fun i m σ H=>m=xs.length - i/\i<=xs.length/\Pv i σ H,⟨xs.length,by simp,zda6 _,h0⟩,?_⟩
 rintro i m σ H ⟨rfl,hi,p⟩
 have q:=hl i σ H hi p
 by_cases hlt:i<xs.length
 ·refine .inr ⟨⟨xs,xs[i],q,by simp[hlt]⟩,Pv (i+1),fun σ' H' p'=>⟨xs.length - (i+1),by omega,rfl,hlt,p'⟩,fun x H' y=>?_⟩
  obtain⟨e,y⟩:=y
  subst e
  exact hs i x σ _ (y xs q) p
 ·have e:i=xs.length:=by omega
  subst e
  exact .inl ⟨⟨xs,q,zcz6 _⟩,hd σ H p⟩
theorem zbo7 {lo:Int}{n:Nat}{g:TG}{tb:TS}{D:Ends}{σ:St}{H:Hp}(Pv:Nat->St->Hp->Prop) (h0:Pv 0 σ H)
  (hs:∀ i σ H,i<n->Pv i σ H->g (.int (lo+i)) σ H fun σ2 H2=>tb { D with nx:=Pv (i+1),ct:=Pv (i+1),bk:=D.nx } σ2 H2) (hd:∀ σ H,Pv n σ H->D.nx σ H) :
  ∃ W:Nat->Nat->St->Hp->Prop,(∃ m,W 0 m σ H)/\∀ i m σ H,W i m σ H ->
   ((Itr lo n).stop i H/\D.nx σ H)∨((Itr lo n).go i H/\∃ N:St->Hp->Prop,(∀ σ' H',N σ' H'->∃ m',m'<m/\W (i+1) m' σ' H')/\∀ x H',(Itr lo n).yld i H x H'->g x σ H' fun σ2 H2=>tb { D with nx:=N,ct:=N,bk:=D.nx } σ2 H2):=by
 refine⟨fun i m σ H=>m=n - i/\i<=n/\Pv i σ H,⟨n,by simp,zda6 _,h0⟩,?_⟩
 rintro i m σ H ⟨rfl,hi,p⟩
 by_cases hlt:i<n
 ·refine .inr ⟨hlt,Pv (i+1),fun σ' H' p'=>⟨n - (i+1),by omega,rfl,hlt,p'⟩,fun x H' y=>?_⟩
  obtain⟨e,y⟩:=y
  subst e y
  exact hs i σ _ hlt p
 ·have e:i=n:=by omega
  subst e
  exact .inl ⟨zcz6 _,hd σ H p⟩
end L2
namespace L2
open PySem PySem.Spec PyProof.Rows
abbrev R2:=V->V->Hp->VK->Prop
def OpR (X:Cx) (f:Value->Value->Sem Value) (r:R2):Prop:=
 ∀ (pins:List (Addr×Obj)) (s:Shared) (σ:St) (H:Hp) (x y:V) (v u:Value) (Q:VK),Inv X pins σ H s->RelV x v->RelV y u->r x y H Q ->
  wpAny (model X.prog X.w) X.A (f v u) (EP X pins σ Q) X.xe s
def UnR (X:Cx) (f:Value->Sem Value) (r:V->Hp->VK->Prop):Prop:=
 ∀ (pins:List (Addr×Obj)) (s:Shared) (σ:St) (H:Hp) (x:V) (v:Value) (Q:VK),Inv X pins σ H s->RelV x v->r x H Q ->
  wpAny (model X.prog X.w) X.A (f v) (EP X pins σ Q) X.xe s
def zp4 (X:Cx) (f:Value) (r:List V->Hp->VK->Prop):Prop:=
 ∀ (pins:List (Addr×Obj)) (s:Shared) (σ:St) (H:Hp) (xs:List V) (us:List Value) (Q:VK),Inv X pins σ H s->Vals xs us->r xs H Q ->
  wpAny (model X.prog X.w) X.A (call f us) (EP X pins σ Q) X.xe s
def TruR (X:Cx) (r:V->Hp->(Bool->Hp->Prop)->Prop):Prop:=
 ∀ (pins:List (Addr×Obj)) (s:Shared) (σ:St) (H:Hp) (x:V) (v:Value) (Q:Bool->Hp->Prop),Inv X pins σ H s->RelV x v->r x H Q ->
  wpAny (model X.prog X.w) X.A (truthy v) (TP X pins σ Q) X.xe s
def tOp (r:R2) (ta tb:TE):TE:=fun σ H Q=>ta σ H fun x H1=>tb σ H1 fun y H2=>r x y H2 Q
def tUn (r:V->Hp->VK->Prop) (ta:TE):TE:=fun σ H Q=>ta σ H fun x H1=>r x H1 Q
def rI (C:Int->Int->Prop) (g:Int->Int->V):R2:=fun x y H Q=>∃ i j,x=.int i/\y=.int j/\C i j/\Q (g i j) H
def rI0 (g:Int->Int->V):R2:=fun x y H Q=>∃ i j,x=.int i/\y=.int j/\Q (g i j) H
def rU (g:Int->V):V->Hp->VK->Prop:=fun x H Q=>∃ i,x=.int i/\Q (g i) H
section
variable {X:Cx}{a b c:Expr}{ta tb tc:TE}{pos:Pos}
theorem binT (ha:PE X a ta) (hb:PE X b tb) {pins:List (Addr×Obj)}{s:Shared}{σ:St}{H:Hp}{R:V->V->Hp->Prop}(I:Inv X pins σ H s)
  (h:ta σ H fun x H1=>tb σ H1 fun y H2=>R x y H2) {Q:Value->Shared->Prop}{f:Value->Value->Sem Value}
  (hf:∀ v u s2 x y H2,Inv X pins σ H2 s2->RelV x v->RelV y u->R x y H2->wpAny (model X.prog X.w) X.A (f v u) Q X.xe s2) :
  wpAny (model X.prog X.w) X.A (eval a X.env) (fun v s₁=>wpAny (model X.prog X.w) X.A (eval b X.env) (fun u s₂=>wpAny (model X.prog X.w) X.A (f v u) Q X.xe s₂) X.xe s₁) X.xe s:=by
 refine thn (ha pins s σ H _ I h) fun v s1 ⟨x,H1,I1,r1,q1⟩=>?_
 refine thn (hb pins s1 σ H1 _ I1 q1) fun u s2 ⟨y,H2,I2,r2,q2⟩=>?_
 exact hf v u s2 x y H2 I2 r1 r2 q2
theorem zb4 {op:Operator}{r:R2}(ho:OpR X (binaryOp op) r) (ha:PE X a ta) (hb:PE X b tb):PE X (.BinOp a op b pos) (tOp r ta tb):=by
 intro pins s σ H Q I h
 exact wpAny_BinOp (binT ha hb I h fun v u s2 x y H2 I2 rx ry q=>ho pins s2 σ H2 x y v u Q I2 rx ry q)
theorem zbe0 {op:UnaryOp}{r:V->Hp->VK->Prop}(ho:UnR X (unaryOp op) r) (ha:PE X a ta):PE X (.UnaryOp op a pos) (tUn r ta):=by
 intro pins s σ H Q I h
 exact UnaryOp_ (thn (ha pins s σ H _ I h) fun v s1 ⟨x,H1,I1,r1,q1⟩=>ho pins s1 σ H1 x v Q I1 r1 q1)
theorem opI {f:Value->Value->Sem Value}{C:Int->Int->Prop}{g:Int->Int->Int}
  (rule:∀ (i j:Int) (t u:Tok) (s:Shared) (Q:Value->Shared->Prop) (E:Value->Shared->Prop),C i j->Q (.int (g i j) s.toks) { s with toks:=s.toks+1 }->wpAny (model X.prog X.w) X.A (f (.int i t) (.int j u)) Q E s) :
  OpR X f (rI C fun i j=>.int (g i j)):=by
 intro pins s σ H x y v u Q I rx ry h
 obtain⟨i,j,rfl,rfl,hc,q⟩:=h
 obtain⟨t,rfl⟩:=rx
 obtain⟨t',rfl⟩:=ry
 exact rule i j t t' s _ _ hc ⟨.int (g i j),H,I.tok _,⟨_,rfl⟩,q⟩
theorem opI0 {f:Value->Value->Sem Value}{g:Int->Int->Int}
  (rule:∀ (i j:Int) (t u:Tok) (s:Shared) (Q:Value->Shared->Prop) (E:Value->Shared->Prop),Q (.int (g i j) s.toks) { s with toks:=s.toks+1 }->wpAny (model X.prog X.w) X.A (f (.int i t) (.int j u)) Q E s) :
  OpR X f (rI0 fun i j=>.int (g i j)):=by
 intro pins s σ H x y v u Q I rx ry h
 obtain⟨i,j,rfl,rfl,q⟩:=h
 obtain⟨t,rfl⟩:=rx
 obtain⟨t',rfl⟩:=ry
 exact rule i j t t' s _ _ ⟨.int (g i j),H,I.tok _,⟨_,rfl⟩,q⟩
theorem opB0 {f:Value->Value->Sem Value}{g:Int->Int->Bool}
  (rule:∀ (i j:Int) (t u:Tok) (s:Shared) (Q:Value->Shared->Prop) (E:Value->Shared->Prop),Q (.bool (g i j)) s->wpAny (model X.prog X.w) X.A (f (.int i t) (.int j u)) Q E s) :
  OpR X f (rI0 fun i j=>.bl (g i j)):=by
 intro pins s σ H x y v u Q I rx ry h
 obtain⟨i,j,rfl,rfl,q⟩:=h
 obtain⟨t,rfl⟩:=rx
 obtain⟨t',rfl⟩:=ry
 exact rule i j t t' s _ _ ⟨.bl (g i j),H,I,rfl,q⟩
def CPow (i j:Int):Prop:=0<=j/\j<=1000000/\i.natAbs<2 ^ 64
def CMul (i j:Int):Prop:=(-(2 ^ 64)<i/\i<2 ^ 64)∨(-(2 ^ 64)<j/\j<2 ^ 64)
theorem CMul.ok {i j:Int}(h:CMul i j):IntMulOk i j:=by
 rcases h with ⟨h1,h2⟩|⟨h1,h2⟩
 ·exact .of_left (intBits_le_64 h1 h2)
 ·exact .of_right (intBits_le_64 h1 h2)
theorem op_add:OpR X (binaryOp .Add) (rI0 fun i j=>.int (i+j)):=opI0 fun _ _ _ _ _ _ _ q=>add_int q
theorem op_sub:OpR X (binaryOp .Sub) (rI0 fun i j=>.int (i - j)):=opI0 fun _ _ _ _ _ _ _ q=>sub_int q
theorem zcr7:OpR X (binaryOp .Mod) (rI (fun _ j=>j≠0) fun i j=>.int (i.fmod j)):=opI fun _ _ _ _ _ _ _ hc q=>mod_int' hc q
theorem op_pow:OpR X (binaryOp .Pow) (rI CPow fun i j=>.int (i ^ j.toNat)):=opI fun _ _ _ _ _ _ _ hc q=>pow_int_small hc.1 hc.2.1 hc.2.2 q
theorem zcp9:OpR X (inplaceOp .Add) (rI0 fun i j=>.int (i+j)):=opI0 fun _ _ _ _ _ _ _ q=>iadd_int q
theorem zcp7:OpR X (inplaceOp .Sub) (rI0 fun i j=>.int (i - j)):=opI0 fun _ _ _ _ _ _ _ q=>isub_int q
theorem unI {f:Value->Sem Value}{g:Int->Int}
  (rule:∀ (i:Int) (t:Tok) (s:Shared) (Q:Value->Shared->Prop) (E:Value->Shared->Prop),Q (.int (g i) s.toks) { s with toks:=s.toks+1 }->wpAny (model X.prog X.w) X.A (f (.int i t)) Q E s) :
  UnR X f (rU fun i=>.int (g i)):=by
 intro pins s σ H x v Q I rx h
 obtain⟨i,rfl,q⟩:=h
 obtain⟨t,rfl⟩:=rx
 exact rule i t s _ _ ⟨.int (g i),H,I.tok _,⟨_,rfl⟩,q⟩
theorem un_neg:UnR X (unaryOp .USub) (rU fun i=>.int (-i)):=unI fun _ _ _ _ _ q=>neg_int q
end
def scal:V->V->Bool
 | .non,.non=>true | .non,.int _=>true | .int _,.non=>true | .non,.bl _=>true | .bl _,.non=>true | .non,.str _=>true | .str _,.non=>true
 | .int _,.int _=>true | .bl _,.bl _=>true | .str _,.str _=>true | .byt _,.byt _=>true
 | .int _,.str _=>true | .str _,.int _=>true | .bl _,.str _=>true | .str _,.bl _=>true
 | _,_=>false
def rEq:R2:=fun x y H Q=>scal x y=true/\Q (.bl (decide (x=y))) H
def rNe:R2:=fun x y H Q=>scal x y=true/\Q (.bl (!decide (x=y))) H
theorem zca3 {i j:Int}:decide (V.int i=V.int j)=(i==j):=by
 rw[Bool.eq_iff_iff]
 simp
theorem zck8 {i j:Bool}:decide (V.bl i=V.bl j)=(i==j):=by
 rw[Bool.eq_iff_iff]
 simp
theorem zbw1 {i j:Str}:decide (V.str i=V.str j)=(i==j):=by
 rw[Bool.eq_iff_iff]
 simp
theorem zcb3 {i j:Array UInt8}:decide (V.byt i=V.byt j)=(i.toList==j.toList):=by
 rw[Bool.eq_iff_iff]
 cases i
 cases j
 simp
section
variable {X:Cx}{a b c:Expr}{ta tb tc:TE}{pos:Pos}
theorem ze9 {pins:List (Addr×Obj)}{σ:St}{H:Hp}{s:Shared}{Q:VK}{k k':Bool}(I:Inv X pins σ H s) (q:Q (.bl k) H) (e:k=k'):EP X pins σ Q (.bool k') s:=by
 subst e
 exact⟨.bl k,H,I,rfl,q⟩
theorem zbf5:OpR X (compareOp .Eq) rEq:=by
 intro pins s σ H x y v u Q I rx ry h
 obtain⟨hs,q⟩:=h
 cases x with
 | non=>
  cases rx
  cases y with
  | non=>cases ry;exact PySem.EqNone.eq_none_none (ze9 I q (by simp))
  | bl j=>cases ry;exact PySem.EqNone.eq_none_bool (ze9 I q (by simp))
  | int j=>obtain⟨t',rfl⟩:=ry;exact PySem.EqNone.eq_none_int (ze9 I q (by simp))
  | str j=>obtain⟨t',rfl⟩:=ry;exact PySem.EqNone.eq_none_str (ze9 I q (by simp))
  | _=>exact absurd (show false=true from hs) zcz0
 | bl i=>
  cases rx
  cases y with
  | non=>cases ry;exact PySem.EqNone.eq_bool_none (ze9 I q (by simp))
  | bl j=>cases ry;exact eq_bool (ze9 I q zck8)
  | str j=>obtain⟨t',rfl⟩:=ry;exact PySem.EqMixed.eq_bool_str (ze9 I q (by simp))
  | _=>exact absurd (show false=true from hs) zcz0
 | int i=>
  obtain⟨t,rfl⟩:=rx
  cases y with
  | non=>cases ry;exact PySem.EqNone.eq_int_none (ze9 I q (by simp))
  | int j=>obtain⟨t',rfl⟩:=ry;exact eq_int (ze9 I q zca3)
  | str j=>obtain⟨t',rfl⟩:=ry;exact PySem.EqMixed.eq_int_str (ze9 I q (by simp))
  | _=>exact absurd (show false=true from hs) zcz0
 | str i=>
  obtain⟨t,rfl⟩:=rx
  cases y with
  | non=>cases ry;exact PySem.EqNone.eq_str_none (ze9 I q (by simp))
  | bl j=>cases ry;exact PySem.EqMixed.eq_str_bool (ze9 I q (by simp))
  | int j=>obtain⟨t',rfl⟩:=ry;exact PySem.EqMixed.eq_str_int (ze9 I q (by simp))
  | str j=>obtain⟨t',rfl⟩:=ry;exact eq_str (ze9 I q zbw1)
  | _=>exact absurd (show false=true from hs) zcz0
 | byt i=>
  obtain⟨t,rfl⟩:=rx
  cases y with
  | byt j=>obtain⟨t',rfl⟩:=ry;exact PySem.W.eq_bytes (ze9 I q zcb3)
  | _=>exact absurd (show false=true from hs) zcz0
 | _=>cases y<;>exact absurd (show false=true from hs) zcz0
theorem zba6:OpR X (compareOp .NotEq) rNe:=by
 intro pins s σ H x y v u Q I rx ry h
 obtain⟨hs,q⟩:=h
 cases x with
 | non=>
  cases rx
  cases y with
  | non=>cases ry;exact PySem.EqNone.ne_none_none (ze9 I q (by simp))
  | bl j=>cases ry;exact PySem.EqNone.ne_none_bool (ze9 I q (by simp))
  | int j=>obtain⟨t',rfl⟩:=ry;exact PySem.EqNone.ne_none_int (ze9 I q (by simp))
  | str j=>obtain⟨t',rfl⟩:=ry;exact PySem.EqNone.ne_none_str (ze9 I q (by simp))
  | _=>exact absurd (show false=true from hs) zcz0
 | bl i=>
  cases rx
  cases y with
  | non=>cases ry;exact PySem.EqNone.ne_bool_none (ze9 I q (by simp))
  | bl j=>cases ry;exact ne_bool (ze9 I q (congrArg not zck8))
  | str j=>obtain⟨t',rfl⟩:=ry;exact PySem.EqMixed.ne_bool_str (ze9 I q (by simp))
  | _=>exact absurd (show false=true from hs) zcz0
 | int i=>
  obtain⟨t,rfl⟩:=rx
  cases y with
  | non=>cases ry;exact PySem.EqNone.ne_int_none (ze9 I q (by simp))
  | int j=>obtain⟨t',rfl⟩:=ry;exact ne_int (ze9 I q (congrArg not zca3))
  | str j=>obtain⟨t',rfl⟩:=ry;exact PySem.EqMixed.ne_int_str (ze9 I q (by simp))
  | _=>exact absurd (show false=true from hs) zcz0
 | str i=>
  obtain⟨t,rfl⟩:=rx
  cases y with
  | non=>cases ry;exact PySem.EqNone.ne_str_none (ze9 I q (by simp))
  | bl j=>cases ry;exact PySem.EqMixed.ne_str_bool (ze9 I q (by simp))
  | int j=>obtain⟨t',rfl⟩:=ry;exact PySem.EqMixed.ne_str_int (ze9 I q (by simp))
  | str j=>obtain⟨t',rfl⟩:=ry;exact ne_str (ze9 I q (congrArg not zbw1))
  | _=>exact absurd (show false=true from hs) zcz0
 | byt i=>
  obtain⟨t,rfl⟩:=rx
  cases y with
  | byt j=>obtain⟨t',rfl⟩:=ry;exact PySem.W.ne_bytes (ze9 I q (congrArg not zcb3))
  | _=>exact absurd (show false=true from hs) zcz0
 | _=>cases y<;>exact absurd (show false=true from hs) zcz0
theorem op_lt:OpR X (compareOp .Lt) (rI0 fun i j=>.bl (decide (i<j))):=opB0 fun _ _ _ _ _ _ _ q=>lt_int q
theorem op_le:OpR X (compareOp .LtE) (rI0 fun i j=>.bl (decide (i<=j))):=opB0 fun _ _ _ _ _ _ _ q=>le_int q
theorem op_gt:OpR X (compareOp .Gt) (rI0 fun i j=>.bl (decide (j<i))):=opB0 fun _ _ _ _ _ _ _ q=>gt_int q
theorem op_ge:OpR X (compareOp .GtE) (rI0 fun i j=>.bl (decide (j<=i))):=opB0 fun _ _ _ _ _ _ _ q=>ge_int q
theorem op_isN:OpR X (compareOp .Is) (fun x y H Q=>y=.non/\Q (.bl (decide (x=.non))) H):=by
 intro pins s σ H x y v u Q I rx ry h
 obtain⟨rfl,q⟩:=h
 cases ry
 refine is_none_gen (ze9 I q ?_)
 cases x<;>first
  | (cases rx;rfl)
  | (obtain⟨t,rfl⟩:=rx;rfl)
theorem zco1:OpR X (compareOp .IsNot) (fun x y H Q=>y=.non/\Q (.bl (!decide (x=.non))) H):=by
 intro pins s σ H x y v u Q I rx ry h
 obtain⟨rfl,q⟩:=h
 cases ry
 refine isnot_none_gen (ze9 I q ?_)
 cases x<;>first
  | (cases rx;rfl)
  | (obtain⟨t,rfl⟩:=rx;rfl)
theorem zcj9 (b:Expr) {op:CmpOp}(h:op≠.In:=by decide) (h2:op≠.NotIn:=by decide):behindInMarks op b=false:=by
 have e1:(op==CmpOp.In)=false:=by cases op<;>first|rfl|exact absurd rfl h
 have e2:(op==CmpOp.NotIn)=false:=by cases op<;>first|rfl|exact absurd rfl h2
 cases b<;>simp[behindInMarks,e1,e2]
theorem zcr0 {op:CmpOp}{r:R2}(ho:OpR X (compareOp op) r) (ha:PE X a ta) (hb:PE X b tb) (hm:behindInMarks op b=false):PE X (.Compare a [op] [b] pos) (tOp r ta tb):=by
 intro pins s σ H Q I h
 exact wpAny_Compare1 (binT ha hb I h fun v u s2 x y H2 I2 rx ry q=>ho pins s2 σ H2 x y v u Q I2 rx ry q) hm
def TruV (K:zcy1) (x:V) (H:Hp) (k:Bool):Prop:=
 match x with
 | .non=>k=false
 | .bl b=>k=b
 | .int i=>k=(i != 0)
 | .str y=>y.length<=sizeLine/\k=((y.length:Int) != 0)
 | .byt y=>y.size<=sizeLine/\k=((y.size:Int) != 0)
 | .ref p=>(∃ xs,SqL K H p xs/\k=!xs.isEmpty)∨(∃ xs,SqT K H p xs/\k=!xs.isEmpty)∨∃ kvs,H p=some (.dK kvs)/\k=!kvs.isEmpty
 | _=>False
theorem zbl9 {κ:Type}{kvs:List (κ×V)}{vs:List (κ×Value)}(r:KV kvs vs):(!vs.isEmpty)=!kvs.isEmpty:=by
 cases r<;>rfl
theorem zan2 {xs:List V}{its:List Value}(r:Vals xs its):(!its.toArray.isEmpty)=!xs.isEmpty:=by
 cases r<;>simp
theorem zao2:(sizeLine:Nat)<2 ^ 63:=by rw[sizeLine_eq];decide
theorem zbv7:TruR X (fun x H Q=>∃ k,TruV X.K x H k/\Q k H):=by
 intro pins s σ H x v Q I rx h
 obtain⟨k,e,q⟩:=h
 have hl:=zao2
 have hs:sizeLine=16777216:=sizeLine_eq
 cases x with
 | non=>
  cases rx
  have e':k=false:=e
  subst e'
  exact truthy_none ⟨H,I,q⟩
 | bl b=>
  cases rx
  have e':k=b:=e
  subst e'
  exact wpAny_truthy_bool ⟨H,I,q⟩
 | int i=>
  obtain⟨t,rfl⟩:=rx
  have e':k=(i != 0):=e
  subst e'
  exact PySem.P.truthy_int ⟨H,I,q⟩
 | str y=>
  obtain⟨t,rfl⟩:=rx
  obtain⟨hy,e'⟩:y.length<=sizeLine/\k=((y.length:Int) != 0):=e
  subst e'
  exact PySem.P.truthy_str (by omega) ⟨H,I.tok _,q⟩
 | byt y=>
  obtain⟨t,rfl⟩:=rx
  obtain⟨hy,e'⟩:y.size<=sizeLine/\k=((y.size:Int) != 0):=e
  subst e'
  exact PySem.W.truthy_bytes (by omega) ⟨H,I.tok _,q⟩
 | ref p=>
  cases rx
  have e':(∃ xs,SqL X.K H p xs/\k=!xs.isEmpty)∨(∃ xs,SqT X.K H p xs/\k=!xs.isEmpty)∨∃ kvs,H p=some (.dK kvs)/\k=!kvs.isEmpty:=e
  rcases e' with ⟨xs,hx,e'⟩|⟨xs,hx,e'⟩|⟨kvs,hx,e'⟩
  ·subst e'
   obtain⟨its,r,pl,hz⟩:=I.list hx
   have hlen:=r.length
   exact wpAny_truthy_list pl.isList (by simp only[zcy8];omega) ⟨H,I.tok _,by rw[zan2 r];exact q⟩
  ·subst e'
   obtain⟨its,r,pl,hz⟩:=I.tuple hx
   have hlen:=r.length
   exact truthy_tuple pl (by simp only[zcy8];omega) ⟨H,I.tok _,by rw[zan2 r];exact q⟩
  ·subst e'
   obtain⟨hz,hS,vs,r,m⟩:kvs.length<=sizeLine/\(p==sysModules)=false/\∃ vs,KV kvs vs/\s.heap.DictOf (zm7 X.prog X.w) p vs:=I.hok p _ hx
   have hlen:kvs.length=vs.length:=Paired.length r
   exact wpAny_truthy_dict hS m (by omega) ⟨H,I.tok _,by rw[zbl9 r];exact q⟩
 | _=>exact (show False from e).elim
theorem zbm2:OpR X (binaryOp .Add) (fun x y H Q=>∃ i j,x=.str i/\y=.str j/\i.length+j.length<=sizeLine/\Q (.str (i++j)) H):=by
 intro pins s σ H x y v u Q I rx ry h
 obtain⟨i,j,rfl,rfl,hz,q⟩:=h
 obtain⟨t,rfl⟩:=rx
 obtain⟨t',rfl⟩:=ry
 exact add_str (fun t' tk=>⟨.str (i++j),H,I.tok _,⟨_,rfl⟩,q⟩) hz
theorem zaa0 {x:V}{us:List Value}(r:Vals [x] us):∃ u,us=[u]/\RelV x u:=by
 cases r with
 | cons r1 r2=>cases r2;exact⟨_,rfl,r1⟩
theorem zbn2 {x y:V}{us:List Value}(r:Vals [x,y] us):∃ u w',us=[u,w']/\RelV x u/\RelV y w':=by
 cases r with
 | cons r1 r2=>
  cases r2 with
  | cons r3 r4=>cases r4;exact⟨_,_,rfl,r1,r3⟩
theorem zcg9:zp4 X (.builtin "abs") (fun xs H Q=>∃ i,xs=[.int i]/\Q (.int (if i<0 then -i else i)) H):=by
 intro pins s σ H xs us Q I r h
 obtain⟨i,rfl,q⟩:=h
 obtain⟨u,rfl,t,rfl⟩:=zaa0 r
 exact call_abs_int fun u tk=>⟨.int (if i<0 then -i else i),H,I.tok _,⟨_,rfl⟩,q⟩
theorem zcb2 (hc:X.calm=true):zp4 X (.builtin "max") (fun xs H Q=>∃ i j,xs=[.int i,.int j]/\Q (.int (if j>i then j else i)) H):=by
 intro pins s σ H xs us Q I r h
 obtain⟨i,j,rfl,q⟩:=h
 obtain⟨u,w',rfl,⟨t,rfl⟩,⟨t',rfl⟩⟩:=zbn2 r
 refine max_two_ints (I.ok.hd hc) fun h' tk k=>⟨_,H,I.kept k,?_,q⟩
 by_cases hj:j>i
 ·rw[if_pos hj,if_pos hj];exact⟨_,rfl⟩
 ·rw[if_neg hj,if_neg hj];exact⟨_,rfl⟩
theorem zby4 (hc:X.calm=true):zp4 X (.builtin "min") (fun xs H Q=>∃ i j,xs=[.int i,.int j]/\Q (.int (if j<i then j else i)) H):=by
 intro pins s σ H xs us Q I r h
 obtain⟨i,j,rfl,q⟩:=h
 obtain⟨u,w',rfl,⟨t,rfl⟩,⟨t',rfl⟩⟩:=zbn2 r
 refine min_two_ints (I.ok.hd hc) fun h' tk k=>⟨_,H,I.kept k,?_,q⟩
 by_cases hj:j<i
 ·rw[if_pos hj,if_pos hj];exact⟨_,rfl⟩
 ·rw[if_neg hj,if_neg hj];exact⟨_,rfl⟩
theorem zau4:zp4 X (.type "int") (fun xs H Q=>(∃ i,xs=[.int i]/\Q (.int i) H)∨∃ k,xs=[.bl k]/\Q (.int (if k then 1 else 0)) H):=by
 intro pins s σ H xs us Q I r h
 rcases h with ⟨i,rfl,q⟩|⟨k,rfl,q⟩
 ·obtain⟨u,rfl,t,rfl⟩:=zaa0 r
  exact call_int_int ⟨.int i,H,I,⟨_,rfl⟩,q⟩
 ·obtain⟨u,rfl,r1⟩:=zaa0 r
  cases r1
  exact call_int_bool ⟨.int (if k then 1 else 0),H,I.tok _,⟨_,rfl⟩,q⟩
end
end L2
namespace L2
open PySem PySem.Spec PyProof.Rows
structure ObjM (h:Heap) (x dx C:Addr) (mA:Str->Option Value):Prop where
 obj:h.get? x=some (PySem.W.instObj C dx)
 ns:h.Ns1 dx mA
 ne:dx≠x
theorem zbp3 {h:Heap}{dx:Addr}{mA:Str->Option Value}(n:h.Ns1 dx mA):∃ od,h.get? dx=some od/\∀ name,PySem.W.lookIn name od=some (mA name):=by
 obtain⟨o,es,ep,ho,hd,hk,_,hm⟩:=n
 refine⟨o,ho,fun name=>?_⟩
 have e:=hm name
 unfold nsFind findBy at e
 rw[← Array.find?_toList] at e
 unfold PySem.W.lookIn
 rw[hd]
 dsimp only
 split
 ·rename_i y q
  rw[q] at e
  exact congrArg some e
 ·rename_i q
  rw[q] at e
  have a:es.toList.any (·.refKey)=false:=by
   rw[List.any_eq_false]
   intro y hy
   obtain⟨z,t,hkey⟩:=hk y (Array.mem_toList_iff.mp hy)
   simp[DictEntry.refKey,hkey]
  have a':¬ es.toList.any (·.refKey)=true:=by rw[a];exact zcz0
  rw[if_neg a']
  exact congrArg some e
theorem ObjM.look {h:Heap}{x dx C:Addr}{mA:Str->Option Value}(I:ObjM h x dx C mA):∃ od,PySem.W.InstAt h x (PySem.W.instObj C dx) C (some od)/\∀ name,PySem.W.lookIn name od=some (mA name):=
 let ⟨od,ho,hl⟩:=zbp3 I.ns
 ⟨od,⟨I.obj,rfl,rfl,ho⟩,hl⟩
section
variable {prog:Program}{w:World}{A:Around}{E:Value->Shared->Prop}{s:Shared}{K:zcy1}{x dx C f:Addr}{mA:Str->Option Value}{name:Str}{v:Value}
end
theorem RelO.some_of {v:V}{o:Option Value}(r:RelO (some v) o):∃ u,o=some u/\RelV v u:=by
 cases o with
 | none=>exact (show False from r).elim
 | some u=>exact⟨u,rfl,r⟩
section
variable {P:Program}{w:World}{H H':Hp}{h h':Heap}{a C dx:Addr}{fs fs':List (Str×V)}
theorem zbs4 (hok:HOk P w H h) (e:H a=some (.ins C dx fs)):∃ mA,ObjM h a dx C mA/\(∀ f,RelO (fs.lookup f) (mA f))/\PySem.Within mA (fs.map (·.1))/\fs.length<=1000/\H dx=some (.own a):=by
 obtain⟨d,z,ne,ob,mA,n,r,q⟩:=(show zg6 P w H h a (.ins C dx fs) from hok a _ e)
 exact⟨mA,⟨ob,n,ne⟩,r,q,z,d⟩
end
structure Cls (K:zcy1) (C:Addr):Prop where
 pg:PySem.W.plainGet K C Str.empty=true
 hd:PySem.W.hasDictIn K C=true
 po:PySem.W.plainOver K C=true
 sa:PySem.W.findIn K (.ref C) "__setattr__"=some (some (.builtin "object.__setattr__"))
theorem Cls.get {K:zcy1}{C:Addr}(c:Cls K C) (f:Str):PySem.W.plainGet K C f=true:=c.pg
section
variable {X:Cx}{pins:List (Addr×Obj)}{σ:St}{H:Hp}{s:Shared}{a C dx:Addr}{fs:List (Str×V)}{f:Str}{v:V}{A:Around}{E:Value->Shared->Prop}
end
section
variable {X:Cx}{o e value:Expr}{f:Str}{pos pos' tpos:Pos}{ta tv:TE}
end
section
variable {X:Cx}{pins:List (Addr×Obj)}{σ:St}{H:Hp}{s:Shared}{A:Around}{E:Value->Shared->Prop}{Q:Value->Shared->Prop}{c:Value}{b:Bool}
inductive TyOf (K:zcy1) (H:Hp):V->Value->Prop where
 | non:TyOf K H .non (.type "NoneType")
 | bl (x:Bool):TyOf K H (.bl x) (.type "bool")
 | int (i:Int):TyOf K H (.int i) (.type "int")
 | str (x:Str):TyOf K H (.str x) (.type "str")
 | flt (x:UInt64):TyOf K H (.flt x) (.type "float")
 | lst {a:Addr}{xs:List V}(e:H a=some (.lst xs)):TyOf K H (.ref a) (.type "list")
 | frz {a:Addr}{o:Obj}{xs:List V}(e:H a=some (.frz o (.lst xs))):TyOf K H (.ref a) (.type "list")
 | tup {a:Addr}{xs:List V}(e:H a=some (.tup xs)):TyOf K H (.ref a) (.type "tuple")
 | dK {a:Addr}{kvs:List (Key×V)}(e:H a=some (.dK kvs)):TyOf K H (.ref a) (.type "dict")
 | dT {a:Addr}{kvs:List (List Key×V)}(e:H a=some (.dT kvs)):TyOf K H (.ref a) (.type "dict")
 | ins {a C dx:Addr}{fs:List (Str×V)}(e:H a=some (.ins C dx fs)) (cl:Cls K C) (ha:PySem.W.findIn K (.ref C) "__class__"=some (some (.builtin "object.__class__")))
   (hn:PySem.W.specialIn K (.builtin "object.__class__") "__get__"=some (some (.builtin "getset_descriptor.__get__"))) (htk:PySem.W.takesIn K (.builtin "object.__class__")=some true)
   (hm:PySem.W.mroIn K C (.type "object")=some true):TyOf K H (.ref a) (.ref C)
theorem zbr9 {x:V}{u t:Value}(I:Inv X pins σ H s) (rx:RelV x u) (ty:TyOf X.K H x t) (e:zde7 X.K t c=some b) (h:∀ tk,Q (.bool b) { s with toks:=tk }) :
  wpAny (model X.prog X.w) A (call (.builtin "isinstance") [u,c]) Q E s:=by
 cases ty with
 | non=>cases (show u=Value.none from rx);exact zdd3 PySem.W.kitx_none I.kIn True.intro e (fun z=>nomatch z) h
 | bl y=>cases (show u=Value.bool y from rx);exact zdd3 PySem.W.kitx_bool I.kIn True.intro e (fun z=>nomatch z) h
 | int i=>obtain⟨t,q⟩:=(show ∃ t,u=Value.int i t from rx);cases q;exact zdd3 PySem.W.kitx_int I.kIn True.intro e (fun z=>nomatch z) h
 | str y=>obtain⟨t,q⟩:=(show ∃ t,u=Value.str y t from rx);cases q;exact zdd3 PySem.W.kitx_str I.kIn True.intro e (fun z=>nomatch z) h
 | flt y=>obtain⟨t,q⟩:=(show ∃ t,u=Value.float y t from rx);cases q;exact zdd3 PySem.W.kitx_float I.kIn True.intro e (fun z=>nomatch z) h
 | @lst a xs ea=>
  cases (show u=Value.ref a from rx)
  obtain⟨_,_,n,_,h1⟩:=(show zg6 X.prog X.w H s.heap a (.lst xs) from I.hok a _ ea)
  exact zdd3 PySem.W.kitx_list I.kIn ⟨_,h1,rfl⟩ e (fun z=>nomatch z) h
 | @frz a ob xs ea=>
  cases (show u=Value.ref a from rx)
  obtain⟨_,_,_,n,_,h1⟩:=(show zg6 X.prog X.w H s.heap a (.frz ob (.lst xs)) from I.hok a _ ea)
  exact zdd3 PySem.W.kitx_list I.kIn ⟨_,h1,rfl⟩ e (fun z=>nomatch z) h
 | @tup a xs ea=>
  cases (show u=Value.ref a from rx)
  obtain⟨_,_,_,p⟩:=(show zg6 X.prog X.w H s.heap a (.tup xs) from I.hok a _ ea)
  obtain⟨o,h1,h2,_⟩:=p
  exact zdd3 PySem.W.kitx_tuple I.kIn ⟨o,h1,h2⟩ e (fun z=>nomatch z) h
 | @dK a kvs ea=>
  cases (show u=Value.ref a from rx)
  obtain⟨_,_,vs,_,p⟩:=(show zg6 X.prog X.w H s.heap a (.dK kvs) from I.hok a _ ea)
  obtain⟨o,es,ep,h1,h2,_⟩:=p
  exact zdd3 PySem.W.kitx_dict I.kIn ⟨o,h1,h2.1⟩ e (fun z=>nomatch z) h
 | @dT a kvs ea=>
  cases (show u=Value.ref a from rx)
  obtain⟨_,_,xs,_,o,es,ep,h1,h2,_⟩:=(show zg6 X.prog X.w H s.heap a (.dT kvs) from I.hok a _ ea)
  exact zdd3 PySem.W.kitx_dict I.kIn ⟨o,h1,h2.1⟩ e (fun z=>nomatch z) h
 | @ins a C dx fs ea cl ha hn htk hm=>
  cases (show u=Value.ref a from rx)
  obtain⟨mA,O,_⟩:=zbs4 I.hok ea
  obtain⟨od,J,_⟩:=O.look
  exact zdd3 (PySem.W.kitx_own (cl.get _) cl.hd ha hn htk hm) I.kIn J e (fun z=>nomatch z) h
end
end L2
namespace L2
open PySem PySem.Spec PyProof.Rows
structure Room (k:Nat) (A:Around):Prop where
 hd:A.handled=none
 dp:A.depth+3*k+5<recursionLimit
 un:A.units+16*k+200<cLine
 gd:A.guards=some []
theorem Room.mono {j k:Nat}{A:Around}(r:Room k A) (h:j<=k):Room j A:=⟨r.hd,by have:=r.dp;omega,by have:=r.un;omega,r.gd⟩
theorem Room.deeper {k:Nat}{A:Around}(r:Room (k+1) A) (env:Env):Room k (A.deeper env):=
 ⟨r.hd,by have:=r.dp;show A.depth+1+3*k+5<_;omega,by have:=r.un;show A.units+3+16*k+200<_;omega,r.gd⟩
theorem Room.depth {k:Nat}{A:Around}(r:Room k A):A.depth<recursionLimit:=by have:=r.dp;omega
theorem Room.units {k:Nat}{A:Around}(r:Room k A):A.units+64<cLine:=by have:=r.un;omega
def tNil:TA:=fun _ H Q=>Q [] H
def tCons (ta:TE) (tr:TA):TA:=fun σ H Q=>ta σ H fun x H1=>tr σ H1 fun xs H2=>Q (x :: xs) H2
section
variable {X:Cx}{e:Expr}{es:List Expr}{te:TE}{t:TA}{pos:Pos}
theorem za1:PA X [] tNil:=fun _ _ _ _ H Q I h=>Calls.spliced_nil ⟨[],H,I,.nil,h⟩
theorem za0 (ha:PE X e te) (hr:PA X es t) (hs:starEach (e :: es) X.env=(false,eval e X.env) :: starEach es X.env:=by rfl):PA X (e :: es) (tCons te t):=by
 intro pos pins s σ H Q I h
 rw[hs]
 show wpAny _ _ (spliced ((false,eval e X.env) :: backTo pos (starEach es X.env))) _ _ s
 refine Calls.spliced_cons (thn (ha pins s σ H _ I h) fun u s1 ⟨x,H1,I1,r1,q1⟩=>?_)
 exact thn (hr pos pins s1 σ H1 _ I1 q1) fun us s2 ⟨xs,H2,I2,r2,q2⟩=>⟨x :: xs,H2,I2,.cons r1 r2,q2⟩
end
abbrev Sp:=List V->Hp->VK->XK->Prop
abbrev CXT:=List Env->Hp->Shared->XK->Value->Shared->Prop
structure Env0 (P:Program) (w:World) (K:zcy1) (mg:Str->Option Value) (base:Heap) (A:Around) (outer:List Env) (s:Shared) (H:Hp):Prop where
 frames:A.frames=some outer
 mod:Mod K mg base
 bs:∀ b o,base.get? b=some o->s.heap.get? b=some o/\H b=none
 bsz:base.objs.size<=s.heap.objs.size
 funs:s.heap.FunFrames base outer
 frf:∀ b∈frs outer,H b=none
 hok:HOk P w H s.heap
 bare:AllBare s.gens
def CE (outer:List Env) (P:Program) (w:World) (H:Hp) (s:Shared) (Q:VK) (u:Value) (s':Shared):Prop:=
 ∃ v H',s'.os=s.os/\AllBare s'.gens/\Un (frs outer) [] H H' s.heap s'.heap/\HOk P w H' s'.heap/\RelV v u/\Q v H'
def CR (CX:CXT) (outer:List Env) (P:Program) (w:World) (H:Hp) (s:Shared) (Q:VK) (E:XK) (r:Result) (s':Shared):Prop:=
 match r with
 | .ok (.ret u)=>CE outer P w H s Q u s'
 | .ok _=>False
 | .error e=>CX outer H s E e s'
structure FnOk (P:Program) (w:World) (K:zcy1) (mg:Str->Option Value) (base:Heap) (CX:CXT) (k:Nat) (f:Addr) (fd:FuncData) (ps:List Str) (sp:Sp):Prop where
 len:∀ vs H Q E,sp vs H Q E->vs.length=ps.length
 run:∀ (A:Around) (outer:List Env) (s:Shared) (H:Hp) (args:Args) (us:List Value) (vs:List V) (Q:VK) (E:XK),Room k A->Env0 P w K mg base A outer s H->BindsTo s fd args (ps.zip us)->Vals vs us->sp vs H Q E ->
  codeAny (model P w) A (.call (.ref f) args) (CR CX outer P w H s Q E) s
section
variable {X:Cx}{pins:List (Addr×Obj)}{σ:St}{H:Hp}{s s':Shared}
theorem Inv.env0 (I:Inv X pins σ H s):Env0 X.prog X.w X.K X.mg X.base X.A X.stack s H:=
 ⟨I.ok.frames,I.ok.mod,I.bs,zdb4 I.ok.bsz I.sz,I.stack,I.stkFree,I.hok,I.bare⟩
theorem Inv.after {Q:VK}{u:Value}(I:Inv X pins σ H s) (h:CE X.stack X.prog X.w H s Q u s'):EP X pins σ Q u s':=by
 obtain⟨v,H',os,bare,un,hok,r,q⟩:=h
 obtain⟨hh,g,d,t,os'⟩:=s'
 obtain rfl:os'=s.os:=os
 exact⟨v,H',I.call (h':=hh) (g':=g) (d':=d) (t':=t) (ch:=[]) un hok bare (fun b z=>absurd z (by simp)),r,q⟩
end
def tCall (sp:Sp) (dvs:List V) (E:XK) (t:TA):TE:=fun σ H Q=>t σ H fun vs H1=>sp (vs++dvs) H1 Q E
def zam6 (K:zcy1) (fd:FuncData) (ps:List Str) (ds:List Value):Prop:=
 ∀ (s:Shared) (us:List Value),K.In s.heap->(us++ds).length=ps.length->BindsTo s fd ⟨us,[]⟩ (ps.zip (us++ds))
theorem zam6.all {K:zcy1}{fd:FuncData}{ps:List Str}(h:∀ us:List Value,us.length=ps.length->bindArgs fd ⟨us,[]⟩=pure (ps.zip us)):zam6 K fd ps []:=fun s us _ hl=>by
 rw[List.append_nil] at hl ⊢
 exact .of_eq (h us hl)
def zbi8 (CX:CXT) (X:Cx) (E:XK):Prop:=∀ (pins:List (Addr×Obj)) (σ:St) (H:Hp) (s:Shared) (e:Value) (s':Shared),Inv X pins σ H s->CX X.stack H s E e s'->X.xe e s'
section
variable {X:Cx}{CX:CXT}{k:Nat}{f C:Addr}{fd:FuncData}{ps:List Str}{sp:Sp}{dvs:List V}{ds:List Value}{E:XK}{x m:Str}{p pos apos:Pos}{e o:Expr}{es:List Expr}{ta:TE}{t:TA}
theorem run_fn {pins:List (Addr×Obj)}{σ:St}{H:Hp}{s:Shared}{Q:VK}{us:List Value}{vs:List V}(F:FnOk X.prog X.w X.K X.mg X.base CX k f fd ps sp) (hr:Room k X.A) (hb:zam6 X.K fd ps ds) (hd:Vals dvs ds) (hx:zbi8 CX X E)
  (I:Inv X pins σ H s) (r:Vals vs us) (h:sp (vs++dvs) H Q E):wpAny (model X.prog X.w) X.A (call (.ref f) us) (EP X pins σ Q) X.xe s:=by
 have r2:Vals (vs++dvs) (us++ds):=r.append hd
 have hl:(us++ds).length=ps.length:=by rw[← r2.length];exact F.len _ _ _ _ h
 refine wpAny_call (codeAny_mono (F.run X.A X.stack s H ⟨us,[]⟩ (us++ds) (vs++dvs) Q E hr I.env0 (hb s us I.kIn hl) r2 h) fun r s' hq=>?_)
 cases r with
 | error e=>exact hx pins σ H s e s' I hq
 | ok fl=>
  cases fl with
  | ret u=>exact I.after hq
  | next=>exact False.elim hq
  | brk=>exact False.elim hq
  | cont=>exact False.elim hq
theorem zcl7 (F:FnOk X.prog X.w X.K X.mg X.base CX k f fd ps sp) (hr:Room k X.A) (hg:Gl X x) (hm:X.mg x=some (.ref f)) (hk:zcy9 X.K (.ref f)=true) (hb:zam6 X.K fd ps ds) (hd:Vals dvs ds) (hx:zbi8 CX X E)
  (ha:PA X (e :: es) t) (hdb:(x==("__debug__":Str))=false:=by decide) (he:starEach (e :: es) X.env=(false,eval e X.env) :: starEach es X.env:=by rfl) (hpl:(backTo pos (starEach es X.env)).any (·.1)=false:=by rfl) :
  PE X (.Call (.Name x p) (e :: es) [] pos) (tCall sp dvs E t):=by
 intro pins s σ H Q I h
 refine wpAny_Call_Name_kw (zbt9 I hg hm ?_ hdb)
 refine PySem.W.callWith_K (h₀:=X.base) I.ok.mod.kin hk (thn (ha pos pins s σ H _ I h) fun us s1 ⟨vs,H1,I1,r,q⟩=>⟨I1.kIn,?_⟩) he hpl
 exact run_fn F hr hb hd hx I1 r q
end
section
variable {X:Cx}{CX:CXT}{k:Nat}{f C:Addr}{fd:FuncData}{ps ks:List Str}{sp:Sp}{E:XK}{x m:Str}{p pos apos kpos:Pos}{e o:Expr}{es:List Expr}{kws:List Keyword}{te ta:TE}{t tk:TA}{nm:Option Str}
variable {g:List Value->List Value->List Value}{gV:List V->List V->List V}
end
structure zb3 (N P:List Str) (sc:Scope):Prop where
 kind:sc.kind=.function
 co:sc.isCoroutine=false
 gen:sc.isGenerator=false
 nd:N.Nodup
 pre:N.take P.length=P
 par:∀ x∈P,sc.names.lookup x=some .local∨sc.names.lookup x=some .cell
 nofree:∀ y∈sc.names,y.2≠.free
theorem zax5 {kindOf:Str->Option NameKind}{x:Str}:∀ {binds:List (Str×Value)}{m:Str->Option Value},(∀ v,(x,v) ∉ binds)->bindL kindOf binds m x=m x
 | [],_,_=>rfl
 | (n,v) :: r,m,h=>by
  unfold bindL
  rw[zax5 fun w hw=>h w (zdb8 _ hw)]
  split
  ·have:x≠n:=by rintro rfl;exact h v zdc5
   simp[this]
  ·rfl
theorem zau6 {kindOf:Str->Option NameKind}{x:Str}:∀ {binds:List (Str×Value)}{m:Str->Option Value},(∀ v,(x,v) ∉ binds)->bindC kindOf binds m x=m x
 | [],_,_=>rfl
 | (n,v) :: r,m,h=>by
  unfold bindC
  rw[zau6 fun w hw=>h w (zdb8 _ hw)]
  split
  ·rfl
  ·have:x≠n:=by rintro rfl;exact h v zdc5
   simp[this]
theorem zay2 {kindOf:Str->Option NameKind}{x:Str}{v:Value}:∀ {P:List Str}{vs:List Value}{i:Nat}{m:Str->Option Value},P.Nodup->P[i]?=some x->vs[i]?=some v->kindOf x=some .local ->
  bindL kindOf (P.zip vs) m x=some v
 | [],_,_,_,_,h,_,_=>by simp at h
 | _ :: _,[],_,_,_,_,h,_=>by simp at h
 | p :: P,w :: vs,0,m,nd,h1,h2,hk=>by
  simp at h1 h2;subst h1;subst h2
  show bindL kindOf ((p,w) :: P.zip vs) m p=_
  unfold bindL
  rw[zax5 fun v hv=>(zdd9.mp nd).1 (List.of_mem_zip hv).1,if_pos hk]
  simp
 | p :: P,w :: vs,i+1,m,nd,h1,h2,hk=>by
  show bindL kindOf ((p,w) :: P.zip vs) m x=_
  unfold bindL
  exact zay2 (i:=i) (zdd9.mp nd).2 (by simpa using h1) (by simpa using h2) hk
theorem zaz8 {kindOf:Str->Option NameKind}{x:Str}{v:Value}:∀ {P:List Str}{vs:List Value}{i:Nat}{m:Str->Option Value},P.Nodup->P[i]?=some x->vs[i]?=some v->kindOf x≠some .local ->
  bindC kindOf (P.zip vs) m x=some v
 | [],_,_,_,_,h,_,_=>by simp at h
 | _ :: _,[],_,_,_,_,h,_=>by simp at h
 | p :: P,w :: vs,0,m,nd,h1,h2,hk=>by
  simp at h1 h2;subst h1;subst h2
  show bindC kindOf ((p,w) :: P.zip vs) m p=_
  unfold bindC
  rw[zau6 fun v hv=>(zdd9.mp nd).1 (List.of_mem_zip hv).1,if_neg hk]
  simp
 | p :: P,w :: vs,i+1,m,nd,h1,h2,hk=>by
  show bindC kindOf ((p,w) :: P.zip vs) m x=_
  unfold bindC
  exact zaz8 (i:=i) (zdd9.mp nd).2 (by simpa using h1) (by simpa using h2) hk
def zaw0 (N:List Str) (vs:List V):St:=vs.map some++List.replicate (N.length - vs.length) none
def cxOf (CX:CXT) (P:Program) (w:World) (K:zcy1) (mg:Str->Option Value) (base:Heap) (N:List Str) (qual:Str) (scope:Scope) (f:Addr) (cd:Value) (A:Around) (outer:List Env) (s:Shared) (H:Hp) (E:XK):Cx where
 prog:=P
 w:=w
 K:=K
 mg:=mg
 base:=base
 A:=A.deeper (envOfC qual scope s.heap.objs.size f cd)
 N:=N
 s₀:=s
 H₀:=H
 env:=envOfC qual scope s.heap.objs.size f cd
 outer:=outer
 stack:=envOfC qual scope s.heap.objs.size f cd :: outer
 ex:=[]
 calm:=true
 fn:=fun _=>true
 pn:=[]
 xe:=fun e s'=>wpAny (model P w) (A.deeper (envOfC qual scope s.heap.objs.size f cd)) (leaving (envOfC qual scope s.heap.objs.size f cd) e) (fun _ s''=>CX outer H s E e s'') (fun e' s''=>CX outer H s E e' s'') s'
theorem zbi3 {sc:Scope}{n:Nat}{x:Str}(h:sc.names.lookup x=some .cell):∃ c,(cellsFrom n sc.names []).lookup x=some c:=by
 have q:=PySem.W.cellsFrom_some sc.names n [] (.inl h)
 exact Option.isSome_iff_exists.mp q
theorem zca2 {CX:CXT}{P:Program}{w:World}{K:zcy1}{mg:Str->Option Value}{base:Heap}{N ps:List Str}{qual:Str}{scope:Scope}{f:Addr}{cd:Value}{A:Around}{outer:List Env}{s s1:Shared}{H:Hp}{E:XK}{us:List Value}{vs:List V}
  (S:zb3 N ps scope) (hd:A.handled=none) (e0:Env0 P w K mg base A outer s H) (hl:vs.length=ps.length) (r:Vals vs us)
  (x:InCallC s s.heap.objs.size (bindL (envOfC qual scope s.heap.objs.size f cd).kindOf (ps.zip us) fun _=>none) (cellsFrom (s.heap.objs.size+1) scope.names []) (bindC (envOfC qual scope s.heap.objs.size f cd).kindOf (ps.zip us) fun _=>none) s1) :
  Inv (cxOf CX P w K mg base N qual scope f cd A outer s H E) [] (zaw0 N vs) H s1:=by
 have hpl:ps.length<=N.length:=by have:=congrArg List.length S.pre;rw[zdf4] at this;omega
 obtain⟨h1,tk,rfl,hk⟩:=x.done
 have noA:∀ b:Addr,b ∉ (cxOf CX P w K mg base N qual scope f cd A outer s H E).ex:=fun b z=>absurd (show b∈([]:List Addr) from z) (by simp)
 refine⟨⟨e0.mod,S.kind,rfl,rfl,zcz6 _,fun y z c h1 h2=>?_,fun y hy=>?_,fun y c _ h=>?_,fun _=>hd,Around.frames_deeper e0.frames,.inr ⟨rfl,rfl⟩,fun b z=>absurd z (noA b),e0.bs,e0.bsz,fun b _ _=>noA b,fun b z=>absurd z (noA b),e0.funs,e0.frf⟩,
  rfl,e0.bare,Un.kept hk,⟨_,x.toInCall.ns,fun i y v h1 h2 h3=>?_⟩,fun y c h=>⟨_,x.cell y c h⟩,e0.hok.fresh (zcz6 _),fun y c h=>?_,fun p hp=>absurd (show p∈([]:List (Addr×Obj)) from hp) (by simp),e0.hok.kept hk,?_⟩
 ·exact name_of_addr x.apart (PySem.mem_of_lookup h1) (PySem.mem_of_lookup h2)
 ·have hy:scope.names.lookup y=some .cell∨scope.names.lookup y=some .free:=hy
  rcases hy with hy|hy
  ·exact zbi3 hy
  ·exact absurd rfl (S.nofree _ (PySem.mem_of_lookup hy))
 ·exact Nat.le_of_lt (x.above y c (PySem.mem_of_lookup h))
 ·have hi:i<vs.length:=by
   unfold zaw0 at h2
   by_cases hi:i<vs.length
   ·exact hi
   ·rw[zdc6 (by simpa using hi)] at h2
    rw[List.getElem?_replicate] at h2
    split at h2<;>cases h2
  have ha:vs[i]?=some v:=by
   unfold zaw0 at h2
   rw[zdc3 (by simpa using hi),zcy2] at h2
   cases e:vs[i]? with
   | none=>rw[e] at h2;cases h2
   | some a=>rw[e] at h2;cases h2;rfl
  obtain⟨u,hu,rv⟩:=r.get ha
  have hp:ps[i]?=some y:=by
   rw[← S.pre,List.getElem?_take_of_lt (by omega)];exact h1
  have ndP:ps.Nodup:=by rw[← S.pre];exact S.nd.sublist (List.take_sublist _ _)
  refine⟨u,rv,?_⟩
  rcases S.par y (zcy7 hp) with k|k
  ·exact .inl ⟨k,zay2 ndP hp hu k⟩
  ·obtain⟨c,e⟩:=zbi3 (n:=s.heap.objs.size+1) k
   refine .inr ⟨.inl k,c,e,?_⟩
   have q:=x.cell y c e
   rw[zaz8 ndP hp hu (by show scope.names.lookup y≠_;rw[k];decide)] at q
   exact q
 ·exact e0.hok.fresh (Nat.le_of_lt (x.above y c (PySem.mem_of_lookup h)))
 ·unfold zaw0
  show _=N.length
  rw[zcz8,zcy0,List.length_replicate]
  omega
theorem fn_of {CX:CXT}{P:Program}{w:World}{K:zcy1}{mg:Str->Option Value}{base:Heap}{k:Nat}{f:Addr}{name qual:Str}{params:Arguments}{body:List Stmt}{scope:Scope}{dV kV doc pm cdv ct oc:Value}{an od:Option Addr}
  {osl:Array (Option Value)}{N ps:List Str}{sp:Sp}(lk:K.lookup f=some ⟨oc,od,.func (zcz4 name qual params body scope dV kV doc pm an cdv ct),osl⟩) (hcd:zcz1 K cdv qual=true) (S:zb3 N ps scope)
  (len:∀ vs H Q E,sp vs H Q E->vs.length=ps.length)
  (hbody:∀ (A:Around) (outer:List Env) (s:Shared) (H:Hp) (vs:List V) (Q:VK) (E:XK),Room k (A.deeper (envOfC qual scope s.heap.objs.size f cdv))->sp vs H Q E ->
   ∃ t,PSs (cxOf CX P w K mg base N qual scope f cdv A outer s H E) body t/\t { nx:=fun _ H'=>Q .non H',rt:=Q } (zaw0 N vs) H) :
  FnOk P w K mg base CX (k+1) f (zcz4 name qual params body scope dV kV doc pm an cdv ct) ps sp:=by
 refine⟨len,fun A outer s H args us vs Q E hr e0 hb r hsp=>?_⟩
 have hl:=len _ _ _ _ hsp
 have KX:K.In s.heap:=e0.mod.kin.keeps fun b o e=>(e0.bs b o e).1
 have lim:s.heap.NoLimit:=e0.mod.nolimit.keeps fun b o e=>(e0.bs b o e).1
 have hkind:∀ y∈ps.zip us,scope.names.lookup y.1=some .local∨(scope.names.lookup y.1=some .cell/\((cellsFrom (s.heap.objs.size+1) scope.names []).lookup y.1).isSome=true):=fun ⟨n,v⟩ hy=>by
  rcases S.par n (List.of_mem_zip hy).1 with q|q
  ·exact .inl q
  ·exact .inr ⟨q,PySem.W.cellsFrom_some _ _ _ (.inl q)⟩
 refine codeAny_call_function hr.depth (KX _ _ lk) rfl S.co S.gen rfl (PySem.W.codeRec_of KX hcd) (hb _ _ _ _ ?_)
 refine wpAny_newFunctionEnv_cells S.kind hkind fun env he s1 x=>?_
 subst he
 refine⟨lim.keeps x.toInCall.keep,codeAny_func ?_⟩
 obtain⟨t,ht,hq⟩:=hbody A outer s H vs Q E (hr.deeper _) hsp
 have I:Inv (cxOf CX P w K mg base N qual scope f cdv A outer s H E) [] (zaw0 N vs) H s1:=zca2 S hr.hd e0 hl r x
 refine wpAny_mono (ht [] s1 (zaw0 N vs) H _ I hq) (fun fl s' hs=>?_) fun e s' hs=>hs
 have fin:∀ {σ':St}{H':Hp}{v:V}{u:Value},Inv (cxOf CX P w K mg base N qual scope f cdv A outer s H E) [] σ' H' s'->RelV v u->Q v H'->CE outer P w H s Q u s':=
  fun {σ' H' v u} J rv q=>⟨v,H',J.os,J.bare,J.base,J.hok,rv,q⟩
 cases fl with
 | ret u=>
  obtain⟨v,σ',H',J,rv,q⟩:=hs
  exact fin J rv q
 | next=>
  obtain⟨σ',H',J,q⟩:=hs
  exact fin (v:=V.non) (u:=Value.none) J rfl q
 | brk=>
  obtain⟨_,_,_,q⟩:=hs
  exact False.elim q
 | cont=>
  obtain⟨_,_,_,q⟩:=hs
  exact False.elim q
end L2
namespace L2
open PySem PySem.Spec PyProof.Rows
section
variable {X:Cx}{x:Str}{p pos:Pos}{e:Expr}{es:List Expr}{t:TA}{id T:String}{r:List V->Hp->VK->Prop}
def tCB (r:List V->Hp->VK->Prop) (t:TA):TE:=fun σ H Q=>t σ H fun vs H1=>r vs H1 Q
theorem zcf9 (hc:zp4 X (.builtin id) r) (hg:Gl X x) (hm:X.mg x=none) (hv:bootBuiltins x=some (.builtin id)) (ha:PA X (e :: es) t) (hn:x≠"__name__":=by decide) (hdb:(x==("__debug__":Str))=false:=by decide)
  (he:starEach (e :: es) X.env=(false,eval e X.env) :: starEach es X.env:=by rfl) (hpl:(backTo pos (starEach es X.env)).any (·.1)=false:=by rfl):PE X (.Call (.Name x p) (e :: es) [] pos) (tCB r t):=by
 intro pins s σ H Q I h
 refine wpAny_Call_Name_kw (zx1 I hg hm hv ?_ hn hdb)
 exact PyProof.Rows.callWith_builtin1 (thn (ha pos pins s σ H _ I h) fun us s1 ⟨vs,H1,I1,r1,q1⟩=>hc pins s1 σ H1 vs us Q I1 r1 q1) he hpl
theorem zby0 (hc:zp4 X (.type T) r) (hg:Gl X x) (hm:X.mg x=none) (hv:bootBuiltins x=some (.type T)) (ha:PA X (e :: es) t) (hn:x≠"__name__":=by decide) (hdb:(x==("__debug__":Str))=false:=by decide)
  (he:starEach (e :: es) X.env=(false,eval e X.env) :: starEach es X.env:=by rfl) (hpl:(backTo pos (starEach es X.env)).any (·.1)=false:=by rfl):PE X (.Call (.Name x p) (e :: es) [] pos) (tCB r t):=by
 intro pins s σ H Q I h
 refine wpAny_Call_Name_kw (zx1 I hg hm hv ?_ hn hdb)
 exact PyProof.Rows.callWith_type1 (thn (ha pos pins s σ H _ I h) fun us s1 ⟨vs,H1,I1,r1,q1⟩=>hc pins s1 σ H1 vs us Q I1 r1 q1) he hpl
end
end L2
namespace HT
open PySem PyProof.Rows
section
open PySem.SeqAt
open PySem.AutoSeq1 (wpAny_loadPart')
open PySem.MeetsSeq PySem.MeetsSeq2 PySem.MeetsSeq3
end
section
variable {prog:Program}{w:World}{A:Around}{E:Value->Shared->Prop}{s:Shared}
def sIx (n d:Nat):Option Int->Nat
 | none=>d
 | some v=>if v<0 then (v+(n:Int)).toNat else min v.toNat n
theorem sIx_nat (n d k:Nat):sIx n d (some (k:Int))=min k n:=by
 show (if (k:Int)<0 then ((k:Int)+(n:Int)).toNat else min (k:Int).toNat n)=min k n
 rw[if_neg (by omega),zde1]
theorem sIx_le (n d:Nat) (hd:d<=n) (o:Option Int):sIx n d o<=n:=by
 cases o with
 | none=>exact hd
 | some v=>
  show (if v<0 then (v+(n:Int)).toNat else min v.toNat n)<=n
  by_cases hv:v<0
  ·rw[if_pos hv];omega
  ·rw[if_neg hv];exact Nat.min_le_right _ _
theorem zbs7 (v:Int) (n d:Nat):(if v<0 then max (v+(n:Int)) 0 else min v (n:Int))=((sIx n d (some v):Nat):Int):=by
 show (if v<0 then max (v+(n:Int)) 0 else min v (n:Int))=(((if v<0 then (v+(n:Int)).toNat else min v.toNat n):Nat):Int)
 by_cases hv:v<0
 ·simp only[if_pos hv];omega
 ·simp only[if_neg hv];omega
theorem zbl6 (lo hi:Option Int) (n:Nat):Builtin.Slice.sliceAdjust lo hi 1 (n:Int)=(((sIx n 0 lo:Nat):Int),((sIx n n hi:Nat):Int)):=by
 have h1:¬ ((1:Int)<0):=by omega
 unfold Builtin.Slice.sliceAdjust
 simp only[h1,if_false]
 refine Prod.ext ?_ ?_
 ·cases lo with
  | none=>rfl
  | some v=>exact zbs7 v n 0
 ·cases hi with
  | none=>rfl
  | some v=>exact zbs7 v n n
theorem zbo2 (i j:Nat):Builtin.Slice.slicePlaces (i:Int) (j:Int) 1=j - i:=by
 unfold Builtin.Slice.slicePlaces
 have h1:(1:Int)>0:=by omega
 simp only[h1,if_true,Int.ediv_one]
 split<;>omega
theorem zao6 {v:Value}{o:Option Int}{Q:Option Int->Shared->Prop}(p:IsPart v o) (h:Q o s):wpAny (model prog w) A (Builtin.Slice.slicePartIndex v) Q E s:=by
 cases p with
 | none=>exact slicePart_none h
 | int i t=>exact slicePart_int h
theorem zah1 {sl:Addr}{vl vu:Value}{lo hi:Option Int}{n:Nat}{Q:Int×Int×Nat->Shared->Prop}(hs:s.heap.IsSliceOf sl vl vu .none) (pl:IsPart vl lo) (pu:IsPart vu hi)
  (h:Q (((sIx n 0 lo:Nat):Int),1,sIx n n hi - sIx n 0 lo) s):wpAny (model prog w) A (Builtin.Slice.sliceApplied (.ref sl) (pure (n:Int))) Q E s:=by
 obtain⟨os,hos,hcs,hds⟩:=id hs
 unfold Builtin.Slice.sliceApplied Builtin.Slice.sliceFields
 refine wpAny_bind (wpAny_bind (wpAny_field hos hds (x:=vl) rfl (wpAny_bind (wpAny_field hos hds (x:=vu) rfl (wpAny_bind (wpAny_field hos hds (x:=.none) rfl (wpAny_pure ?_)))))))
 refine wpAny_bind (slicePart_none ?_)
 show wpAny _ _ (if ((1:Int)==0)=true then _ else _) _ _ s
 rw[if_neg (by decide)]
 refine wpAny_bind (zao6 pl (wpAny_bind (zao6 pu (wpAny_bind (wpAny_pure ?_)))))
 show wpAny _ _ (match Builtin.Slice.sliceAdjust lo hi 1 (n:Int) with|(lo,hi)=>pure (lo,(1:Int),Builtin.Slice.slicePlaces lo hi 1)) _ _ s
 rw[zbl6 lo hi n]
 show wpAny _ _ (pure (((sIx n 0 lo:Nat):Int),(1:Int),Builtin.Slice.slicePlaces ((sIx n 0 lo:Nat):Int) ((sIx n n hi:Nat):Int) 1)) _ _ s
 rw[zbo2]
 exact wpAny_pure h
theorem zce6 (xs:Array Value) (i k:Nat):((List.range k).filterMap fun (m:Nat)=>xs[((i:Int)+(m:Int)*1).toNat]?).toArray=((xs.toList.drop i).take k).toArray:=by
 have e:(fun (m:Nat)=>xs[((i:Int)+(m:Int)*1).toNat]?)=fun m=>xs[i+m]?:=by
  funext m
  have:((i:Int)+(m:Int)*1).toNat=i+m:=by omega
  rw[this]
 rw[e]
 have:=pick_run xs i k
 rw[List.filterMap_map] at this
 have e2:((fun x=>xs[x]?)∘fun x=>i+x)=fun m=>xs[i+m]?:=rfl
 rw[e2] at this
 rw[this]
theorem getItem_tuple_cut {t sl:Addr}{items:Array Value}{vl vu:Value}{lo hi:Option Int}{Q:Value->Shared->Prop}(ht:IsTup s.heap t items) (hs:s.heap.IsSliceOf sl vl vu .none) (pl:IsPart vl lo) (pu:IsPart vu hi)
  (hw:¬ (sIx items.size 0 lo=0/\sIx items.size items.size hi=items.size))
  (h:Q (.ref s.heap.objs.size) { s with heap:=s.heap.push { cls:=.type "tuple",data:=.seq ((items.toList.drop (sIx items.size 0 lo)).take (sIx items.size items.size hi - sIx items.size 0 lo)).toArray } })
  (hsz:items.size<=sizeLine):wpAny (model prog w) A (getItem (.ref t) (.ref sl)) Q E s:=by
 have htake:sizeOk (.seq ((items.toList.drop (sIx items.size 0 lo)).take (sIx items.size items.size hi - sIx items.size 0 lo)).toArray):=by
  show ((items.toList.drop (sIx items.size 0 lo)).take (sIx items.size items.size hi - sIx items.size 0 lo)).toArray.size<=sizeLine
  rw[zcy8,zdf4,zdc2,Array.length_toList]
  omega
 have hj:sIx items.size items.size hi<=items.size:=sIx_le _ _ (zcz6 _) hi
 obtain⟨os,hos,hcs,hds⟩:=id hs
 have hTs:s.TypeIs (.ref sl) "slice":=⟨os,hos,hcs⟩
 unfold getItem
 try with_reducible refine wpAny_holding ?_
 first|refine wpAny_bind (wpAny_pure ?_)|skip
 refine wpAny_bind (wpAny_sequenceKey ht.typeIs (by decide) ?_)
 refine wpAny_bind (wpAny_callSpecial?_slot (name:=Str.ofString "__getitem__") ht.typeIs PyProof.Rows.slot_tuple_getitem
  (wpAny_call_entry PyProof.Rows.slot_tuple_getitem ht.typeIs entry_tuple_getitem ?_ (args_tuple_getitem _ _)))
 show wpAny _ _ (Builtin.Tuple.tupleItemsOf (.ref t) >>= _) _ _ s
 refine wpAny_bind (tupleItemsOf_ ht ?_)
 refine wpAny_bind (wpAny_typeOf hTs ?_)
 rw[if_pos (by decide)]
 refine wpAny_bind (zah1 hs pl pu ?_)
 have hno:¬ ((((sIx items.size 0 lo:Nat):Int)==0&&(1:Int)==1&&(sIx items.size items.size hi - sIx items.size 0 lo)==items.size)=true):=by
  intro q
  rw[zdb3,zdb3] at q
  have q1:((sIx items.size 0 lo:Nat):Int)=0:=eq_of_beq q.1.1
  have q2:sIx items.size items.size hi - sIx items.size 0 lo=items.size:=eq_of_beq q.2
  exact hw ⟨by omega,by omega⟩
 show wpAny _ _ (if (((sIx items.size 0 lo:Nat):Int)==0&&(1:Int)==1&&(sIx items.size items.size hi - sIx items.size 0 lo)==items.size)=true then _ else _) _ _ s
 rw[if_neg hno,zce6]
 first
  | exact wpAny_bind (m:=Builtin.Tuple.tupleExact _) (wpAny_newObj_type (wpAny_pure ⟨_,rfl,wpAny_pure h⟩) htake)
  | exact wpAny_bind (m:=Builtin.Tuple.tupleExact _) (wpAny_newObj_type (wpAny_bind (wpAny_pure (wpAny_pure ⟨_,rfl,wpAny_pure h⟩))) htake)
  | exact wpAny_bind (wpAny_bind (m:=Builtin.Tuple.tupleExact _) (wpAny_newObj_type (wpAny_pure (wpAny_pure ⟨_,rfl,wpAny_pure h⟩)) htake))
  | exact wpAny_bind (wpAny_bind (m:=Builtin.Tuple.tupleExact _) (wpAny_newObj_type (wpAny_pure ⟨_,rfl,wpAny_pure h⟩) htake))
end
end HT
namespace L2
open PySem PySem.Spec PyProof.Rows
abbrev TO:=St->Hp->(Option Int->Hp->Prop)->Prop
def PO (X:Cx) (e:Option Expr) (t:TO):Prop:=
 ∀ (pins:List (Addr×Obj)) (s:Shared) (σ:St) (H:Hp) (Q:Option Int->Hp->Prop),Inv X pins σ H s->t σ H Q ->
  wpAny (model X.prog X.w) X.A (evalPart e X.env) (fun u s'=>∃ o H',Inv X pins σ H' s'/\IsPart u o/\Q o H') X.xe s
def zcp5:TO:=fun _ H Q=>Q none H
theorem zag3 {ns:List Int}:∀ {us:List Value},Vals (ns.map V.int) us->IntsAre us ns:=by
 induction ns with
 | nil=>intro us r;rw[List.map_nil] at r;cases r;exact .nil
 | cons n ns ih=>
  intro us r
  rw[zda7] at r
  cases r with
  | cons r1 r2=>
   obtain⟨t,e⟩:=r1
   subst e
   exact .cons n t (ih r2)
section
variable {X:Cx}{e:Expr}{te:TE}{lo hi:Option Expr}{tl th:TO}{pos p2:Pos}
theorem zab3:PO X none zcp5:=by
 intro pins s σ H Q I h
 rw[evalPart_none]
 exact wpAny_pure ⟨none,H,I,.none,h⟩
def SlR (X:Cx) (r:V->Option Int->Option Int->Hp->VK->Prop):Prop:=
 ∀ (pins:List (Addr×Obj)) (s:Shared) (σ:St) (H:Hp) (x:V) (v vl vu:Value) (lo hi:Option Int) (sl:Addr) (Q:VK),Inv X pins σ H s->RelV x v->s.heap.IsSliceOf sl vl vu .none->IsPart vl lo->IsPart vu hi->r x lo hi H Q ->
  ∃ T id,typeLookup (.type T) "__getitem__"=pure (some (.builtin id))/\s.TypeIs v T/\wpAny (model X.prog X.w) X.A (getItem v (.ref sl)) (EP X pins σ Q) X.xe s
def tSl (r:V->Option Int->Option Int->Hp->VK->Prop) (te:TE) (tl th:TO):TE:=fun σ H Q=>te σ H fun x H1=>tl σ H1 fun l H2=>th σ H2 fun u H3=>r x l u H3 Q
theorem zr7 {r:V->Option Int->Option Int->Hp->VK->Prop}(hr:SlR X r) (he:PE X e te) (hl:PO X lo tl) (hu:PO X hi th):PE X (.Subscript e (.Slice lo hi none p2) pos) (tSl r te tl th):=by
 intro pins s σ H Q I h
 refine Subscript_ (thn (he pins s σ H _ I h) fun v s1 ⟨x,H1,I1,r1,q1⟩=>?_)
 refine wpAny_Slice (thn (hl pins s1 σ H1 _ I1 q1) fun vl s2 ⟨l,H2,I2,pl,q2⟩=>thn (hu pins s2 σ H2 _ I2 q2) fun vu s3 ⟨u,H3,I3,pu,q3⟩=>?_)
 rw[evalPart_none]
 refine wpAny_pure ?_
 have I4:Inv X pins σ H3 { s3 with heap:=s3.heap.push { cls:=.type "slice",data:=.fields #[vl,vu,.none] } }:=I3.kept (t':=s3.toks) fun b ob q=>zcy5 _ q
 obtain⟨T,id,hT,ht,hg⟩:=hr pins { s3 with heap:=s3.heap.push { cls:=.type "slice",data:=.fields #[vl,vu,.none] } } σ H3 x v vl vu l u s3.heap.objs.size Q I4 r1 (Heap.IsSliceOf.new ..) pl pu q3
 show wpAny (model X.prog X.w) X.A (subscriptTail e (.Slice lo hi none p2) v (.ref s3.heap.objs.size)) (EP X pins σ Q) X.xe { s3 with heap:=s3.heap.push { cls:=.type "slice",data:=.fields #[vl,vu,.none] } }
 exact tail_any (ops:=[.ref s3.heap.objs.size,v]) ht hT hg (by with_unfolding_all rfl)
def cutV (xs:List V) (lo hi:Option Int):List V:=(xs.drop (HT.sIx xs.length 0 lo)).take (HT.sIx xs.length xs.length hi - HT.sIx xs.length 0 lo)
theorem zak6 (xs:List V) (lo hi:Option Int):(cutV xs lo hi).length<=xs.length:=by
 unfold cutV
 rw[zdf4,zdc2]
 omega
def rSlT (K:zcy1):V->Option Int->Option Int->Hp->VK->Prop:=fun x lo hi H Q=>∃ a xs,x=.ref a/\SqT K H a xs /\
 ¬ (HT.sIx xs.length 0 lo=0/\HT.sIx xs.length xs.length hi=xs.length)/\∀ p,H p=none->Q (.ref p) (upd H p (.tup (cutV xs lo hi)))
theorem sl_tup:SlR X (rSlT X.K):=by
 intro pins s σ H x v vl vu lo hi sl Q I rx hs pl pu h
 obtain⟨a,xs,rfl,hx,hw,q⟩:=h
 cases rx
 obtain⟨its,r,ht,hz⟩:=I.tuple hx
 have hlen:its.toArray.size=xs.length:=by rw[zcy8];exact r.length.symm
 refine⟨"tuple",_,PyProof.Rows.slot_tuple_getitem.lookup,ht.typeIs,?_⟩
 refine HT.getItem_tuple_cut ht hs pl pu (by rw[hlen];exact hw) ?_ (by rw[hlen];exact hz)
 rw[hlen]
 refine⟨.ref s.heap.objs.size,_,I.laid (t':=s.toks) (o:=.tup (cutV xs lo hi)) (fun b ob q=>zcy5 _ q) (zcz6 _) ?_,rfl,q _ (I.hok.fresh (zcz6 _))⟩
 exact⟨zdb4 (zak6 xs lo hi) hz,_,(r.drop (HT.sIx xs.length 0 lo)).take (HT.sIx xs.length xs.length hi - HT.sIx xs.length 0 lo),IsTup.new _ _⟩
end
end L2
namespace L2
open PySem PySem.Spec PyProof.Rows
def ixN (n:Nat) (i:Int):Option Nat:=if 0<=i then (if i<n then some i.toNat else none) else if -(n:Int)<=i then some (i+n).toNat else none
def atI {α:Type}(xs:List α) (i:Int):Option α:=(ixN xs.length i).bind fun j=>xs[j]?
theorem zcm8 {n:Nat}{i:Int}{j:Nat}(h:ixN n i=some j):seqIndex? i n=some j/\j<n/\-(n:Int)<=i/\i<n:=by
 unfold ixN at h
 by_cases h0:0<=i
 ·rw[if_pos h0] at h
  by_cases h1:i<n
  ·rw[if_pos h1] at h
   have e:i.toNat=j:=Option.some.inj h
   exact⟨by rw[seqIndex_of h0 h1,e],by omega,by omega,h1⟩
  ·rw[if_neg h1] at h;cases h
 ·rw[if_neg h0] at h
  by_cases h1:-(n:Int)<=i
  ·rw[if_pos h1] at h
   have e:(i+n).toNat=j:=Option.some.inj h
   exact⟨by rw[seqIndex_neg (by omega) h1,e],by omega,h1,by omega⟩
  ·rw[if_neg h1] at h;cases h
theorem zbe6 {α:Type}{xs:List α}{i:Int}{v:α}(h:atI xs i=some v):∃ j,seqIndex? i xs.length=some j/\xs[j]?=some v/\j<xs.length/\-(xs.length:Int)<=i/\i<xs.length:=by
 unfold atI at h
 cases e:ixN xs.length i with
 | none=>rw[e] at h;cases h
 | some j=>
  rw[e] at h
  obtain⟨h1,h2,h3,h4⟩:=zcm8 e
  exact⟨j,h1,h,h2,h3,h4⟩
theorem zc5 {α:Type}{xs:List α}{j:Nat}{v:α}(h:xs[j]?=some v):atI xs (j:Int)=some v:=by
 have hj:j<xs.length:=(zcy4.mp h).1
 have e:ixN xs.length (j:Int)=some j:=by
  unfold ixN
  rw[if_pos (by omega),if_pos (by omega)];simp
 unfold atI;rw[e];exact h
def zas9 (b:Expr):Prop:=∀ o i,subscripted b false o i=operate [o,i] (getItem o i)
def IxR (X:Cx) (r:R2):Prop:=
 ∀ (value slice:Expr) (pins:List (Addr×Obj)) (s:Shared) (σ:St) (H:Hp) (x y:V) (v u:Value) (Q:VK),Inv X pins σ H s->RelV x v->RelV y u->r x y H Q ->
  subscripted slice false v u=operate [v,u] (getItem v u)->wpAny (model X.prog X.w) X.A (subscriptTail value slice v u) (EP X pins σ Q) X.xe s
def MtR (X:Cx) (id:String) (r:V->List V->Hp->VK->Prop):Prop:=
 ∀ (pins:List (Addr×Obj)) (s:Shared) (σ:St) (H:Hp) (x:V) (xs:List V) (v:Value) (us:List Value) (Q:VK),Inv X pins σ H s->RelV x v->Vals xs us->r x xs H Q ->
  wpAny (model X.prog X.w) X.A (call (.builtin id) (v :: us)) (EP X pins σ Q) X.xe s
section
variable {X:Cx}{a b:Expr}{ta tb:TE}{pos:Pos}
theorem pe_ix {r:R2}(hr:IxR X r) (ha:PE X a ta) (hb:PE X b tb) (hs:zas9 b):PE X (.Subscript a b pos) (tOp r ta tb):=by
 intro pins s σ H Q I h
 exact Subscript_ (binT ha hb I h fun v u s2 x y H2 I2 rx ry q=>hr a b pins s2 σ H2 x y v u Q I2 rx ry q (hs _ _))
def rIxL (K:zcy1):R2:=fun x y H Q=>∃ p xs i v,x=.ref p/\y=.int i/\SqL K H p xs/\atI xs i=some v/\Q v H
def rIxT (K:zcy1):R2:=fun x y H Q=>∃ p xs i v,x=.ref p/\y=.int i/\SqT K H p xs/\atI xs i=some v/\Q v H
def rIxS:R2:=fun x y H Q=>∃ z i c,x=.str z/\y=.int i/\z.length<=sizeLine/\atI z.cps.toList i=some c/\Q (.str ⟨#[c]⟩) H
theorem zcn3:IxR X (rIxL X.K):=by
 intro value slice pins s σ H x y v u Q I rx ry h hs
 obtain⟨p,xs,i,z,rfl,rfl,hq,he,q⟩:=h
 cases rx
 obtain⟨t,rfl⟩:=ry
 obtain⟨its,r,pl,hz⟩:=I.list hq
 obtain⟨j,h1,h2,h3,h4,h5⟩:=zbe6 he
 obtain⟨w,ew,rw'⟩:=r.get h2
 have hl:=r.length
 have hn:=zao2
 have fin:EP X pins σ Q w s:=⟨z,H,I,rw',q⟩
 by_cases h0:0<=i
 ·have hj:i.toNat=j:=by
   rw[seqIndex_of h0 h5] at h1
   exact Option.some.inj h1
  exact item_listR pl.isList h0 (by omega) (by rw[hj];simpa using ew) fin hs
 ·have hj:(i+(its.toArray.size:Int)).toNat=j:=by
   rw[seqIndex_neg (by omega) h4] at h1
   rw[zcy8,← hl]
   exact Option.some.inj h1
  exact subscriptTail_builtinR (x:=w) pl.isList.typeIs slot_list_getitem.lookup
   (wpAny_getItem_list_neg (Q:=fun r s'=>r=w/\EP X pins σ Q r s') pl.isList (by omega) (by rw[zcy8]<;>omega) (by omega) (by rw[hj];simpa using ew) ⟨rfl,fin⟩) hs
theorem ix_tup:IxR X (rIxT X.K):=by
 intro value slice pins s σ H x y v u Q I rx ry h hs
 obtain⟨p,xs,i,z,rfl,rfl,hq,he,q⟩:=h
 cases rx
 obtain⟨t,rfl⟩:=ry
 obtain⟨its,r,pl,hz⟩:=I.tuple hq
 obtain⟨j,h1,h2,h3,h4,h5⟩:=zbe6 he
 obtain⟨w,ew,rw'⟩:=r.get h2
 have hl:=r.length
 have hn:=zao2
 have fin:EP X pins σ Q w s:=⟨z,H,I,rw',q⟩
 exact subscriptTail_builtinR (x:=w) pl.typeIs slot_tuple_getitem.lookup
  (getItem_tuple (j:=j) (Q:=fun r s'=>r=w/\EP X pins σ Q r s') pl (by omega) (by omega) (by rw[zcy8,← hl];exact h1) (by simpa using ew) ⟨rfl,fin⟩) hs
theorem ix_str:IxR X rIxS:=by
 intro value slice pins s σ H x y v u Q I rx ry h hs
 obtain⟨z,i,c,rfl,rfl,hz,he,q⟩:=h
 obtain⟨t,rfl⟩:=rx
 obtain⟨t',rfl⟩:=ry
 obtain⟨j,h1,h2,h3,h4,h5⟩:=zbe6 he
 have hl:z.cps.toList.length=z.length:=by simp[Str.length]
 rw[hl] at h1 h4 h5
 have hn:=zao2
 exact tail_any (typeIs_str s z t) slot_str_getitem.lookup (getItem_str (c:=c) (by
  have e1:decide (i < -(2 ^ 63:Int))=false:=decide_eq_false (by omega)
  have e2:decide (i≥2 ^ 63)=false:=decide_eq_false (by omega)
  rw[e1,e2,Bool.or_false]) (by rw[h1];simpa using h2) ⟨.str ⟨#[c]⟩,H,I.tok _,⟨_,rfl⟩,q⟩) hs
theorem Inv.lst {pins:List (Addr×Obj)}{σ:St}{H:Hp}{s:Shared}{p:Addr}{xs:List V}(I:Inv X pins σ H s) (h:H p=some (.lst xs)) :
  ∃ (its:List Value) (n:Nat),Vals xs its/\s.heap.get? p=some { cls:=.type "list",data:=.seq its.toArray n }/\xs.length<=sizeLine:=by
 obtain⟨z,its,n,r,e⟩:=I.hok p _ h
 exact⟨its,n,r,e,z⟩
theorem zav8 (lo hi:Option Int) (n:Nat):(sliceBounds lo hi none n).1=((HT.sIx n 0 lo:Nat):Int)/\(sliceBounds lo hi none n).2.1=((HT.sIx n n hi:Nat):Int)/\(sliceBounds lo hi none n).2.2=1:=by
 refine⟨?_,?_,rfl⟩
 ·cases lo with
  | none=>simp[sliceBounds,HT.sIx]
  | some i=>
   simp only[sliceBounds,HT.sIx,Option.getD_none,show (1:Int)>0 by decide,if_true]
   by_cases h:i<0
   ·simp only[h,if_true]<;>omega
   ·simp only[h,if_false]<;>omega
 ·cases hi with
  | none=>simp[sliceBounds,HT.sIx]
  | some i=>
   simp only[sliceBounds,HT.sIx,Option.getD_none,show (1:Int)>0 by decide,if_true]
   by_cases h:i<0
   ·simp only[h,if_true]<;>omega
   ·simp only[h,if_false]<;>omega
theorem zat4 (its:List Value) (lo hi:Option Int):slicePick its.toArray lo hi none=((its.drop (HT.sIx its.length 0 lo)).take (HT.sIx its.length its.length hi - HT.sIx its.length 0 lo)).toArray:=by
 obtain⟨h1,h2,h3⟩:=zav8 lo hi its.toArray.size
 unfold slicePick
 rw[h1,h2,h3]
 simp only[sliceRange_one,pick_run,zcy8]<;>rfl
def rSlL (K:zcy1):V->Option Int->Option Int->Hp->VK->Prop:=fun x lo hi H Q=>∃ a xs,x=.ref a/\SqL K H a xs/\∀ p,H p=none->Q (.ref p) (upd H p (.lst (cutV xs lo hi)))
theorem zcr6:SlR X (rSlL X.K):=by
 intro pins s σ H x v vl vu lo hi sl Q I rx hs pl pu h
 obtain⟨a,xs,rfl,hx,q⟩:=h
 cases rx
 obtain⟨its,r,ht,hz⟩:=I.list hx
 have hlen:=r.length
 refine⟨"list",_,slot_list_getitem.lookup,ht.isList.typeIs,?_⟩
 refine wpAny_getItem_list_slice ht.isList hs pl pu .none (by simp) ?_ (by rw[zcy8]<;>omega)
 rw[zat4,← hlen]
 refine⟨.ref s.heap.objs.size,_,I.laid (t':=s.toks) (o:=.lst (cutV xs lo hi)) (fun b ob q=>zcy5 _ q) (zcz6 _) ?_,rfl,q _ (I.hok.fresh (zcz6 _))⟩
 exact⟨zdb4 (zak6 xs lo hi) hz,_,0,(r.drop (HT.sIx xs.length 0 lo)).take (HT.sIx xs.length xs.length hi - HT.sIx xs.length 0 lo),zcz9 _ rfl⟩
def zu0:V->Bool
 | .non=>true
 | .bl _=>true
 | .int _=>true
 | .str _=>true
 | _=>false
def eqV:V->V->Bool
 | .non,.non=>true
 | .bl a,.bl b=>a==b
 | .bl a,.int b=>(if a then 1 else 0)==b
 | .int a,.bl b=>a==(if b then 1 else 0)
 | .int a,.int b=>a==b
 | .str a,.str b=>a==b
 | _,_=>false
theorem zbx6 {A:Around}{s:Shared}{y x:V}{u v:Value}(ry:RelV y u) (rx:RelV x v) (fy:zu0 y=true) (fx:zu0 x=true):SeqAt.EqAt A s u v (eqV y x):=by
 cases y with
 | non=>
  cases ry
  cases x with
  | non=>cases rx;exact SeqAt.EqAt.same _
  | bl b=>cases rx;exact SeqAt.EqAt.none_bool b
  | int b=>obtain⟨t,rfl⟩:=rx;exact SeqAt.EqAt.none_int b t
  | str b=>obtain⟨t,rfl⟩:=rx;exact SeqAt.EqAt.none_str b t
  | _=>exact absurd (show false=true from fx) zcz0
 | bl a=>
  cases ry
  cases x with
  | non=>cases rx;exact SeqAt.EqAt.bool_none a
  | bl b=>cases rx;exact SeqAt.EqAt.bool_bool a b
  | int b=>obtain⟨t,rfl⟩:=rx;exact SeqAt.EqAt.bool_int a b t
  | str b=>obtain⟨t,rfl⟩:=rx;exact SeqAt.EqAt.bool_str a b t
  | _=>exact absurd (show false=true from fx) zcz0
 | int a=>
  obtain⟨t',rfl⟩:=ry
  cases x with
  | non=>cases rx;exact SeqAt.EqAt.int_none a t'
  | bl b=>cases rx;exact SeqAt.EqAt.int_bool a t' b
  | int b=>obtain⟨t,rfl⟩:=rx;exact SeqAt.EqAt.int_int a t' b t
  | str b=>obtain⟨t,rfl⟩:=rx;exact SeqAt.EqAt.int_str a t' b t
  | _=>exact absurd (show false=true from fx) zcz0
 | str a=>
  obtain⟨t',rfl⟩:=ry
  cases x with
  | non=>cases rx;exact SeqAt.EqAt.str_none a t'
  | bl b=>cases rx;exact SeqAt.EqAt.str_bool a t' b
  | int b=>obtain⟨t,rfl⟩:=rx;exact SeqAt.EqAt.str_int a t' b t
  | str b=>obtain⟨t,rfl⟩:=rx;exact SeqAt.EqAt.str_str a t' b t
  | _=>exact absurd (show false=true from fx) zcz0
 | _=>exact absurd (show false=true from fy) zcz0
def eqU (x:V) (u:Value):Bool:=match u with
 | .none=>eqV .non x
 | .bool b=>eqV (.bl b) x
 | .int i _=>eqV (.int i) x
 | .str z _=>eqV (.str z) x
 | _=>false
theorem zca0 {x y:V}{u:Value}(r:RelV y u) (f:zu0 y=true):eqU x u=eqV y x:=by
 cases y with
 | non=>cases r;rfl
 | bl b=>cases r;rfl
 | int i=>obtain⟨t,rfl⟩:=r;rfl
 | str z=>obtain⟨t,rfl⟩:=r;rfl
 | _=>exact absurd (show false=true from f) zcz0
theorem zbc7 {x:V}:∀ {xs:List V}{us:List Value},Vals xs us->xs.all zu0=true->us.any (eqU x)=xs.any fun y=>eqV y x
 | _,_,.nil,_=>rfl
 | y :: xs,u :: us,.cons r t,f=>by
  rw[List.all_cons,zdb3] at f
  rw[List.any_cons,List.any_cons,zca0 r f.1,zbc7 t f.2]
theorem zah7 {A:Around}{s:Shared}{x:V}{v:Value}(rx:RelV x v) (fx:zu0 x=true):∀ {xs:List V}{us:List Value},Vals xs us->xs.all zu0=true->∀ u∈us,SeqAt.EqAt A s u v (eqU x u)
 | _,_,.nil,_=>fun u hu=>by cases hu
 | y :: xs,u :: us,.cons r t,f=>fun u' hu=>by
  rw[List.all_cons,zdb3] at f
  rcases zcz5.mp hu with rfl|hu
  ·rw[zca0 r f.1];exact zbx6 r rx f.1 fx
  ·exact zah7 rx fx t f.2 u' hu
def inV (x:V) (xs:List V):Bool:=xs.any fun y=>eqV y x
def rIn (K:zcy1) (neg:Bool):R2:=fun x y H Q=>∃ p xs,y=.ref p/\(SqL K H p xs∨SqT K H p xs)/\zu0 x=true/\xs.all zu0=true/\Q (.bl (if neg then !inV x xs else inV x xs)) H
theorem zax2:OpR X (compareOp .NotIn) (rIn X.K true):=by
 intro pins s σ H x y v u Q I rx ry h
 obtain⟨p,xs,rfl,hq,fx,fs,q⟩:=h
 cases ry
 rcases hq with hq|hq
 ·obtain⟨its,r,pl,hz⟩:=I.list hq
  refine SeqAt.notIn_listAt (eqU x) pl.isList (fun w hw=>zah7 rx fx r fs w (by simpa using hw)) ⟨.bl _,H,I,rfl,?_⟩
  rw[show its.toArray.any (eqU x)=its.any (eqU x) by simp,zbc7 r fs]
  exact q
 ·obtain⟨its,r,pl,hz⟩:=I.tuple hq
  refine SeqAt.notIn_tupleAt (eqU x) pl (fun w hw=>zah7 rx fx r fs w (by simpa using hw)) ⟨.bl _,H,I,rfl,?_⟩
  rw[show its.toArray.any (eqU x)=its.any (eqU x) by simp,zbc7 r fs]
  exact q
theorem zba3:zp4 X (.builtin "len") (fun xs H Q=>∃ p ys,xs=[.ref p]/\(SqL X.K H p ys∨SqT X.K H p ys)/\Q (.int ys.length) H):=by
 intro pins s σ H xs us Q I r h
 obtain⟨p,ys,rfl,hq,q⟩:=h
 obtain⟨u,rfl,rx⟩:=zaa0 r
 cases rx
 have hn:=zao2
 rcases hq with hq|hq
 ·obtain⟨its,r',pl,hz⟩:=I.list hq
  have hlen:=r'.length
  exact Calls.call_len_list pl.isList (by simp only[zcy8]<;>omega) ⟨.int ys.length,H,I.tok _,⟨s.toks+1,by rw[zcy8,hlen]⟩,q⟩
 ·obtain⟨its,r',pl,hz⟩:=I.tuple hq
  have hlen:=r'.length
  exact len_tuple pl (by simp only[zcy8]<;>omega) ⟨.int ys.length,H,I.tok _,⟨s.toks+1,by rw[zcy8,hlen]⟩,q⟩
theorem zax1:zp4 X (.builtin "len") (fun xs H Q=>∃ z,xs=[.str z]/\z.length<=sizeLine/\Q (.int z.length) H):=by
 intro pins s σ H xs us Q I r h
 obtain⟨z,rfl,hz,q⟩:=h
 obtain⟨u,rfl,t,rfl⟩:=zaa0 r
 have hn:=zao2
 exact len_str (by omega) ⟨.int z.length,H,I.tok _,⟨_,rfl⟩,q⟩
theorem zax8:zp4 X (.type "list") (fun xs H Q=>∃ p ys,xs=[.ref p]/\(SqL X.K H p ys∨SqT X.K H p ys)/\∀ l,H l=none->Q (.ref l) (upd H l (.lst ys))):=by
 intro pins s σ H xs us Q I r h
 obtain⟨p,ys,rfl,hq,q⟩:=h
 obtain⟨u,rfl,rx⟩:=zaa0 r
 cases rx
 have fin:∀ (its:List Value),Vals ys its->ys.length<=sizeLine->∀ (h':Heap) (c':Nat),(∀ b o',s.heap.get? b=some o'->h'.get? b=some o') ->
   h'.get? s.heap.objs.size=some { cls:=.type "list",dict:=none,data:=.seq its.toArray c',slots:=#[] }->EP X pins σ Q (.ref s.heap.objs.size) { s with heap:=h' }:=fun its r' hz h' c' kp e=>
  ⟨.ref s.heap.objs.size,_,I.laid (t':=s.toks) kp (zcz6 _) (show zg6 X.prog X.w _ h' _ (.lst ys) from ⟨hz,its,c',r',e⟩),rfl,q _ (I.hok.fresh (zcz6 _))⟩
 rcases hq with hq|hq
 ·obtain⟨its,r',pl,hz⟩:=I.list hq
  have hlen:=r'.length
  obtain⟨o,ho,hc,n,hd⟩:=pl.isList
  exact call_list_seq p (.inl rfl) ho hc hd (fun h' c' kp e=>fin its r' hz h' c' kp e) (by simp only[zcy8]<;>omega)
 ·obtain⟨its,r',pl,hz⟩:=I.tuple hq
  have hlen:=r'.length
  obtain⟨o,ho,hc,n,hd⟩:=pl
  exact call_list_seq p (.inr rfl) ho hc hd (fun h' c' kp e=>fin its r' hz h' c' kp e) (by simp only[zcy8]<;>omega)
theorem zau1:zp4 X (.type "tuple") (fun xs H Q=>∃ p ys,xs=[.ref p]/\((SqL X.K H p ys/\∀ l,H l=none->Q (.ref l) (upd H l (.tup ys)))∨(SqT X.K H p ys/\Q (.ref p) H))):=by
 intro pins s σ H xs us Q I r h
 obtain⟨p,ys,rfl,h⟩:=h
 obtain⟨u,rfl,rx⟩:=zaa0 r
 cases rx
 rcases h with ⟨hq,q⟩|⟨hq,q⟩
 ·obtain⟨its,r',pl,hz⟩:=I.list hq
  have hlen:=r'.length
  refine call_tuple_list pl.isList (fun h' kp=>?_) (by simp only[zcy8]<;>omega)
  have I1:Inv X pins σ H { s with heap:=h' }:=I.kept (t':=s.toks) kp
  have I2:Inv X pins σ (upd H h'.objs.size (.tup ys)) { s with heap:=h'.push { cls:=.type "tuple",data:=.seq its.toArray } }:=
   I1.laid (t':=s.toks) (fun b o e=>zcy5 _ e) (zcz6 _) (show zg6 X.prog X.w _ _ _ (.tup ys) from ⟨hz,its,r',IsTup.new _ _⟩)
  exact⟨.ref h'.objs.size,_,I2,rfl,q _ (I1.hok.fresh (zcz6 _))⟩
 ·obtain⟨its,r',pl,hz⟩:=I.tuple hq
  exact call_tuple_same pl ⟨.ref p,H,I,rfl,q⟩
def tyV (K:zcy1) (T:String) (x:V) (H:Hp):Prop:=match x with
 | .str _=>T="str"
 | .int _=>T="int"
 | .ref p=>(T="list"/\∃ xs,SqL K H p xs)∨(T="tuple"/\∃ o,K.lookup p=some o/\o.cls=.type "tuple"/\o.dict=none) ∨
   (T="dict"/\((∃ kvs,H p=some (.dK kvs))∨∃ kvs,H p=some (.dT kvs)))∨(T="set"/\∃ S n,H p=some (.set S n))
 | _=>False
theorem zcl0 {pins:List (Addr×Obj)}{σ:St}{H:Hp}{s:Shared}{T:String}{x:V}{v:Value}(I:Inv X pins σ H s) (r:RelV x v) (ty:tyV X.K T x H) :
  s.TypeIs v T/\∀ a,v=.ref a->∃ ob,s.heap.get? a=some ob/\ob.dict=none:=by
 cases x with
 | str z=>
  obtain⟨t,rfl⟩:=r
  cases (show T="str" from ty)
  exact⟨typeIs_str s z t,fun _ e=>nomatch e⟩
 | int i=>
  obtain⟨t,rfl⟩:=r
  cases (show T="int" from ty)
  exact⟨typeIs_int s i t,fun _ e=>nomatch e⟩
 | ref p=>
  cases r
  rcases ty with ⟨rfl,xs,hq⟩|⟨rfl,o,hk,hc,hd⟩|⟨rfl,hk⟩|⟨rfl,S,n,hk⟩
  ·obtain⟨its,_,pl,_⟩:=I.list hq
   refine⟨pl.isList.typeIs,fun a e=>?_⟩
   cases e
   obtain⟨o,n,e,c,hd,_⟩:=pl
   exact⟨o,e,hd⟩
  ·refine⟨⟨o,I.kIn p o hk,hc⟩,fun a e=>?_⟩
   cases e
   exact⟨o,I.kIn _ o hk,hd⟩
  ·have z:∃ o,s.heap.get? p=some o/\o.ExactDict:=by
    rcases hk with ⟨kvs,hk⟩|⟨kvs,hk⟩
    ·obtain⟨_,_,_,_,o,_,_,e,ex,_⟩:=I.hok p _ hk
     exact⟨o,e,ex⟩
    ·obtain⟨_,_,_,_,o,_,_,e,ex,_⟩:=I.hok p _ hk
     exact⟨o,e,ex⟩
   obtain⟨o,e,ex⟩:=z
   refine⟨⟨o,e,ex.1⟩,fun a e2=>?_⟩
   cases e2
   exact⟨o,e,ex.2.1⟩
  ·obtain⟨o,_,_,_,e,ex,_⟩:=I.hok p _ hk
   refine⟨⟨o,e,ex.1⟩,fun a e2=>?_⟩
   cases e2
   exact⟨o,e,ex.2.1⟩
 | _=>exact False.elim ty
variable {o e:Expr}{es:List Expr}{to:TE}{t:TA}{name:Str}{apos cpos:Pos}{T id:String}{r:V->List V->Hp->VK->Prop}
end
end L2
namespace L2
open PySem PySem.Spec PyProof.Rows
def MtM (X:Cx) (id:String) (r:V->List V->Hp->VK->Prop):Prop:=
 ∀ (pins:List (Addr×Obj)) (s:Shared) (σ:St) (H:Hp) (x:V) (xs:List V) (v:Value) (us:List Value) (Q:VK),Inv X pins σ H s->RelV x v->Vals xs us->r x xs H Q ->
  wpAny (model X.prog X.w) X.A (call (.builtin id) (v :: us)) (EP X pins σ Q) X.xe s
theorem Vals.one:∀ {x:V}{us:List Value},Vals [x] us->∃ u,us=[u]/\RelV x u
 | _,_,.cons r .nil=>⟨_,rfl,r⟩
theorem Vals.zero:∀ {us:List Value},Vals [] us->us=[]
 | _,.nil=>rfl
theorem Vals.dropLast {xs:List V}{us:List Value}(h:Vals xs us):Vals xs.dropLast us.dropLast:=by
 induction h with
 | nil=>exact .nil
 | cons r t ih=>
  cases t with
  | nil=>exact .nil
  | cons q t'=>exact .cons r ih
theorem Vals.eraseIdx:∀ {xs:List V}{us:List Value}(i:Nat),Vals xs us->Vals (xs.eraseIdx i) (us.eraseIdx i)
 | _,_,_,.nil=>.nil
 | _,_,0,.cons _ t=>t
 | _,_,i+1,.cons r t=>.cons r (Vals.eraseIdx i t)
theorem Vals.reverse {xs:List V}{us:List Value}(h:Vals xs us):Vals xs.reverse us.reverse:=by
 induction h with
 | nil=>exact .nil
 | cons r t ih=>rw[List.reverse_cons,List.reverse_cons];exact Vals.append ih (.cons r .nil)
theorem Vals.rep {xs:List V}{us:List Value}(h:Vals xs us):∀ k:Nat,Vals (List.replicate k xs).flatten (List.replicate k us).flatten
 | 0=>.nil
 | k+1=>by
  rw[zdf2,zdf2,List.flatten_cons,List.flatten_cons]
  exact Vals.append h (Vals.rep h k)
theorem zbo1 {α:Type}(l:List α):l.eraseIdx (l.length - 1)=l.dropLast:=by
 induction l with
 | nil=>rfl
 | cons a r ih=>
  cases r with
  | nil=>rfl
  | cons b r=>
   have e:(a :: b :: r).length - 1=((b :: r).length - 1)+1:=by
    have h1:(a :: b :: r).length=r.length+2:=rfl
    have h2:(b :: r).length=r.length+1:=rfl
    omega
   rw[e,List.eraseIdx_cons_succ,ih]
   all_goals rfl
theorem zay6 (its:List Value):∀ (k:Nat) (acc:List Value),
  List.foldl (fun x1 x2=>x1++x2) acc.toArray (List.replicate k its.toArray)=(acc++(List.replicate k its).flatten).toArray
 | 0,acc=>by simp
 | k+1,acc=>by
  have e:acc.toArray++its.toArray=(acc++its).toArray:=by simp
  have e2:(acc++its)++(List.replicate k its).flatten=acc++(List.replicate (k+1) its).flatten:=by
   rw[zdf2,List.flatten_cons,List.append_assoc]
  rw[← e2,← zay6 its k (acc++its),← e,zdf2,List.foldl_cons]
section
variable {X:Cx}{pins:List (Addr×Obj)}{σ:St}{H:Hp}{s:Shared}{l b:Addr}{xs ys zs:List V}
theorem Inv.lset {its its':List Value}{n:Nat}{f:Array Value->Array Value}{t':Nat}(I:Inv X pins σ H s) (hH:H l=some (.lst xs))
  (e:s.heap.get? l=some { cls:=.type "list",data:=.seq its.toArray n }) (hf:f its.toArray=its'.toArray) (hv:Vals ys its') (hz:ys.length<=sizeLine) :
  Inv X pins σ (upd H l (.lst ys)) { s with heap:=s.heap.update l (Obj.mapSeq f),toks:=t' }:=by
 have q:=PySem.IsL.update e f
 rw[hf] at q
 refine I.write (x:=l) (e:=l) (by rw[hH];exact trivial) (.inl rfl) (fun b' u hb hu=>(Heap.get?_update_other s.heap (Obj.mapSeq f) (Ne.symm hb)).trans hu) ⟨_,q⟩ ?_
 exact⟨hz,its',_,hv,q⟩
theorem Inv.lnew {its:List Value}{t':Nat}(I:Inv X pins σ H s) (hv:Vals ys its) (hz:ys.length<=sizeLine) :
  Inv X pins σ (upd H s.heap.objs.size (.lst ys)) { s with heap:=s.heap.push { cls:=.type "list",data:=.seq its.toArray },toks:=t' }:=
 I.laid (fun _ _ q=>zcy5 _ q) (zcz6 _) ⟨hz,its,0,hv,zcz9 _ rfl⟩
theorem Inv.fresh (I:Inv X pins σ H s):H s.heap.objs.size=none:=I.hok.fresh (zcz6 _)
theorem Inv.lstM (I:Inv X pins σ H s) (hH:H l=some (.lst xs)):xs.length<=sizeLine/\∃ (its:List Value) (n:Nat),Vals xs its/\xs.length=its.length/\s.heap.get? l=some { cls:=.type "list",data:=.seq its.toArray n }:=by
 obtain⟨z,its,n,r,e⟩:=I.hok l _ hH
 exact⟨z,its,n,r,r.length,e⟩
theorem zbj3 {n:Nat}(h:n<=sizeLine):Builtin.List.listTooLong n=false:=by
 unfold Builtin.List.listTooLong
 exact decide_eq_false (by omega)
end
section
variable {X:Cx}
def zcr4:V->List V->Hp->VK->Prop:=fun x vs H Q=>∃ l xs y,x=.ref l/\vs=[y]/\H l=some (.lst xs)/\xs.length<sizeLine/\Q .non (upd H l (.lst (xs++[y])))
theorem zaw2:MtM X "list.append" zcr4:=by
 intro pins s σ H x vs v us Q I rx rv h
 obtain⟨l,xs,y,rfl,rfl,hH,hz,q⟩:=h
 cases rx
 obtain⟨u,rfl,ru⟩:=rv.one
 obtain⟨z,its,n,r,hl,e⟩:=I.lstM hH
 refine call_meets F.slot_list_append ⟨_,e,rfl⟩ F.entry_list_append (F.args_list_append_2 _ _) (PySem.list_append l its.toArray n u (by rw[zcy8];omega)) ⟨e,?_⟩
 refine⟨.non,_,I.lset (its':=its++[u]) hH e (by simp) (r.append (.cons ru .nil)) ?_,rfl,q⟩
 rw[zcz8,List.length_singleton]
 omega
def zcm7:V->List V->Hp->VK->Prop:=fun x vs H Q=>∃ l b xs zs,x=.ref l/\vs=[.ref b]/\H l=some (.lst xs)/\H b=some (.lst zs)/\xs.length+zs.length<=sizeLine/\Q .non (upd H l (.lst (xs++zs)))
theorem mt_extend:MtM X "list.extend" zcm7:=by
 intro pins s σ H x vs v us Q I rx rv h
 obtain⟨l,b,xs,zs,rfl,rfl,hH,hB,hz,q⟩:=h
 cases rx
 obtain⟨u,rfl,ru⟩:=rv.one
 cases ru
 obtain⟨z,its,n,r,hl,e⟩:=I.lstM hH
 obtain⟨z2,its2,n2,r2,hl2,e2⟩:=I.lstM hB
 have hsz:its.toArray.size+its2.toArray.size<=sizeLine:=by rw[zcy8,zcy8];omega
 have hlong:¬ (!its.toArray.isEmpty&&Builtin.List.listTooLong (its.toArray.size+its2.toArray.size))=true:=by
  rw[zbj3 hsz,Bool.and_false]
  exact zcz0
 refine call_meets F.slot_list_extend ⟨_,e,rfl⟩ F.entry_list_extend (F.args_list_extend_2 _ _)
  (AutoSeq1.list_extend_list_list_0 l its.toArray n b its2.toArray n2 hlong (by rw[zcy8];omega) (by omega)) ⟨e,e2,?_⟩
 refine⟨.non,_,I.lset (its':=its++its2) hH e (by simp) (r.append r2) ?_,rfl,q⟩
 rw[zcz8]
 omega
def rPop:V->List V->Hp->VK->Prop:=fun x vs H Q=>∃ l xs y,x=.ref l/\vs=[]/\H l=some (.lst xs)/\xs[xs.length - 1]?=some y/\Q y (upd H l (.lst xs.dropLast))
theorem mt_pop:MtM X "list.pop" rPop:=by
 intro pins s σ H x vs v us Q I rx rv h
 obtain⟨l,xs,y,rfl,rfl,hH,hy,q⟩:=h
 cases rx
 have hus:=rv.zero
 subst hus
 obtain⟨z,its,n,r,hl,e⟩:=I.lstM hH
 obtain⟨u,hu,ru⟩:=r.get hy
 have hy':its.toArray[its.toArray.size - 1]?=some u:=by
  show its.toArray[its.length - 1]?=some u
  rw[← Array.getElem?_toList,← hl]
  exact hu
 refine call_meets F.slot_list_pop ⟨_,e,rfl⟩ F.entry_list_pop (F.args_list_pop_1 _) (MeetsSeq.list_pop_last l its.toArray n u hy' (by rw[zcy8];omega)) ⟨e,?_⟩
 refine⟨y,_,I.lset (its':=its.dropLast) hH e ?_ r.dropLast ?_,ru,q⟩
 ·show its.toArray.eraseIdxIfInBounds (its.toArray.size - 1)=its.dropLast.toArray
  rw[zcy8,List.eraseIdxIfInBounds_toArray,zbo1]
 ·rw[List.length_dropLast]
  omega
def rClear:V->List V->Hp->VK->Prop:=fun x vs H Q=>∃ l xs,x=.ref l/\vs=[]/\H l=some (.lst xs)/\Q .non (upd H l (.lst []))
theorem zci0:MtM X "list.clear" rClear:=by
 intro pins s σ H x vs v us Q I rx rv h
 obtain⟨l,xs,rfl,rfl,hH,q⟩:=h
 cases rx
 have hus:=rv.zero
 subst hus
 obtain⟨z,its,n,r,hl,e⟩:=I.lstM hH
 refine call_meets F.slot_list_clear ⟨_,e,rfl⟩ F.entry_list_clear (F.args_list_clear_1 _) (AutoSeq1.list_clear_list_0 l its.toArray n (by rw[zcy8];omega)) ⟨e,?_⟩
 exact⟨.non,_,I.lset (its':=[]) (ys:=[]) hH e rfl .nil (zda6 _),rfl,q⟩
def rCat:R2:=fun x y H Q=>∃ l b xs zs,x=.ref l/\y=.ref b/\H l=some (.lst xs)/\H b=some (.lst zs)/\xs.length+zs.length<=sizeLine/\∀ p,H p=none->Q (.ref p) (upd H p (.lst (xs++zs)))
theorem op_cat:OpR X (binaryOp .Add) rCat:=by
 intro pins s σ H x y v u Q I rx ry h
 obtain⟨l,b,xs,zs,rfl,rfl,hH,hB,hz,q⟩:=h
 cases rx
 cases ry
 obtain⟨z,its,n,r,hl,e⟩:=I.lstM hH
 obtain⟨z2,its2,n2,r2,hl2,e2⟩:=I.lstM hB
 refine PySem.P.add_list e e2 ?_ (by rw[zcy8,zcy8];omega)
 have ea:its.toArray++its2.toArray=(its++its2).toArray:=by simp
 rw[ea]
 exact⟨.ref _,_,I.lnew (t':=s.toks) (r.append r2) (by rw[zcz8];omega),rfl,q _ I.fresh⟩
def rRep:R2:=fun x y H Q=>∃ l k xs,x=.ref l/\y=.int k/\H l=some (.lst xs)/\-(2 ^ 63)<=k/\k<2 ^ 63/\xs.length*k.toNat<=sizeLine /\
 ∀ p,H p=none->Q (.ref p) (upd H p (.lst (List.replicate k.toNat xs).flatten))
theorem zcm6 {α:Type}(xs:List α) (k:Nat):(List.replicate k xs).flatten.length=k*xs.length:=by
 induction k with
 | zero=>simp
 | succ k ih=>rw[zdf2,List.flatten_cons,zcz8,ih,Nat.succ_mul,Nat.add_comm]
theorem op_rep:OpR X (binaryOp .Mult) rRep:=by
 intro pins s σ H x y v u Q I rx ry h
 obtain⟨l,k,xs,rfl,rfl,hH,h1,h2,hz,q⟩:=h
 cases rx
 obtain⟨t,rfl⟩:=ry
 obtain⟨z,its,n,r,hl,e⟩:=I.lstM hH
 have hlen:its.toArray.size*k.toNat<=sizeLine:=by rw[zcy8,← hl];exact hz
 have hcap:¬ its.toArray.size*k.toNat>(2 ^ 63 - 1) / 8:=by
  have:(sizeLine:Nat)<=(2 ^ 63 - 1) / 8:=by decide
  omega
 have hfit:¬ (!Builtin.List.listFitsIndex k)=true:=by
  rw[fitsIndex_both h1 h2]
  exact zcz0
 have hlong:¬ Builtin.List.listTooLong (its.toArray.size*k.toNat)=true:=by
  rw[zbj3 hlen]
  exact zcz0
 have hnew:List.foldl (fun x1 x2=>x1++x2) #[] (List.replicate (if its.toArray.isEmpty=true then 0 else k.toNat) its.toArray)=(List.replicate k.toNat its).flatten.toArray:=by
  have f0:∀ m:Nat,List.foldl (fun x1 x2=>x1++x2) #[] (List.replicate m its.toArray)=(List.replicate m its).flatten.toArray:=fun m=>by
   have:=zay6 its m []
   rw[List.nil_append] at this
   exact this
  rw[f0]
  cases its with
  | nil=>simp
  | cons a r'=>rw[if_neg (by simp)]
 refine wpAny_binaryOp_repeat_ref (T:="list") (U:="int") (by decide) ⟨_,e,rfl⟩ (fun s'=>typeIs_int s' k t) noFill_list_mul F.fills_int_mul F.slot_int_rmul repeat_list F.slot_int_index.lookup
  (call_meets F.slot_int_rmul (typeIs_int s k t) F.entry_int_rmul (F.args_int_rmul_2 _ _) (int___rmul___int_list k t l its.toArray n)
   ⟨e,rfl,⟨_,e,rfl⟩,call_meets F.slot_list_mul ⟨_,e,rfl⟩ F.entry_list_mul (F.args_list_mul_2 _ _) (AutoListH.list___mul___list_int_3 l its.toArray n k t hfit hcap hlong) ⟨e,?_⟩⟩)
 rw[hnew]
 exact⟨.ref _,_,I.lnew (t':=s.toks) (r.rep k.toNat) (by rw[zcm6,Nat.mul_comm];exact hz),rfl,q _ I.fresh⟩
end
section
variable {prog:Program}{w:World}{A:Around}{E:Value->Shared->Prop}{s:Shared}
end
section
variable {X:Cx}
end
end L2
namespace Att
open PySem PySem.W PySem.Calls PyProof.Rows
theorem zak4 {P:Params}{h:Heap}:∀ (ns:List Int) (vs:List Value),WellAll P h vs (ns.map WData.int)->IntsAre vs ns:=by
 intro ns
 induction ns with
 | nil=>
  intro vs w
  rw[List.map_nil] at w
  cases w
  exact .nil
 | cons n ns ih=>
  intro vs w
  rw[zda7] at w
  cases w with
  | cons a b=>
   cases a
   exact .cons _ _ (ih _ b)
theorem zbp5 {l:OpenLaw}{n:Nat}(hn:l.most=some n) {P:Params}{h:Heap}{args:List WData}{vals:List Value}
  (hpre:l.row.toRowW.claim.pre args=true) (hwl:WellAll P h vals args) :
  ∃ a vs ns,vals=[Value.ref a]/\args=[WData.list (ns.map WData.int)]/\h.get? a=some { cls:=.type "list",data:=.seq vs.toArray }/\IntsAre vs ns/\ns.length<=n:=by
 have hsh:WShape.hasAll [] args [.list .int]=true:=(pre_splitW hpre).1
 have hc:l.pre.holds [] { args:=args }=true:=(pre_splitW hpre).2
 obtain⟨d,r,rfl,h1,h2⟩:=hasAllW_cons hsh
 obtain rfl:=hasAllW_nil h2
 obtain⟨xs,rfl,h3⟩:=hasW_list h1
 obtain⟨ns,rfl⟩:=items_int h3
 have hlen:ns.length<=n:=by
  unfold OpenLaw.pre at hc
  have h4:(WTm.not (.lt (.lit (.int (n:Int))) (.len (.arg 0)))).holds [] { args:=[.list (ns.map .int)] }=true:=by
   have h4:=(holds_andW hc).1
   rw[hn] at h4
   exact h4
  have h5:=condW_of h4 (w_not (w_lt w_lit (w_len_list (w_arg rfl))))
  rw[zcy0] at h5
  refine Nat.le_of_not_lt fun q=>?_
  have q':(n:Int)<((ns.length:Nat):Int):=by omega
  first
   | (rw[decide_eq_true q'] at h5;exact absurd h5 (by decide))
   | (simp at h5;omega)
 cases hwl with
 | cons w1 w2=>
  cases w2
  cases w1 with
  | list ho hall=>exact⟨_,_,ns,rfl,rfl,ho,zak4 ns _ hall,hlen⟩
theorem zbq9 (l:OpenLaw) (args:List WData):l.row.toRowW.claim.post args (.bool true) args=true:=
 postW_of (r:=l.row.toRowW) (X:=(true==true))
  (show WShape.has [] (.bool true) .bool=true by first|rfl|decide|simp[WShape.has,WShape.arms,WShape.armsAll])
  (show (WTm.eq .res (.lit (.bool true))).value [] { args:=args,res:=some (.bool true),after:=args }=some (.bool (true==true)) from w_eq_bool (w_res rfl) w_lit) rfl
theorem attach_call {l:OpenLaw}{n:Nat}{q:Program}{loose:List Str}{XP:(Str->Option Value)->Heap->Prop}{YP:World->Heap->Prop}{d:DefRec}
  (hn:l.most=some n) (hdf:d.params.defaults=[])
  (call:∀ (w:World) (s₀ s₁:Shared) (mg mb:Str->Option Value) (fa:Addr) (o:Obj) (pm cd doc:Value) (a:Addr) (vs:List Value) (ns:List Int),
   Ground q loose [] XP w s₀ mg mb s₁.heap->YP w s₁.heap ->
   s₁.heap.get? fa=some o->o.data=.func (docDef d.name d.params d.body d.scope pm cd doc)->s₁.heap.CodeRec cd d.name->mg d.name=some (.ref fa) ->
   s₁.heap.get? a=some { cls:=.type "list",data:=.seq vs.toArray }->IntsAre vs ns->ns.length<=n->s₁.gens=#[] ->
   codeAny (model l.prog w) callerA (.call (.ref fa) ⟨[.ref a],[]⟩) (fun r s'=>r=.ok (.ret (.bool true))/\OldK s₁.heap s'.heap/\s'.os=s₁.os/\AllBare s'.gens) s₁) :
  WalkO q loose XP YP l.row.toRowW d [] (fun f vs=>PySem.call f vs):=by
 intro w s₀ s₁ mg mb G Y fa o pm cd doc dV kV ho hd hcd hD hmg hg args vals as hpre hlay hrd hwl hlo
 obtain rfl:dV=.none:=Dflts.none hD hdf
 obtain rfl:kV=.none:=Dflts.noKw hD
 obtain⟨a,vs,ns,rfl,rfl,hobj,hints,hlen⟩:=zbp5 hn hpre hwl
 refine enter_call (codeAny_mono (call w s₀ s₁ mg mb fa o pm cd doc a vs ns G Y ho (fd_plain hd) hcd hmg hobj hints hlen hg) fun r s' hq=>?_)
 obtain⟨rfl,h2,h3,h4⟩:=hq
 exact⟨.inl ⟨.bool true,.bool true,[],rfl,fun _=>rfl,.bool true,zbq9 l _,fun _=>⟨List.Pairwise.nil,fun _ hm=>(nomatch hm)⟩⟩,h2,h3,h4⟩
section
variable {prog:Program}{w:World}{A:Around}{E:Value->Shared->Prop}{s:Shared}{K:Frag}
def ledger (h:Heap) (L d:Addr):List (Addr×Obj):=(List.range h.objs.size).filterMap fun a=>if a=L∨a=d then none else (h.get? a).map fun o=>(a,o)
end
end Att
namespace L2
open PySem PySem.Spec PyProof.Rows
theorem zay9:∀ {vs:List Value}{ns:List Int},IntsAre vs ns->Vals (ns.map V.int) vs
 | _,_,.nil=>.nil
 | _,_,.cons n t h=>.cons ⟨t,rfl⟩ (zay9 h)
def Only (H:Hp):Prop:=∀ b,H b=none∨∃ o xs,H b=some (.frz o (.lst xs))
theorem zce9 {P:Program}{w:World}{K:zcy1}{mg mb:Str->Option Value}{CX:CXT}{k:Nat}{fa a:Addr}{fd:FuncData}{x:Str}{sp:Sp}{s₁:Shared}{vs:List Value}{ns:List Int}
  (KX:K.In s₁.heap) (hns:s₁.heap.Ns mainGlobals mg) (hb:s₁.heap.Ns builtinsNs mb) (hbb:∀ x:Str,x≠"__name__"->mb x=bootBuiltins x) (hlim:s₁.heap.NoLimit) (hg:s₁.gens=#[])
  (ha:s₁.heap.get? a=some { cls:=.type "list",data:=.seq vs.toArray }) (hi:IntsAre vs ns) (hl:ns.length<=sizeLine) (hr:Room k callerA)
  (F:∀ base:Heap,K.In base->base.Ns mainGlobals mg->FnOk P w K mg base CX k fa fd [x] sp) (hbind:∀ (s:Shared) (u:Value),BindsTo s fd ⟨[u],[]⟩ [(x,u)])
  (hsp:∀ H:Hp,Only H->SqL K H a (ns.map V.int)->sp [.ref a] H (fun v _=>v=.bl true) fun _ _ _=>False)
  (hCX:∀ H e s',CX [] H s₁ (fun _ _ _=>False) e s'->False) :
  codeAny (model P w) callerA (.call (.ref fa) ⟨[.ref a],[]⟩) (fun r s'=>r=.ok (.ret (.bool true))/\OldK s₁.heap s'.heap/\s'.os=s₁.os/\AllBare s'.gens) s₁:=by
 have rv:=zay9 hi
 have lenV:=hi.length
 have core:∀ H:Hp,Only H->SqL K H a (ns.map V.int)->HOk P w H s₁.heap->(∀ b,H b≠none->b=a)->(H a≠none->K.lookup a=none) ->
   codeAny (model P w) callerA (.call (.ref fa) ⟨[.ref a],[]⟩) (fun r s'=>r=.ok (.ret (.bool true))/\OldK s₁.heap s'.heap/\s'.os=s₁.os/\AllBare s'.gens) s₁:=by
  intro H hO hS hok hA hK
  have base_of:∀ {b:Addr}{o:Obj},s₁.heap.get? b=some o->H b=none->(hidT s₁.heap H).get? b=some o:=fun e n=>zcc7 e n
  have noA:∀ {b:Addr}{o:Obj}{es:Array DictEntry}{ep:Nat},s₁.heap.get? b=some o->o.data=.dict es ep->H b=none:=fun {b o es ep} e d=>by
   cases q:H b with
   | none=>rfl
   | some u=>
    have e':b=a:=hA b (by rw[q];simp)
    subst e'
    rw[ha] at e;cases e
    have d':Data.seq vs.toArray _=Data.dict es ep:=d
    cases d'
  have nsK:∀ {b:Addr}{m:Str->Option Value},s₁.heap.Ns b m->(hidT s₁.heap H).Ns b m:=fun {b m} ⟨o,es,ep,e,d,r⟩=>⟨o,es,ep,base_of e (noA e d),d,r⟩
  have hKb:K.In (hidT s₁.heap H):=fun b o e=>base_of (KX b o e) (by
   cases q:H b with
   | none=>rfl
   | some u=>
    have e':b=a:=hA b (by rw[q];simp)
    subst e'
    rw[hK (by rw[q];simp)] at e;cases e)
  have hM:Mod K mg (hidT s₁.heap H):=⟨hKb,nsK hns,⟨mb,nsK hb,hbb⟩,let ⟨mc,h1,h2⟩:=hlim;⟨mc,nsK h1,h2⟩⟩
  have e0:Env0 P w K mg (hidT s₁.heap H) callerA [] s₁ H:=⟨rfl,hM,fun b o e=>zcn5 e,Nat.le_of_eq (zbq4 _ _),trivial,fun b hb=>absurd (show b∈([]:List Addr) from hb) (by simp),hok,.of_eq hg⟩
  refine codeAny_mono ((F _ hKb (nsK hns)).run callerA [] s₁ H ⟨[.ref a],[]⟩ [.ref a] [.ref a] _ _ hr e0 (hbind s₁ (.ref a)) (.cons rfl .nil) (hsp H hO hS)) fun r s' h=>?_
  cases r with
  | error e=>exact (hCX H e s' h).elim
  | ok fl=>
   cases fl with
   | next=>exact False.elim h
   | brk=>exact False.elim h
   | cont=>exact False.elim h
   | ret u=>
    obtain⟨v,H',os,bare,un,hok',r',q⟩:=h
    have q':v=.bl true:=q
    subst q'
    obtain rfl:u=Value.bool true:=r'
    refine⟨rfl,OldK.of_keep fun b o e=>?_,os,bare⟩
    cases q:H b with
    | none=>exact un.keep b o e q (by intro z;exact absurd (show b∈([]:List Addr) from z) (by simp)) (by simp)
    | some u=>
     rcases hO b with z|⟨ob,xs,z⟩
     ·rw[q] at z;cases z
     ·have z2:=un.frzs b ob _ z
      obtain⟨e1,_⟩:=hok b _ z
      obtain⟨e2,_⟩:=hok' b _ z2
      rw[e] at e1;cases e1
      exact e2
 cases hk:K.lookup a with
 | some o=>
  have e:=KX a o hk
  rw[ha] at e
  cases e
  refine core (fun _=>none) (fun _=>.inl rfl) (.inr ⟨_,vs.toArray,_,hk,rfl,rfl,rfl,by rw[zcy8,lenV];exact hl,by simpa using rv⟩) (fun b u z=>by have z':(none:Option HO)=some u:=z;cases z') (fun b z=>absurd rfl z) fun z=>absurd rfl z
 | none=>
  refine core (fun b=>if b=a then some (.frz { cls:=.type "list",data:=.seq vs.toArray } (.lst (ns.map V.int))) else none) (fun b=>?_) (.inl (.inr ⟨{ cls:=.type "list",data:=.seq vs.toArray },if_pos rfl⟩)) (fun b u z=>?_) (fun b z=>?_) fun _=>hk
  ·by_cases hb:b=a
   ·exact .inr ⟨_,_,if_pos hb⟩
   ·exact .inl (if_neg hb)
  ·by_cases hb:b=a
   ·have z':=(if_pos hb).symm.trans z
    cases z'
    subst hb
    exact⟨ha,by rw[zcy0];exact hl,vs,_,rv,ha⟩
   ·have z':=(if_neg hb).symm.trans z
    cases z'
  ·by_cases hb:b=a
   ·exact hb
   ·exact absurd (if_neg hb) z
end L2
namespace L2
open PySem PySem.Spec PyProof.Rows
theorem walk_of {l:PySem.W.OpenLaw}{n k:Nat}{q:Program}{loose:List Str}{XP:(Str->Option Value)->Heap->Prop}{YP:World->Heap->Prop}{d:DefRec}{K:Params->zcy1}{CX:World->CXT}{sp:World->Sp}{x:Str}
  (hn:l.most=some n) (hn2:n<=sizeLine) (hdf:d.params.defaults=[]) (hr:Room k callerA)
  (hY:∀ (w:World) (h:Heap),YP w h->(K w.params).In h)
  (F:∀ (w:World) (mg:Str->Option Value) (fa:Addr) (h:Heap),(K w.params).In h->h.Ns mainGlobals mg->mg d.name=some (.ref fa) ->
   ∃ fd:FuncData,(∀ (s:Shared) (u:Value),BindsTo s fd ⟨[u],[]⟩ [(x,u)]) /\
    ∀ base:Heap,(K w.params).In base->base.Ns mainGlobals mg->FnOk l.prog w (K w.params) mg base (CX w) k fa fd [x] (sp w))
  (hsp:∀ (w:World) (H:Hp) (a:Addr) (ns:List Int),ns.length<=n->Only H->SqL (K w.params) H a (ns.map V.int)->sp w [.ref a] H (fun v _=>v=.bl true) fun _ _ _=>False)
  (hCX:∀ (w:World) (H:Hp) (s:Shared) (e:Value) (s':Shared),CX w [] H s (fun _ _ _=>False) e s'->False) :
  PySem.W.WalkO q loose XP YP l.row.toRowW d [] (fun f vs=>PySem.call f vs):=by
 refine Att.attach_call hn hdf fun w s₀ s₁ mg mb fa o pm cd doc a vs ns G Y ho hd hcd hmg hobj hints hlen hg=>?_
 have KX:=hY w _ Y
 obtain⟨fd,hb,hF⟩:=F w mg fa _ KX G.T.g hmg
 exact zce9 KX G.T.g G.T.b G.T.builtins G.T.nolimit hg hobj hints (zdb4 hlen hn2) hr hF hb (fun H hO hS=>hsp w H a ns hlen hO hS) fun H e s'=>hCX w H s₁ e s'
end L2
namespace L2
open PySem PySem.Spec PyProof.Rows
def zb1 (s:Stmt):Arguments:=match s with
 | .FunctionDef _ a _ _ _ _ _ _ _ _=>a
 | _=>{ posonlyargs:=[],args:=[],vararg:=none,kwonlyargs:=[],kw_defaults:=[],kwarg:=none,defaults:=[] }
def zb0 (s:Stmt):List Stmt:=match s with
 | .FunctionDef _ _ b _ _ _ _ _ _ _=>b
 | _=>[]
def za4 (s:Stmt):Scope:=match s with
 | .FunctionDef _ _ _ _ _ _ sc _ _ _=>sc
 | _=>{ kind:=.function,names:=[],isGenerator:=false,isCoroutine:=false }
abbrev CX0:CXT:=fun _ _ _ _ _ _=>False
abbrev E0:XK:=fun _ _ _=>False
theorem zb5 {X:Cx}:zbi8 CX0 X E0:=fun _ _ _ _ _ _ _ h=>h.elim
structure Fun (K:zcy1) (x qual:Str) (st:Stmt) (f:Addr) (fd:FuncData):Prop where
 ex:∃ (oc:Value) (od:Option Addr) (kV doc pm:Value) (an:Option Addr) (cdv ct:Value) (osl:Array (Option Value)),
  fd=zcz4 x qual (zb1 st) (zb0 st) (za4 st) .none kV doc pm an cdv ct/\K.lookup f=some ⟨oc,od,.func fd,osl⟩/\zcz1 K cdv qual=true
 kp:zcy9 K (.ref f)=true
section
variable {P:Program}{w:World}{K:zcy1}{mg:Str->Option Value}{base:Heap}
theorem Fun.ok {x qual:Str}{st:Stmt}{f:Addr}{fd:FuncData}{N ps:List Str}{k:Nat}{sp:Sp}(F:Fun K x qual st f fd) (S:zb3 N ps (za4 st)) (len:∀ vs H Q E,sp vs H Q E->vs.length=ps.length)
  (hbody:∀ (cdv:Value) (A:Around) (outer:List Env) (s:Shared) (H:Hp) (vs:List V) (Q:VK) (E:XK),Room k (A.deeper (envOfC qual (za4 st) s.heap.objs.size f cdv))->sp vs H Q E ->
   ∃ t,PSs (cxOf CX0 P w K mg base N qual (za4 st) f cdv A outer s H E).nox (zb0 st) t/\t { nx:=fun _ H'=>Q .non H',rt:=Q } (zaw0 N vs) H):FnOk P w K mg base CX0 (k+1) f fd ps sp:=by
 obtain⟨oc,od,kV,doc,pm,an,cdv,ct,osl,rfl,lk,hcd⟩:=F.ex
 refine fn_of lk hcd S len fun A outer s H vs Q E hr hsp=>?_
 obtain⟨t,h,q⟩:=hbody cdv A outer s H vs Q E hr hsp
 exact⟨t,h.nox,q⟩
theorem Fun.binds {x qual:Str}{st:Stmt}{f:Addr}{fd:FuncData}{ps:List Str}(F:Fun K x qual st f fd)
  (h:∀ (kV doc pm:Value) (an:Option Addr) (cdv ct:Value) (us:List Value),us.length=ps.length->bindArgs (zcz4 x qual (zb1 st) (zb0 st) (za4 st) .none kV doc pm an cdv ct) ⟨us,[]⟩=pure (ps.zip us)):zam6 K fd ps []:=by
 obtain⟨oc,od,kV,doc,pm,an,cdv,ct,osl,rfl,lk,hcd⟩:=F.ex
 exact .all (h kV doc pm an cdv ct)
theorem zc0 {x qual:Str}{st:Stmt}{f:Addr}{oc:Value}{od an:Option Addr}{osl:Array (Option Value)}{kV doc pm cdv ct:Value}(l:K.lookup f=some ⟨oc,od,.func (zcz4 x qual (zb1 st) (zb0 st) (za4 st) .none kV doc pm an cdv ct),osl⟩)
  (c:zcz1 K cdv qual=true) (k:zcy9 K (.ref f)=true):Fun K x qual st f (zcz4 x qual (zb1 st) (zb0 st) (za4 st) .none kV doc pm an cdv ct):=⟨⟨oc,od,kV,doc,pm,an,cdv,ct,osl,rfl,l,c⟩,k⟩
end
section
variable {X:Cx}
end
theorem iteF {A B:Prop}(h:B):if false=true then A else B:=by
 rw[if_neg zcz0]
 exact h
theorem iteT {A B:Prop}(h:A):if true=true then A else B:=by
 rw[if_pos rfl]
 exact h
theorem ite2 {c A B:Prop}[Decidable c] (h1:c->A) (h2:¬ c->B):if c then A else B:=by
 by_cases h:c
 ·rw[if_pos h]
  exact h1 h
 ·rw[if_neg h]
  exact h2 h
def Same (H H':Hp):Prop:=∀ b o,H b=some o->H' b=some o
theorem Same.refl (H:Hp):Same H H:=fun _ _ h=>h
theorem Same.trans {H H1 H2:Hp}(a:Same H H1) (b:Same H1 H2):Same H H2:=fun c o h=>b c o (a c o h)
theorem Same.free {H H':Hp}(e:Same H H') {l:Addr}(h:H' l=Option.none):H l=Option.none:=by
 cases q:H l with
 | none=>rfl
 | some o=>
  rw[e l o q] at h
  cases h
theorem Same.seq {K:zcy1}{H H':Hp}{a:Addr}{xs:List V}(e:Same H H') (h:SqL K H a xs):SqL K H' a xs:=by
 rcases h with (h|⟨o,h⟩)|h
 ·exact .inl (.inl (e _ _ h))
 ·exact .inl (.inr ⟨o,e _ _ h⟩)
 ·exact .inr h
end L2
set_option maxHeartbeats 1000000
namespace L2
open PySem PySem.Spec PyProof.Rows
@[irreducible] def br (c:Bool) (A B:Prop):Prop:=if c=true then A else B
section
variable {A B p:Prop}{c:Bool}
theorem zaj9:br c A B=(if c=true then A else B):=by unfold br;rfl
theorem br_T (h:A):br true A B:=by unfold br;exact iteT h
theorem br_F (h:B):br false A B:=by unfold br;exact iteF h
theorem br_any (h1:c=true->A) (h2:c=false->B):br c A B:=by
 cases c with
 | true=>exact br_T (h1 rfl)
 | false=>exact br_F (h2 rfl)
theorem zp5 [Decidable p] (h1:p->A) (h2:¬ p->B):br (decide p) A B:=br_any (fun h=>h1 (of_decide_eq_true h)) fun h=>h2 (of_decide_eq_false h)
theorem zl3 [Decidable p] (hp:p) (h:A):br (decide p) A B:=zp5 (fun _=>h) fun n=>absurd hp n
theorem zw6 [Decidable p] (hp:¬ p) (h:B):br (decide p) A B:=zp5 (fun n=>absurd n hp) fun _=>h
theorem zd2 (h:br c B A):br (!c) A B:=by
 cases c with
 | true=>unfold br at h ⊢;simpa using h
 | false=>unfold br at h ⊢;simpa using h
end
def Chg (a:Addr) (H H':Hp):Prop:=∀ b o,b≠a->H b=some o->H' b=some o
theorem Chg.upd {H:Hp}{a:Addr}{o:HO}:Chg a H (upd H a o):=fun b u hb e=>by rw[zc9 hb];exact e
theorem Same.upd {H:Hp}{a:Addr}{o:HO}(h:H a=none):Same H (L2.upd H a o):=fun b u e=>by rw[zc9 (zb2 e h)];exact e
theorem Same.chg {H0 H H':Hp}{a:Addr}(s:Same H0 H) (n:H0 a=none) (c:Chg a H H'):Same H0 H':=fun b o e=>c b o (zb2 e n) (s b o e)
theorem Chg.refl (a:Addr) (H:Hp):Chg a H H:=fun _ _ _ e=>e
theorem Chg.trans {H H1 H2:Hp}{a:Addr}(x:Chg a H H1) (y:Chg a H1 H2):Chg a H H2:=fun b o h e=>y b o h (x b o h e)
theorem Chg.same {H H1 H2:Hp}{a:Addr}(x:Chg a H H1) (y:Same H1 H2):Chg a H H2:=fun b o h e=>y b o (x b o h e)
theorem Same.at {H H':Hp}{b:Addr}{o:HO}(s:Same H H') (e:H b=some o):H' b=some o:=s b o e
theorem Chg.at {H H':Hp}{a b:Addr}{o:HO}(s:Chg a H H') (e:H b=some o) (n:b≠a):H' b=some o:=s b o n e
def qV (i:Nat):TE:=fun σ H Q=>match σ[i]? with
 | some (some v)=>Q v H
 | _=>False
section
variable {X:Cx}
theorem pq (i:Nat) {x:Str}{pos:Pos}(hN:X.N[i]?=some x:=by rfl) (hv:Vis X.env.scope x:=by first|exact Or.inl rfl|exact Or.inr (Or.inl rfl)|exact Or.inr (Or.inr rfl)) (hd:(x==("__debug__":Str))=false:=by decide)
  (hcd:(x==("__classdict__":Str))=false:=by decide):PE X (.Name x pos) (qV i):=fun pins s σ H Q I h=>by
 refine pe_var hN hv hd hcd pins s σ H Q I ?_
 unfold qV at h
 split at h
 ·rename_i v e
  exact⟨v,e,h⟩
 ·exact h.elim
@[irreducible] def zbm8 (i j:Int) (H:Hp) (Q:VK):Prop:=IntMulOk i j/\Q (.int (i*j)) H
@[irreducible] def zbn8 (i j:Int) (H:Hp) (Q:VK):Prop:=(j≠0/\j.natAbs.log2<9000)/\Q (.int (i.fdiv j)) H
@[irreducible] def zbt1 (i j:Int) (H:Hp) (Q:VK):Prop:=j≠0/\Q (.int (i.fmod j)) H
@[irreducible] def rPowI (i j:Int) (H:Hp) (Q:VK):Prop:=CPow i j/\Q (.int (i ^ j.toNat)) H
@[irreducible] def rCatL (a b:Addr) (H:Hp) (Q:VK):Prop:=∃ xs zs,H a=some (.lst xs)/\H b=some (.lst zs)/\xs.length+zs.length<=sizeLine /\
 ∀ p H',H p=none->Same H H'->H' p=some (.lst (xs++zs))->Q (.ref p) H'
@[irreducible] def rRepL (a:Addr) (k:Int) (H:Hp) (Q:VK):Prop:=∃ xs,H a=some (.lst xs)/\-(2 ^ 63)<=k/\k<2 ^ 63/\xs.length*k.toNat<=sizeLine /\
 ∀ p H',H p=none->Same H H'->H' p=some (.lst (List.replicate k.toNat xs).flatten)->Q (.ref p) H'
def rAddM:R2:=fun x y H Q=>match x,y with
 | .int i,.int j=>Q (.int (i+j)) H
 | .ref a,.ref b=>rCatL a b H Q
 | .str a,.str b=>a.length+b.length<=sizeLine/\Q (.str (a++b)) H
 | _,_=>False
def rSubM:R2:=fun x y H Q=>match x,y with
 | .int i,.int j=>Q (.int (i - j)) H
 | _,_=>False
def rMulM:R2:=fun x y H Q=>match x,y with
 | .int i,.int j=>zbm8 i j H Q
 | .ref a,.int k=>rRepL a k H Q
 | _,_=>False
def rDivM:R2:=fun x y H Q=>match x,y with
 | .int i,.int j=>zbn8 i j H Q
 | _,_=>False
def rModM:R2:=fun x y H Q=>match x,y with
 | .int i,.int j=>zbt1 i j H Q
 | _,_=>False
def rPowM:R2:=fun x y H Q=>match x,y with
 | .int i,.int j=>rPowI i j H Q
 | _,_=>False
theorem oAdd:OpR X (binaryOp .Add) rAddM:=by
 intro pins s σ H x y v u Q I rx ry h
 unfold rAddM at h
 split at h
 ·exact op_add pins s σ H _ _ v u Q I rx ry ⟨_,_,rfl,rfl,h⟩
 ·unfold rCatL at h
  obtain⟨xs,zs,h1,h2,h3,h4⟩:=h
  exact op_cat pins s σ H _ _ v u Q I rx ry ⟨_,_,xs,zs,rfl,rfl,h1,h2,h3,fun p hp=>h4 p _ hp (Same.upd hp) zc4⟩
 ·exact zbm2 pins s σ H _ _ v u Q I rx ry ⟨_,_,rfl,rfl,h.1,h.2⟩
 ·exact h.elim
theorem oSub:OpR X (binaryOp .Sub) rSubM:=by
 intro pins s σ H x y v u Q I rx ry h
 unfold rSubM at h
 split at h
 ·exact op_sub pins s σ H _ _ v u Q I rx ry ⟨_,_,rfl,rfl,h⟩
 ·exact h.elim
theorem oMul:OpR X (binaryOp .Mult) rMulM:=by
 intro pins s σ H x y v u Q I rx ry h
 unfold rMulM at h
 split at h
 ·unfold zbm8 at h
  obtain⟨t,rfl⟩:=rx
  obtain⟨t',rfl⟩:=ry
  exact mul_int ⟨.int _,H,I.tok _,⟨_,rfl⟩,h.2⟩ h.1
 ·unfold rRepL at h
  obtain⟨xs,h1,h2,h3,h4,h5⟩:=h
  exact op_rep pins s σ H _ _ v u Q I rx ry ⟨_,_,xs,rfl,rfl,h1,h2,h3,h4,fun p hp=>h5 p _ hp (Same.upd hp) zc4⟩
 ·exact h.elim
theorem oDiv:OpR X (binaryOp .FloorDiv) rDivM:=by
 intro pins s σ H x y v u Q I rx ry h
 unfold rDivM at h
 split at h
 ·unfold zbn8 at h
  obtain⟨⟨h1,h2⟩,h3⟩:=h
  obtain⟨t,rfl⟩:=rx
  obtain⟨t',rfl⟩:=ry
  exact floordiv_int h1 ⟨.int _,H,I.tok _,⟨_,rfl⟩,h3⟩ (.inl (PyProof.noPylong_of_log2 h2))
 ·exact h.elim
theorem oMod:OpR X (binaryOp .Mod) rModM:=by
 intro pins s σ H x y v u Q I rx ry h
 unfold rModM at h
 split at h
 ·unfold zbt1 at h
  exact zcr7 pins s σ H _ _ v u Q I rx ry ⟨_,_,rfl,rfl,h.1,h.2⟩
 ·exact h.elim
theorem oPow:OpR X (binaryOp .Pow) rPowM:=by
 intro pins s σ H x y v u Q I rx ry h
 unfold rPowM at h
 split at h
 ·unfold rPowI at h
  exact op_pow pins s σ H _ _ v u Q I rx ry ⟨_,_,rfl,rfl,h.1,h.2⟩
 ·exact h.elim
def rNegM:V->Hp->VK->Prop:=fun x H Q=>match x with
 | .int i=>Q (.int (-i)) H
 | _=>False
theorem uNeg:UnR X (unaryOp .USub) rNegM:=by
 intro pins s σ H x v Q I rx h
 unfold rNegM at h
 split at h
 ·exact un_neg pins s σ H _ v Q I rx ⟨_,rfl,h⟩
 ·exact h.elim
section
variable {i j:Int}{H:Hp}{Q:VK}
theorem zw9 (h:IntMulOk i j) (q:Q (.int (i*j)) H):zbm8 i j H Q:=by unfold zbm8;exact⟨h,q⟩
theorem log2_lt {n k:Nat}(h:n<2 ^ k) (hk:0<k):n.log2<k:=by
 by_cases h0:n=0
 ·subst h0;simpa using hk
 ·exact (Nat.log2_lt h0).mpr h
theorem zbe3 {j:Int}(h1:-(10 ^ 240)<j) (h2:j<10 ^ 240):j.natAbs<2 ^ 2000:=by
 have e:(10:Int) ^ 240=((10 ^ 240:Nat):Int):=by norm_cast
 have e2:(10:Nat) ^ 240<2 ^ 2000:=by decide +kernel
 rw[e] at h1 h2
 generalize hN:(10:Nat) ^ 240=N at h1 h2 e2
 generalize hM:(2:Nat) ^ 2000=M at e2
 omega
theorem zz2 (h1:-(10 ^ 240)<i) (h2:i<10 ^ 240) (h3:-(10 ^ 240)<j) (h4:j<10 ^ 240):IntMulOk i j:=by
 have f:∀ {k:Int},-(10 ^ 240)<k->k<10 ^ 240->Builtin.Int.intBits k<=2 ^ 20:=fun {k} a b=>by
  have h:=log2_lt (zbe3 a b) (by decide)
  unfold Builtin.Int.intBits
  have e:(2:Nat) ^ 20=1048576:=by decide
  rw[e]
  split<;>omega
 exact .of_bits (f h1 h2) (f h3 h4)
theorem zx7 (h1:0<j) (h2:j<10 ^ 240) (q:Q (.int (i / j)) H):zbn8 i j H Q:=by
 unfold zbn8
 refine⟨⟨by omega,?_⟩,?_⟩
 ·have h:=log2_lt (zbe3 (j:=j) (by have:(0:Int)<10 ^ 240:=(by decide +kernel);generalize (10:Int) ^ 240=N at this;omega) h2) (by decide)
  omega
 ·rw[Int.fdiv_eq_ediv_of_nonneg _ (by omega)];exact q
theorem zaf1 (h0:j≠0) (h1:-(10 ^ 240)<j) (h2:j<10 ^ 240) (q:Q (.int (i.fdiv j)) H):zbn8 i j H Q:=by
 unfold zbn8
 refine⟨⟨h0,?_⟩,q⟩
 have h:=log2_lt (zbe3 h1 h2) (by decide)
 omega
theorem zaa5 (h1:0<j) (q:Q (.int (i % j)) H):zbt1 i j H Q:=by
 unfold zbt1
 refine⟨by omega,?_⟩
 rw[Int.fmod_eq_emod_of_nonneg _ (by omega)];exact q
theorem zck1 (h:CPow i j) (q:Q (.int (i ^ j.toNat)) H):rPowI i j H Q:=by unfold rPowI;exact⟨h,q⟩
theorem zbo5 {a b:Addr}{xs zs:List V}(h1:H a=some (.lst xs)) (h2:H b=some (.lst zs)) (h3:xs.length+zs.length<=sizeLine)
  (q:∀ p H',H p=none->Same H H'->H' p=some (.lst (xs++zs))->Q (.ref p) H'):rCatL a b H Q:=by unfold rCatL;exact⟨xs,zs,h1,h2,h3,q⟩
end
def rLtM:R2:=fun x y H Q=>match x,y with
 | .int i,.int j=>Q (.bl (decide (i<j))) H
 | _,_=>False
def rLeM:R2:=fun x y H Q=>match x,y with
 | .int i,.int j=>Q (.bl (decide (i<=j))) H
 | _,_=>False
def rGtM:R2:=fun x y H Q=>match x,y with
 | .int i,.int j=>Q (.bl (decide (j<i))) H
 | _,_=>False
def rGeM:R2:=fun x y H Q=>match x,y with
 | .int i,.int j=>Q (.bl (decide (j<=i))) H
 | _,_=>False
theorem oLt:OpR X (compareOp .Lt) rLtM:=by
 intro pins s σ H x y v u Q I rx ry h
 unfold rLtM at h
 split at h
 ·exact op_lt pins s σ H _ _ v u Q I rx ry ⟨_,_,rfl,rfl,h⟩
 ·exact h.elim
theorem oLe:OpR X (compareOp .LtE) rLeM:=by
 intro pins s σ H x y v u Q I rx ry h
 unfold rLeM at h
 split at h
 ·exact op_le pins s σ H _ _ v u Q I rx ry ⟨_,_,rfl,rfl,h⟩
 ·exact h.elim
theorem oGt:OpR X (compareOp .Gt) rGtM:=by
 intro pins s σ H x y v u Q I rx ry h
 unfold rGtM at h
 split at h
 ·exact op_gt pins s σ H _ _ v u Q I rx ry ⟨_,_,rfl,rfl,h⟩
 ·exact h.elim
theorem oGe:OpR X (compareOp .GtE) rGeM:=by
 intro pins s σ H x y v u Q I rx ry h
 unfold rGeM at h
 split at h
 ·exact op_ge pins s σ H _ _ v u Q I rx ry ⟨_,_,rfl,rfl,h⟩
 ·exact h.elim
inductive EqR (K:zcy1) (H:Hp):Nat->V->V->Bool->Prop where
 | flat {n:Nat}{x y:V}(fx:zu0 x=true) (fy:zu0 y=true):EqR K H n x y (eqV x y)
 | tup {n:Nat}{a b:Addr}{xs ys:List V}(e:Nat->Bool) (ha:SqT K H a xs) (hb:SqT K H b ys) (h:∀ (j:Nat) (x y:V),xs[j]?=some x->ys[j]?=some y->EqR K H n x y (e j)) :
   EqR K H (n+1) (.ref a) (.ref b) ((List.range (min xs.length ys.length)).all e&&xs.length==ys.length)
 | lst {n:Nat}{a b:Addr}{xs ys:List V}(e:Nat->Bool) (ha:SqL K H a xs) (hb:SqL K H b ys) (hl:xs.length=ys.length) (h:∀ (j:Nat) (x y:V),xs[j]?=some x->ys[j]?=some y->EqR K H n x y (e j)) :
   EqR K H (n+1) (.ref a) (.ref b) ((List.range xs.length).all e)
 | lstN {n:Nat}{a b:Addr}{xs ys:List V}(ha:SqL K H a xs) (hb:SqL K H b ys) (hl:xs.length≠ys.length):EqR K H (n+1) (.ref a) (.ref b) false
theorem zbk4 {x:V}(f:zu0 x=true):eqV x x=true:=by
 cases x<;>first|rfl|(simp[eqV];done)|exact absurd (show false=true from f) zcz0
section
variable {pins:List (Addr×Obj)}{σ:St}{H:Hp}{s:Shared}
theorem EqR.self (I:Inv X pins σ H s) {n:Nat}{x y:V}{b:Bool}(h:EqR X.K H n x y b):x=y->b=true:=by
 induction h with
 | flat fx fy=>rintro rfl;exact zbk4 fx
 | tup e ha hb h ih=>
  intro q
  cases q
  have q:=I.tuple_inj ha hb
  subst q
  rw[Nat.min_self,zdb3]
  refine⟨zda9.mpr fun j hj=>?_,by simp⟩
  have hj:=zdc0.mp hj
  exact ih j _ _ (zcx9 hj) (zcx9 hj) rfl
 | lst e ha hb hl h ih=>
  intro q
  cases q
  have q:=I.list_inj ha hb
  subst q
  refine zda9.mpr fun j hj=>?_
  have hj:=zdc0.mp hj
  exact ih j _ _ (zcx9 hj) (zcx9 hj) rfl
 | lstN ha hb hl=>
  intro q
  cases q
  exact absurd (congrArg List.length (I.list_inj ha hb)) hl
theorem zt6 (A:Around):A.in1.units=A.units+1:=rfl
mutual
theorem EqR.at (I:Inv X pins σ H s):∀ {n:Nat}{x y:V}{b:Bool},EqR X.K H n x y b->∀ {u v:Value}{A:Around},RelV x u->RelV y v->A.units+n<cLine->SeqAt.EqAt A s u v b
 | _,_,_,_,.flat fx fy,u,v,A,rx,ry,_=>zbx6 rx ry fx fy
 | _,.ref a,.ref b,_,h,u,v,A,rx,ry,hu=>by
  cases rx
  cases ry
  by_cases e:a=b
  ·subst e
   rw[h.self I rfl]
   exact SeqAt.EqAt.same _
  ·exact SeqAt.EqAt.of_refs e (EqR.rc I h hu)
theorem EqR.rc (I:Inv X pins σ H s):∀ {n:Nat}{a b:Addr}{c:Bool},EqR X.K H n (.ref a) (.ref b) c->∀ {A:Around},A.units+n<cLine->SeqAt.RcAt A s (.ref a) (.ref b) c
 | _,_,_,_,.flat fx _,_,_=>absurd (show false=true from fx) zcz0
 | _,a,b,_,.tup (xs:=xs) (ys:=ys) e ha hb h,A,hu=>by
  obtain⟨its,r1,t1,z1⟩:=I.tuple ha
  obtain⟨its2,r2,t2,z2⟩:=I.tuple hb
  have l1:its.toArray.size=xs.length:=by rw[zcy8];exact r1.length.symm
  have l2:its2.toArray.size=ys.length:=by rw[zcy8];exact r2.length.symm
  have q:=SeqAt.RcAt.tuples (A:=A) (e:=e) t1 t2 (by omega) fun j h1 h2=>by
   rw[l1] at h1
   rw[l2] at h2
   obtain⟨u1,e1,q1⟩:=r1.get (zcx9 h1)
   obtain⟨u2,e2,q2⟩:=r2.get (zcx9 h2)
   have i1:its.toArray[j]=u1:=by
    have:=(zcy4.mp e1).2
    simpa using this
   have i2:its2.toArray[j]=u2:=by
    have:=(zcy4.mp e2).2
    simpa using this
   rw[i1,i2]
   exact EqR.at I (h j _ _ (zcx9 h1) (zcx9 h2)) q1 q2 (by rw[zt6];omega)
  rw[l1,l2] at q
  exact q
 | _,a,b,_,.lst (xs:=xs) (ys:=ys) e ha hb hl h,A,hu=>by
  obtain⟨its,r1,t1,z1⟩:=I.list ha
  obtain⟨its2,r2,t2,z2⟩:=I.list hb
  have l1:its.toArray.size=xs.length:=by rw[zcy8];exact r1.length.symm
  have l2:its2.toArray.size=ys.length:=by rw[zcy8];exact r2.length.symm
  have q:=SeqAt.RcAt.lists (A:=A) (e:=e) t1.isList t2.isList (by rw[l1,l2];exact hl) (by omega) fun j h1 h2=>by
   rw[l1] at h1
   rw[l2] at h2
   obtain⟨u1,e1,q1⟩:=r1.get (zcx9 h1)
   obtain⟨u2,e2,q2⟩:=r2.get (zcx9 h2)
   have i1:its.toArray[j]=u1:=by
    have:=(zcy4.mp e1).2
    simpa using this
   have i2:its2.toArray[j]=u2:=by
    have:=(zcy4.mp e2).2
    simpa using this
   rw[i1,i2]
   exact EqR.at I (h j _ _ (zcx9 h1) (zcx9 h2)) q1 q2 (by rw[zt6];omega)
  rw[l1] at q
  exact q
 | _,a,b,_,.lstN (xs:=xs) (ys:=ys) ha hb hl,A,hu=>by
  obtain⟨its,r1,t1,z1⟩:=I.list ha
  obtain⟨its2,r2,t2,z2⟩:=I.list hb
  have l1:its.toArray.size=xs.length:=by rw[zcy8];exact r1.length.symm
  have l2:its2.toArray.size=ys.length:=by rw[zcy8];exact r2.length.symm
  exact SeqAt.RcAt.lists_lengths t1.isList t2.isList (by rw[l1,l2];simpa using hl) (by omega)
end
theorem EqR.rcNe (I:Inv X pins σ H s):∀ {n:Nat}{a b:Addr}{c:Bool},EqR X.K H n (.ref a) (.ref b) c->∀ {A:Around},A.units+n<cLine->SeqAt.RcNeAt A s (.ref a) (.ref b) (!c)
 | _,_,_,_,.flat fx _,_,_=>absurd (show false=true from fx) zcz0
 | _,a,b,_,.tup (xs:=xs) (ys:=ys) e ha hb h,A,hu=>by
  obtain⟨its,r1,t1,z1⟩:=I.tuple ha
  obtain⟨its2,r2,t2,z2⟩:=I.tuple hb
  have l1:its.toArray.size=xs.length:=by rw[zcy8];exact r1.length.symm
  have l2:its2.toArray.size=ys.length:=by rw[zcy8];exact r2.length.symm
  have q:=SeqAt.RcNeAt.tuples (A:=A) (e:=e) t1 t2 (by omega) fun j h1 h2=>by
   rw[l1] at h1
   rw[l2] at h2
   obtain⟨u1,e1,q1⟩:=r1.get (zcx9 h1)
   obtain⟨u2,e2,q2⟩:=r2.get (zcx9 h2)
   have i1:its.toArray[j]=u1:=by
    have:=(zcy4.mp e1).2
    simpa using this
   have i2:its2.toArray[j]=u2:=by
    have:=(zcy4.mp e2).2
    simpa using this
   rw[i1,i2]
   exact EqR.at I (h j _ _ (zcx9 h1) (zcx9 h2)) q1 q2 (by rw[zt6];omega)
  rw[l1,l2] at q
  exact q
 | _,a,b,_,.lst (xs:=xs) (ys:=ys) e ha hb hl h,A,hu=>by
  obtain⟨its,r1,t1,z1⟩:=I.list ha
  obtain⟨its2,r2,t2,z2⟩:=I.list hb
  have l1:its.toArray.size=xs.length:=by rw[zcy8];exact r1.length.symm
  have l2:its2.toArray.size=ys.length:=by rw[zcy8];exact r2.length.symm
  have q:=SeqAt.RcNeAt.lists (A:=A) (e:=e) t1.isList t2.isList (by rw[l1,l2];exact hl) (by omega) fun j h1 h2=>by
   rw[l1] at h1
   rw[l2] at h2
   obtain⟨u1,e1,q1⟩:=r1.get (zcx9 h1)
   obtain⟨u2,e2,q2⟩:=r2.get (zcx9 h2)
   have i1:its.toArray[j]=u1:=by
    have:=(zcy4.mp e1).2
    simpa using this
   have i2:its2.toArray[j]=u2:=by
    have:=(zcy4.mp e2).2
    simpa using this
   rw[i1,i2]
   exact EqR.at I (h j _ _ (zcx9 h1) (zcx9 h2)) q1 q2 (by rw[zt6];omega)
  rw[l1] at q
  exact q
 | _,a,b,_,.lstN (xs:=xs) (ys:=ys) ha hb hl,A,hu=>by
  obtain⟨its,r1,t1,z1⟩:=I.list ha
  obtain⟨its2,r2,t2,z2⟩:=I.list hb
  have l1:its.toArray.size=xs.length:=by rw[zcy8];exact r1.length.symm
  have l2:its2.toArray.size=ys.length:=by rw[zcy8];exact r2.length.symm
  exact SeqAt.RcNeAt.lists_lengths t1.isList t2.isList (by rw[l1,l2];simpa using hl) (by omega)
end
@[irreducible] def rEqO (K:zcy1) (a b:Addr) (H:Hp) (Q:VK):Prop:=∃ n c,n<=40/\EqR K H n (.ref a) (.ref b) c/\Q (.bl c) H
def rEqM (K:zcy1):R2:=fun x y H Q=>match x,y with
 | .int i,.int j=>Q (.bl (decide (i=j))) H
 | .bl i,.bl j=>Q (.bl (decide (i=j))) H
 | .str i,.str j=>Q (.bl (decide (i=j))) H
 | .ref a,.ref b=>rEqO K a b H Q
 | x,y=>scal x y=true/\Q (.bl (decide (x=y))) H
def rNeM (K:zcy1):R2:=fun x y H Q=>rEqM K x y H fun v H'=>match v with
 | .bl b=>Q (.bl (!b)) H'
 | _=>False
theorem zr3 {α β:Type}[DecidableEq α] [DecidableEq β] {f:α->β}(hf:∀ a b,f a=f b->a=b) (a b:α):decide (f a=f b)=decide (a=b):=by
 by_cases h:a=b
 ·subst h;simp
 ·rw[decide_eq_false h,decide_eq_false fun e=>h (hf _ _ e)]
theorem oEq (hu:X.A.units+40<cLine):OpR X (compareOp .Eq) (rEqM X.K):=by
 intro pins s σ H x y v u Q I rx ry h
 unfold rEqM at h
 split at h
 ·rename_i i j
  exact zbf5 pins s σ H _ _ v u Q I rx ry ⟨rfl,by rw[zr3 (f:=V.int) fun a b e=>V.int.inj e];exact h⟩
 ·exact zbf5 pins s σ H _ _ v u Q I rx ry ⟨rfl,by rw[zr3 (f:=V.bl) fun a b e=>V.bl.inj e];exact h⟩
 ·exact zbf5 pins s σ H _ _ v u Q I rx ry ⟨rfl,by rw[zr3 (f:=V.str) fun a b e=>V.str.inj e];exact h⟩
 ·unfold rEqO at h
  obtain⟨n,c,hn,h1,h2⟩:=h
  cases rx
  cases ry
  exact EqR.rc I h1 (A:=X.A) (by omega) _ _ _ _ ⟨.bl c,H,I,rfl,h2⟩
 ·exact zbf5 pins s σ H _ _ v u Q I rx ry h
theorem oNe (hu:X.A.units+40<cLine):OpR X (compareOp .NotEq) (rNeM X.K):=by
 intro pins s σ H x y v u Q I rx ry h
 unfold rNeM rEqM at h
 split at h
 ·rename_i i j
  exact zba6 pins s σ H _ _ v u Q I rx ry ⟨rfl,by rw[zr3 (f:=V.int) fun a b e=>V.int.inj e];exact h⟩
 ·exact zba6 pins s σ H _ _ v u Q I rx ry ⟨rfl,by rw[zr3 (f:=V.bl) fun a b e=>V.bl.inj e];exact h⟩
 ·exact zba6 pins s σ H _ _ v u Q I rx ry ⟨rfl,by rw[zr3 (f:=V.str) fun a b e=>V.str.inj e];exact h⟩
 ·unfold rEqO at h
  obtain⟨n,c,hn,h1,h2⟩:=h
  cases rx
  cases ry
  exact EqR.rcNe I h1 (A:=X.A) (by omega) _ _ _ _ ⟨.bl (!c),H,I,rfl,h2⟩
 ·exact zba6 pins s σ H _ _ v u Q I rx ry ⟨h.1,h.2⟩
section
variable {K:zcy1}{H:Hp}{Q:VK}{a b:Addr}{c:Bool}{n:Nat}
end
def qB (t:TE):TT:=fun σ H Q=>t σ H fun x H1=>match x with
 | .bl c=>Q c H1
 | .int i=>Q (!decide (i=0)) H1
 | _=>False
theorem ptV {e:Expr}{t:TE}(h:PE X e t) (he:∀ whole,isTrue e X.env whole=(do let v ← whole;standAt e.pos;holding [v] (truthy v)):=by intro _;rfl):PT X e (qB t):=fun pins s σ H Q I hw=>by
 refine isTrue_plain (thn (h pins s σ H _ I hw) fun v s1 ⟨x,H1,I1,r1,q1⟩=>?_) (he _)
 dsimp only at q1
 split at q1
 ·exact zbv7 pins s1 σ H1 _ v Q I1 r1 ⟨_,rfl,q1⟩
 ·rename_i i
  refine zbv7 pins s1 σ H1 _ v Q I1 r1 ⟨_,rfl,?_⟩
  have e:(i != 0)=!decide (i=0):=by by_cases h:i=0<;>simp[h]
  rw[e];exact q1
 ·exact q1.elim
theorem ptC {a b:Expr}{ta tb:TE}{pos:Pos}{op:CmpOp}{r:R2}(ho:OpR X (compareOp op) r) (ha:PE X a ta) (hb:PE X b tb) (hm:behindInMarks op b=false:=by first|exact zcj9 _|with_unfolding_all rfl):PT X (.Compare a [op] [b] pos) (qB (tOp r ta tb)):=by
 intro pins s σ H Q I h
 refine wpAny_isTrue_Compare1 (thn (ha pins s σ H _ I h) fun v s1 ⟨x,H1,I1,r1,q1⟩=>thn (hb pins s1 σ H1 _ I1 q1) fun u s2 ⟨y,H2,I2,r2,q2⟩=>
  thn (ho pins s2 σ H2 x y v u _ I2 r1 r2 q2) fun c s3 ⟨z,H3,I3,r3,q3⟩=>?_) hm
 dsimp only at q3
 split at q3
 ·cases r3
  exact wpAny_truthy_bool ⟨H3,I3,q3⟩
 ·rename_i i
  refine zbv7 pins s3 σ H3 _ c Q I3 r3 ⟨_,rfl,?_⟩
  have e:(i != 0)=!decide (i=0):=by by_cases h:i=0<;>simp[h]
  rw[e];exact q3
 ·exact q3.elim
theorem peC {a b:Expr}{ta tb:TE}{pos:Pos}{op:CmpOp}{r:R2}(ho:OpR X (compareOp op) r) (ha:PE X a ta) (hb:PE X b tb) (hm:behindInMarks op b=false:=by first|exact zcj9 _|with_unfolding_all rfl):PE X (.Compare a [op] [b] pos) (tOp r ta tb):=
 zcr0 ho ha hb hm
variable {a b:Expr}{rest:List Expr}{tA tB':TT}{ta tb:TE}{pos:Pos}
def qAnd (t u:TT):TT:=fun σ H Q=>t σ H fun c H1=>br c (u σ H1 Q) (Q false H1)
def qOr (t u:TT):TT:=fun σ H Q=>t σ H fun c H1=>br c (Q true H1) (u σ H1 Q)
theorem zbb9 (ha:PT X a tA) (hb:PW X (.BoolOp .And (b :: rest) pos) tB'):PW X (.BoolOp .And (a :: b :: rest) pos) (qAnd tA tB'):=fun wh pins s σ H Q I h=>
 pw_and ha hb wh pins s σ H Q I (by unfold qAnd at h;simp only[zaj9] at h;exact h)
theorem pwOr (ha:PT X a tA) (hb:PW X (.BoolOp .Or (b :: rest) pos) tB'):PW X (.BoolOp .Or (a :: b :: rest) pos) (qOr tA tB'):=fun wh pins s σ H Q I h=>
 pw_or ha hb wh pins s σ H Q I (by unfold qOr at h;simp only[zaj9] at h;exact h)
def qAndV (ta tb:TE):TE:=fun σ H Q=>ta σ H fun x H1=>match x with
 | .bl c=>br c (tb σ H1 Q) (Q (.bl false) H1)
 | _=>False
def qNotV (ta:TE):TE:=fun σ H Q=>ta σ H fun x H1=>match x with
 | .bl c=>Q (.bl (!c)) H1
 | _=>False
theorem zy0 (ha:PE X a ta) (hb:PE X (.BoolOp .And (b :: rest) pos) tb):PE X (.BoolOp .And (a :: b :: rest) pos) (qAndV ta tb):=by
 intro pins s σ H Q I h
 refine BoolOp_and (thn (ha pins s σ H _ I h) fun v s1 ⟨x,H1,I1,r1,q1⟩=>?_)
 dsimp only at q1
 split at q1
 ·rename_i c
  cases r1
  refine wpAny_truthy_bool ?_
  rw[zaj9] at q1
  cases c with
  | true=>exact hb pins s1 σ H1 Q I1 (by simpa using q1)
  | false=>exact⟨.bl false,H1,I1,rfl,by simpa using q1⟩
 ·exact q1.elim
theorem peNot (ha:PE X a ta):PE X (.UnaryOp .Not a pos) (qNotV ta):=by
 intro pins s σ H Q I h
 refine UnaryOp_ (thn (ha pins s σ H _ I h) fun v s1 ⟨x,H1,I1,r1,q1⟩=>?_)
 dsimp only at q1
 split at q1
 ·rename_i c
  cases r1
  exact not_of (wpAny_truthy_bool ⟨.bl (!c),H1,I1,rfl,q1⟩)
 ·exact q1.elim
def qIf (t:TT) (ta tb:TE):TE:=fun σ H Q=>t σ H fun c H1=>br c (ta σ H1 Q) (tb σ H1 Q)
theorem peIf {c:Expr}(hc:PT X c tA) (ha:PE X a ta) (hb:PE X b tb):PE X (.IfExp c a b pos) (qIf tA ta tb):=fun pins s σ H Q I h=>
 zcd4 hc ha hb pins s σ H Q I (by unfold qIf at h;simp only[zaj9] at h;exact h)
def qChain (r r':R2) (ta tb tc:TE):TE:=fun σ H Q=>ta σ H fun x H1=>tb σ H1 fun y H2=>r x y H2 fun z H3=>match z with
 | .bl k=>br k (tc σ H3 fun w' H4=>r' y w' H4 Q) (Q (.bl false) H3)
 | _=>False
theorem zcn2 {c:Expr}{tc:TE}{op op':CmpOp}{r r':R2}(ho:OpR X (compareOp op) r) (ho':OpR X (compareOp op') r') (ha:PE X a ta) (hb:PE X b tb) (hc:PE X c tc)
  (hm:lastMarks [op,op'] [b,c]=false:=by with_unfolding_all rfl):PE X (.Compare a [op,op'] [b,c] pos) (qChain r r' ta tb tc):=by
 intro pins s σ H Q I h
 refine Compare_chain (thn (ha pins s σ H _ I h) fun v s1 ⟨x,H1,I1,r1,q1⟩=>chain_link (thn (hb pins s1 σ H1 _ I1 q1) fun u s2 ⟨y,H2,I2,r2,q2⟩=>
  thn (ho pins s2 σ H2 x y v u _ I2 r1 r2 q2) fun d s3 ⟨z,H3,I3,r3,q3⟩=>?_)) hm
 dsimp only at q3
 split at q3
 ·rename_i k
  cases r3
  refine wpAny_truthy_bool ?_
  rw[zaj9] at q3
  cases k with
  | false=>exact ite_ff ⟨.bl false,H3,I3,rfl,by simpa using q3⟩
  | true=>exact ite_tt (chain_last (thn (hc pins s3 σ H3 _ I3 (by simpa using q3)) fun w' s4 ⟨z',H4,I4,r4,q4⟩=>ho' pins s4 σ H4 y z' u w' Q I4 r2 r4 q4))
 ·exact q3.elim
variable {st:Stmt}{t u:TS}{e:Expr}{te:TE}
def qIfS (c:TT) (t u:TS):TS:=fun D σ H=>c σ H fun b H1=>br b (t D σ H1) (u D σ H1)
theorem psIf {c:Expr}{a b:List Stmt}{tc:TT}(hc:PT X c tc) (ha:PSs X a t) (hb:PSs X b u):PS X (.If c a b pos) (qIfS tc t u):=fun pins s σ H D I h=>
 ps_if hc ha hb pins s σ H D I (by unfold qIfS at h;simp only[zaj9] at h;exact h)
@[irreducible] def zac7 (J:It) (g:TG) (tb:TS) (D:Ends) (σ:St) (H1:Hp):Prop:=∃ W:Nat->Nat->St->Hp->Prop,(∃ m,W 0 m σ H1)/\∀ i m σ H,W i m σ H ->
 (J.stop i H/\D.nx σ H)∨(J.go i H/\∃ N:St->Hp->Prop,(∀ σ' H',N σ' H'->∃ m',m'<m/\W (i+1) m' σ' H')/\∀ x H',J.yld i H x H'->g x σ H' fun σ2 H2=>tb { D with nx:=N,ct:=N,bk:=D.nx } σ2 H2)
def qFor (wi:TI) (g:TG) (tb:TS):TS:=fun D σ H=>wi σ H fun J H1=>zac7 J g tb D σ H1
theorem zu5 {iter tg:Expr}{body:List Stmt}{wi:TI}{g:TG}{tb:TS}{pos:Pos}(hp:PassesOwn (model X.prog X.w) X.A X.env X.xe) (hc:X.calm=true) (hi:PI X tg iter wi) (hg:PG X tg g) (hb:PSs X body tb)
  (hs:∀ x,foldedSetIterable iter X.env x=pure x:=by intro _;rfl):PS X (.For tg iter body [] pos) (qFor wi g tb):=fun pins s σ H D I h=>
 ps_for hp hc hi hg hb hs pins s σ H D I (by unfold qFor at h;unfold zac7 at h;exact h)
@[irreducible] def zbn6 (K:zcy1) (a:Addr) (H:Hp) (R:It->Hp->Prop):Prop:=((∃ xs,SqL K H a xs)/\R (Itl K a) H)∨((∃ xs,SqT K H a xs)/\R (Itt K a) H)
def qiSeq (K:zcy1) (tl:TE):TI:=fun σ H R=>tl σ H fun x H1=>match x with
 | .ref a=>zbn6 K a H1 R
 | _=>False
theorem piSeq {tg l:Expr}{tl:TE}(hl:PE X l tl):PI X tg l (qiSeq X.K tl):=by
 intro pins s σ H R I h
 refine thn (hl pins s σ H _ I h) fun v s1 ⟨x,H1,I1,r1,q1⟩=>?_
 dsimp only at q1
 split at q1
 ·rename_i a
  unfold zbn6 at q1
  cases r1
  have fp:∀ b∈[s1.heap.objs.size],FpOk X pins H1 b:=fun b hb=>by
   have e:b=s1.heap.objs.size:=by simpa using hb
   subst e
   exact I1.fpOk (zcz6 _) (I1.hok.fresh (zcz6 _))
  rcases q1 with ⟨⟨xs,hq⟩,q⟩|⟨⟨xs,hq⟩,q⟩
  ·obtain⟨its,rv,p,hz⟩:=I1.list hq
   refine wpAny_pyIter_list p.isList ?_
   exact⟨s1.heap.objs.size,[s1.heap.objs.size],_,_,H1,rfl,I1.kept (t':=s1.toks) fun b o e=>zcy5 _ e,zbq5 a _,⟨_,zcz9 _ rfl,rfl,rfl⟩,fp,q⟩
  ·obtain⟨its,rv,p,hz⟩:=I1.tuple hq
   refine wpAny_pyIter_tuple (show s1.heap.IsTuple a its.toArray from p) ?_
   exact⟨s1.heap.objs.size,[s1.heap.objs.size],_,_,H1,rfl,I1.kept (t':=s1.toks) fun b o e=>zcy5 _ e,zbm5 a _,⟨_,zcz9 _ rfl,rfl,rfl⟩,fp,q⟩
 ·exact q1.elim
@[irreducible] def zan9 (i j:Int) (H:Hp) (R:It->Hp->Prop):Prop:=(-(2 ^ 62)<=i/\i<2 ^ 62/\-(2 ^ 62)<=j/\j<2 ^ 62)/\R (Itr i (j - i).toNat) H
def qiRng (ta:TA):TI:=fun σ H R=>ta σ H fun vs H1=>match vs with
 | [.int j]=>zan9 0 j H1 R
 | [.int i,.int j]=>zan9 i j H1 R
 | _=>False
theorem zr0 {tg a:Expr}{ta:TA}{p pos:Pos}(hm:X.mg "range"=none) (ha:PA X [a] ta) (hg:Gl X "range":=by rfl) (hs:starEach [a] X.env=[(false,eval a X.env)]:=by rfl):PI X tg (.Call (.Name "range" p) [a] [] pos) (qiRng ta):=by
 intro pins s σ H R I h
 refine Call_ (zx1 I hg hm boot_range (PyProof.Rows.callWith_type1 (thn (ha pos pins s σ H _ I h) fun us s1 ⟨vs,H1,I1,r1,q1⟩=>?_) hs rfl))
 dsimp only at q1
 split at q1
 ·unfold zan9 at q1
  obtain⟨⟨a1,a2,a3,a4⟩,q⟩:=q1
  cases r1 with
  | cons r rr=>
   cases rr
   obtain⟨t,rfl⟩:=r
   exact call_range_1 (zbi0 I1 a1 a2 a3 a4 q)
 ·unfold zan9 at q1
  cases r1 with
  | cons r rr=>
   cases rr with
   | cons r' rr=>
    cases rr
    obtain⟨t,rfl⟩:=r
    obtain⟨t',rfl⟩:=r'
    obtain⟨⟨a1,a2,a3,a4⟩,q⟩:=q1
    exact call_range_2 (zbi0 I1 a1 a2 a3 a4 q)
 ·exact q1.elim
section
variable {K:zcy1}{g:TG}{tb:TS}{D:Ends}{σ:St}{H:Hp}{R:It->Hp->Prop}
theorem zc8 {a:Addr}{xs:List V}(h:H a=some (.lst xs)) (q:R (Itl K a) H):zbn6 K a H R:=by unfold zbn6;exact .inl ⟨⟨xs,SqL.of h⟩,q⟩
theorem zbh1 {a:Addr}{xs:List V}(h:H a=some (.tup xs)) (q:R (Itt K a) H):zbn6 K a H R:=by unfold zbn6;exact .inr ⟨⟨xs,SqT.of h⟩,q⟩
theorem zg4 {i j:Int}(h1:-(2 ^ 62)<=i) (h2:i<2 ^ 62) (h3:-(2 ^ 62)<=j) (h4:j<2 ^ 62) (q:R (Itr i (j - i).toNat) H):zan9 i j H R:=by unfold zan9;exact⟨⟨h1,h2,h3,h4⟩,q⟩
theorem zt4 {a:Addr}{xs:List V}(Pv:Nat->St->Hp->Prop) (h0:Pv 0 σ H) (hl:∀ i σ H,i<=xs.length->Pv i σ H->SqL K H a xs)
  (hs:∀ i x σ H,xs[i]?=some x->Pv i σ H->g x σ H fun σ2 H2=>tb { D with nx:=Pv (i+1),ct:=Pv (i+1),bk:=D.nx } σ2 H2) (hd:∀ σ H,Pv xs.length σ H->D.nx σ H):zac7 (Itl K a) g tb D σ H:=by
 unfold zac7;exact zcb9 Pv h0 hl hs hd
theorem zcg6 {a:Addr}{xs:List V}(Pv:Nat->St->Hp->Prop) (h0:Pv 0 σ H) (hl:∀ i σ H,i<=xs.length->Pv i σ H->SqT K H a xs)
  (hs:∀ i x σ H,xs[i]?=some x->Pv i σ H->g x σ H fun σ2 H2=>tb { D with nx:=Pv (i+1),ct:=Pv (i+1),bk:=D.nx } σ2 H2) (hd:∀ σ H,Pv xs.length σ H->D.nx σ H):zac7 (Itt K a) g tb D σ H:=by
 unfold zac7;exact zcp8 Pv h0 hl hs hd
theorem zh7 {lo:Int}{n:Nat}(Pv:Nat->St->Hp->Prop) (h0:Pv 0 σ H)
  (hs:∀ i σ H,i<n->Pv i σ H->g (.int (lo+i)) σ H fun σ2 H2=>tb { D with nx:=Pv (i+1),ct:=Pv (i+1),bk:=D.nx } σ2 H2) (hd:∀ σ H,Pv n σ H->D.nx σ H):zac7 (Itr lo n) g tb D σ H:=by
 unfold zac7;exact zbo7 Pv h0 hs hd
end
@[irreducible] def wIf (W:Nat->St->Hp->Prop) (m:Nat) (tb:TS) (D:Ends) (σ:St) (b:Bool) (H1:Hp):Prop:=
 if b=true then ∃ N:St->Hp->Prop,(∀ σ' H',N σ' H'->∃ m',m'<m/\W m' σ' H')/\tb { D with nx:=N,ct:=N,bk:=D.nx } σ H1 else D.nx σ H1
@[irreducible] def zbh6 (c:TT) (tb:TS):TS:=fun D σ H=>∃ W:Nat->St->Hp->Prop,(∃ m,W m σ H)/\∀ m σ H,W m σ H->c σ H fun b H1=>wIf W m tb D σ b H1
theorem zbw8 {c:Expr}{body:List Stmt}{tc:TT}{tb:TS}(hp:PassesOwn (model X.prog X.w) X.A X.env X.xe) (hc:PT X c tc) (hb:PSs X body tb):PS X (.While c body [] pos) (zbh6 tc tb):=fun pins s σ H D I h=>
 zcd2 hp hc hb pins s σ H D I (by unfold zbh6 at h;unfold wIf at h;exact h)
section
variable {c:TT}{tb:TS}{D:Ends}{σ:St}{H H1:Hp}{W:Nat->St->Hp->Prop}{m:Nat}{p:Prop}
theorem zbg5 (Pv:St->Hp->Prop) (μ:St->Hp->Nat) (h0:Pv σ H) (hs:∀ σ H,Pv σ H->c σ H fun b H1=>wIf (fun m σ H=>m=μ σ H/\Pv σ H) (μ σ H) tb D σ b H1):zbh6 c tb D σ H:=by
 unfold zbh6
 refine⟨fun m σ H=>m=μ σ H/\Pv σ H,⟨_,rfl,h0⟩,?_⟩
 rintro m σ H ⟨rfl,p⟩
 exact hs σ H p
theorem zcl9 {Pv:St->Hp->Prop}{μ:St->Hp->Nat}[Decidable p] (h1:p->tb { D with nx:=fun σ' H'=>Pv σ' H'/\μ σ' H'<m,ct:=fun σ' H'=>Pv σ' H'/\μ σ' H'<m,bk:=D.nx } σ H1) (h2:¬ p->D.nx σ H1) :
  wIf (fun m σ H=>m=μ σ H/\Pv σ H) m tb D σ (decide p) H1:=by
 unfold wIf
 refine ite2 (fun h=>⟨_,fun σ' H' ⟨a,b⟩=>⟨_,b,rfl,a⟩,h1 (of_decide_eq_true h)⟩) fun h=>h2 fun hp=>h (decide_eq_true hp)
theorem zcb5 {Pv:St->Hp->Prop}{μ:St->Hp->Nat}[Decidable p] (h1:¬ p->tb { D with nx:=fun σ' H'=>Pv σ' H'/\μ σ' H'<m,ct:=fun σ' H'=>Pv σ' H'/\μ σ' H'<m,bk:=D.nx } σ H1) (h2:p->D.nx σ H1) :
  wIf (fun m σ H=>m=μ σ H/\Pv σ H) m tb D σ (!decide p) H1:=by
 unfold wIf
 refine ite2 (fun h=>⟨_,fun σ' H' ⟨a,b⟩=>⟨_,b,rfl,a⟩,h1 fun hp=>?_⟩) fun h=>h2 ?_
 ·rw[decide_eq_true hp] at h;cases h
 ·by_cases hp:p
  ·exact hp
  ·rw[decide_eq_false hp] at h;exact absurd rfl h
end
@[irreducible] def rNewT (xs:List V) (H:Hp) (Q:VK):Prop:=xs.length<=sizeLine/\∀ p H',H p=none->Same H H'->H' p=some (.tup xs)->Q (.ref p) H'
@[irreducible] def rNewL (xs:List V) (H:Hp) (Q:VK):Prop:=xs.length<=sizeLine/\∀ p H',H p=none->Same H H'->H' p=some (.lst xs)->Q (.ref p) H'
def qTup (t:TA):TE:=fun σ H Q=>t σ H fun xs H1=>rNewT xs H1 Q
def qLst (t:TA):TE:=fun σ H Q=>t σ H fun xs H1=>rNewL xs H1 Q
theorem zm8 {es:List Expr}{x1} {t:TA}(h:PA X es t):PE X (.Tuple es x1 pos) (qTup t):=by
 intro pins s σ H Q I hq
 refine wpAny_Tuple_spliced (thn (h pos pins s σ H _ I hq) fun us s1 ⟨xs,H1,I1,r,z⟩=>?_)
 unfold rNewT at z
 obtain⟨z,q⟩:=z
 refine⟨by rw[← r.length];exact z,?_⟩
 have hf:H1 s1.heap.objs.size=none:=I1.hok.fresh (zcz6 _)
 refine⟨.ref s1.heap.objs.size,upd H1 s1.heap.objs.size (.tup xs),I1.laid (t':=s1.toks) (fun b u e=>zcy5 _ e) (zcz6 _) ?_,rfl,q _ _ hf (Same.upd hf) zc4⟩
 exact⟨z,us,r,⟨_,zcz9 _ rfl,rfl,_,rfl⟩⟩
theorem zr9 {es:List Expr}{t:TA}(h:PA X es t):PE X (.List es pos) (qLst t):=by
 intro pins s σ H Q I hq
 refine wpAny_List_spliced (thn (h pos pins s σ H _ I hq) fun us s1 ⟨xs,H1,I1,r,z⟩=>?_)
 unfold rNewL at z
 obtain⟨z,q⟩:=z
 refine⟨by rw[← r.length];exact z,?_⟩
 have hf:H1 s1.heap.objs.size=none:=I1.hok.fresh (zcz6 _)
 refine⟨.ref s1.heap.objs.size,upd H1 s1.heap.objs.size (.lst xs),I1.laid (t':=s1.toks) (fun b u e=>zcy5 _ e) (zcz6 _) ?_,rfl,q _ _ hf (Same.upd hf) zc4⟩
 exact⟨z,us,0,r,zcz9 _ rfl⟩
@[irreducible] def rIxA (K:zcy1) (p:Addr) (i:Int) (H:Hp) (Q:VK):Prop:=∃ xs v,(SqL K H p xs∨SqT K H p xs)/\atI xs i=some v/\Q v H
def rIxM (K:zcy1):R2:=fun x y H Q=>match x,y with
 | .ref p,.int i=>rIxA K p i H Q
 | .str z,.int i=>∃ c,z.length<=sizeLine/\atI z.cps.toList i=some c/\Q (.str ⟨#[c]⟩) H
 | _,_=>False
theorem ixM:IxR X (rIxM X.K):=by
 intro value slice pins s σ H x y v u Q I rx ry h hs
 unfold rIxM at h
 split at h
 ·unfold rIxA at h
  obtain⟨xs,z,h1,h2,q⟩:=h
  rcases h1 with h1|h1
  ·exact zcn3 value slice pins s σ H _ _ v u Q I rx ry ⟨_,xs,_,z,rfl,rfl,h1,h2,q⟩ hs
  ·exact ix_tup value slice pins s σ H _ _ v u Q I rx ry ⟨_,xs,_,z,rfl,rfl,h1,h2,q⟩ hs
 ·obtain⟨c,h1,h2,q⟩:=h
  exact ix_str value slice pins s σ H _ _ v u Q I rx ry ⟨_,_,c,rfl,rfl,h1,h2,q⟩ hs
 ·exact h.elim
theorem peIx (ha:PE X a ta) (hb:PE X b tb) (hs:zas9 b:=by exact fun _ _=>rfl):PE X (.Subscript a b pos) (tOp (rIxM X.K) ta tb):=pe_ix ixM ha hb hs
def qPart (t:TE):TO:=fun σ H Q=>t σ H fun x H1=>match x with
 | .int i=>Q (some i) H1
 | _=>False
theorem zy2 (h:PE X e te):PO X (some e) (qPart te):=by
 intro pins s σ H Q I hw
 rw[evalPart_some]
 refine thn (h pins s σ H _ I hw) fun u s1 ⟨x,H1,I1,r1,q1⟩=>?_
 dsimp only at q1
 split at q1
 ·rename_i i
  obtain⟨t,rfl⟩:=r1
  exact⟨some i,H1,I1,.int i t,q1⟩
 ·exact q1.elim
section
variable {K:zcy1}{H:Hp}{Q:VK}{p:Addr}{xs:List V}{v:V}{i:Int}
theorem zc7 (q:∀ p H',H p=none->Same H H'->H' p=some (.tup xs)->Q (.ref p) H') (h:xs.length<=sizeLine:=by first|assumption|(simp only[zdb6,zdf9,Nat.zero_add,Nat.reduceAdd];decide)):rNewT xs H Q:=by unfold rNewT;exact⟨h,q⟩
theorem ze6 (q:∀ p H',H p=none->Same H H'->H' p=some (.lst xs)->Q (.ref p) H') (h:xs.length<=sizeLine:=by first|assumption|(simp only[zdb6,zdf9,Nat.zero_add,Nat.reduceAdd];decide)):rNewL xs H Q:=by unfold rNewL;exact⟨h,q⟩
theorem za9 (h:H p=some (.tup xs)) (e:atI xs i=some v) (q:Q v H):rIxA K p i H Q:=by unfold rIxA;exact⟨xs,v,.inr (SqT.of h),e,q⟩
theorem zb9 (h:H p=some (.lst xs)) (e:atI xs i=some v) (q:Q v H):rIxA K p i H Q:=by unfold rIxA;exact⟨xs,v,.inl (SqL.of h),e,q⟩
theorem zcm3 (h:SqL K H p xs) (e:atI xs i=some v) (q:Q v H):rIxA K p i H Q:=by unfold rIxA;exact⟨xs,v,.inl h,e,q⟩
end
def qgNil:TGs:=fun vs σ H Q=>match vs with
 | []=>Q σ H
 | _=>False
def zck4 (t:TG) (u:TGs):TGs:=fun vs σ H Q=>match vs with
 | v :: r=>t v σ H fun σ' H'=>u r σ' H' Q
 | _=>False
theorem zo3:PGs X [] qgNil:=fun pins s σ H vs us Q I r h=>by
 unfold qgNil at h
 split at h
 ·exact zco2 pins s σ H _ us Q I r ⟨rfl,h⟩
 ·exact h.elim
theorem zb7 {e:Expr}{es:List Expr}{t:TG}{u:TGs}(h1:PG X e t) (h2:PGs X es u)
  (hs:(assignEach (e :: es) X.env).map (·.2)=assign e X.env :: (assignEach es X.env).map (·.2):=by rfl):PGs X (e :: es) (zck4 t u):=fun pins s σ H vs us Q I r h=>by
 unfold zck4 at h
 split at h
 ·exact zcc1 h1 h2 hs pins s σ H _ us Q I r ⟨_,_,rfl,h⟩
 ·exact h.elim
def qPar (i j:Nat) (ta:TA):TS:=fun D σ H=>ta σ H fun vs H1=>match vs with
 | [v,w]=>D.nx ((σ.set i (some v)).set j (some w)) H1
 | _=>False
theorem psPar {i j:Nat}{x y:Str}{a b:Expr}{ta:TA}{px py pt:Pos}{kt k2 pt2} (hc:X.calm=true) (hN:X.N.Nodup) (hi:X.N[i]?=some x) (hj:X.N[j]?=some y) (hij:i≠j)
  (hx:X.env.scope.names.lookup x=some .local) (hy:X.env.scope.names.lookup y=some .local) (ha:PA X [a,b] ta)
  (hw:swappedStores [.Tuple [.Name x px,.Name y py] kt pt] (.Tuple [a,b] k2 pt2) X.env=pure (some [x,y]))
  (hs:swapsWithSole [.Tuple [.Name x px,.Name y py] kt pt] (.Tuple [a,b] k2 pt2) pos.line X.env=pure false:=by rfl) :
  PS X (.Assign [.Tuple [.Name x px,.Name y py] kt pt] (.Tuple [a,b] k2 pt2) pos) (qPar i j ta) :=by
 intro pins s σ H D I h
 rw[exec_Assign_arm]
 refine wpAny_bind (wpAny_standAt ?_)
 rw[hs]
 refine wpAny_bind (wpAny_pure ?_)
 rw[if_neg (by decide)]
 refine wpAny_bind (Tuple_ (thn (ha _ pins s σ H _ I h) fun us s1 ⟨vs,H1,I1,r1,q1⟩=>?_))
 dsimp only at q1
 split at q1
 case h_2=>exact q1.elim
 rename_i v w
 obtain⟨u1,u2,rfl,rv,rw'⟩:∃ u1 u2,us=[u1,u2]/\RelV v u1/\RelV w u2:=by
  cases r1 with
  | cons p q=>
   cases q with
   | cons p' q'=>
    cases q'
    exact⟨_,_,rfl,p,p'⟩
 refine wpAny_newObj_type ?_ (by show 2<=sizeLine;decide)
 have I2:Inv X pins σ H1 { s1 with heap:=s1.heap.push { cls:=.type "tuple",data:=.seq [u1,u2].toArray } }:=I1.kept (t':=s1.toks) fun b o e=>zcy5 _ e
 rw[hw]
 refine wpAny_bind (wpAny_pure ?_)
 show wpAny (model X.prog X.w) X.A (do rule "assign.swapped-stores";let items ← unpackItems (.ref s1.heap.objs.size) 2 none;assignInOrder [fun v=>bindName X.env y v,fun v=>bindName X.env x v] items.reverse;pure Flow.next) _ _ _
 refine wpAny_bind (wpAny_rule (wpAny_bind (unpackItems_tuple (items:=#[u1,u2]) (I.ok.hd hc) (IsTup.new s1.heap _) fun h' hx'=>?_)))
 have I3:=I2.kept (h':=h') (t':=s1.toks) fun b o e=>hx' b o (zda8 (zcz7 e)) e
 show wpAny _ _ (assignInOrder [fun v=>bindName X.env y v,fun v=>bindName X.env x v] [u2,u1] >>= fun _=>pure Flow.next) _ _ _
 refine wpAny_bind (assignInOrder_cons (wpAny_bindName (zac8 I3 hN hj (.inl hy) rw' (fun s2 I4=>?_) (.inr hy))))
 refine assignInOrder_cons (wpAny_bindName (zac8 I4 hN hi (.inl hx) rv (fun s3 I5=>assignInOrder_nil (wpAny_pure ?_)) (.inr hx)))
 rw[List.set_comm _ _ (Ne.symm hij)] at I5
 exact⟨_,H1,I5,q1⟩
end
end L2
set_option maxHeartbeats 1000000
namespace L2
open PySem PySem.Spec PyProof.Rows
section
variable {X:Cx}
def rAbsM:List V->Hp->VK->Prop:=fun xs H Q=>match xs with
 | [.int i]=>Q (.int (i.natAbs:Int)) H
 | _=>False
theorem cAbs:zp4 X (.builtin "abs") rAbsM:=fun pins s σ H xs us Q I r h=>by
 unfold rAbsM at h
 split at h
 ·rename_i i
  refine zcg9 pins s σ H _ us Q I r ⟨i,rfl,?_⟩
  have e:(if i<0 then -i else i)=(i.natAbs:Int):=by split<;>omega
  rw[e];exact h
 ·exact h.elim
def rIntM:List V->Hp->VK->Prop:=fun xs H Q=>match xs with
 | [.int i]=>Q (.int i) H
 | [.bl k]=>Q (.int (if k=true then 1 else 0)) H
 | _=>False
theorem cInt:zp4 X (.type "int") rIntM:=fun pins s σ H xs us Q I r h=>by
 unfold rIntM at h
 split at h
 ·exact zau4 pins s σ H _ us Q I r (.inl ⟨_,rfl,h⟩)
 ·exact zau4 pins s σ H _ us Q I r (.inr ⟨_,rfl,h⟩)
 ·exact h.elim
@[irreducible] def zax9 (K:zcy1) (p:Addr) (H:Hp) (Q:VK):Prop:=∃ ys,(SqL K H p ys∨SqT K H p ys)/\Q (.int ys.length) H
def rLenM (K:zcy1):List V->Hp->VK->Prop:=fun xs H Q=>match xs with
 | [.ref p]=>zax9 K p H Q
 | [.str z]=>z.length<=sizeLine/\Q (.int z.length) H
 | _=>False
theorem cLen:zp4 X (.builtin "len") (rLenM X.K):=fun pins s σ H xs us Q I r h=>by
 unfold rLenM at h
 split at h
 ·unfold zax9 at h
  obtain⟨ys,h1,h2⟩:=h
  exact zba3 pins s σ H _ us Q I r ⟨_,ys,rfl,h1,h2⟩
 ·exact zax1 pins s σ H _ us Q I r ⟨_,rfl,h.1,h.2⟩
 ·exact h.elim
@[irreducible] def zab5 (K:zcy1) (x c:V) (H:Hp) (Q:VK):Prop:=∃ t b,TyOf K H x t/\(∀ cv,RelV c cv->zde7 K t cv=some b)/\Q (.bl b) H
def rIsiM (K:zcy1):List V->Hp->VK->Prop:=fun xs H Q=>match xs with
 | [x,c]=>zab5 K x c H Q
 | _=>False
theorem cIsi:zp4 X (.builtin "isinstance") (rIsiM X.K):=fun pins s σ H xs us Q I r h=>by
 unfold rIsiM at h
 split at h
 ·unfold zab5 at h
  obtain⟨t,b,h1,h2,h3⟩:=h
  obtain⟨u,w,rfl,r1,r2⟩:=zbn2 r
  exact zbr9 I r1 h1 (h2 _ r2) fun tk=>⟨.bl b,H,I.tok _,rfl,h3⟩
 ·exact h.elim
section
variable {K:zcy1}{H:Hp}{Q:VK}{p:Addr}{xs:List V}
theorem ze8 (h:H p=some (.lst xs)) (q:Q (.int xs.length) H):zax9 K p H Q:=by unfold zax9;exact⟨xs,.inl (SqL.of h),q⟩
theorem zbj4 (h:SqL K H p xs) (q:Q (.int xs.length) H):zax9 K p H Q:=by unfold zax9;exact⟨xs,.inl h,q⟩
theorem zw5 (h:H p=some (.tup xs)) (q:Q (.int xs.length) H):zax9 K p H Q:=by unfold zax9;exact⟨xs,.inr (SqT.of h),q⟩
theorem zar5 {i:Int}{n:String}{b:Bool}(q:Q (.bl b) H) (e:zde7 K (.type "int") (.type n)=some b:=by rfl):zab5 K (.int i) (.ty n) H Q:=by
 unfold zab5;exact⟨_,b,.int i,fun cv r=>by cases r;exact e,q⟩
theorem zap6 {i:Bool}{n:String}{b:Bool}(q:Q (.bl b) H) (e:zde7 K (.type "bool") (.type n)=some b:=by rfl):zab5 K (.bl i) (.ty n) H Q:=by
 unfold zab5;exact⟨_,b,.bl i,fun cv r=>by cases r;exact e,q⟩
theorem zbs3 {n:String}{b:Bool}(q:Q (.bl b) H) (e:zde7 K (.type "NoneType") (.type n)=some b:=by rfl):zab5 K .non (.ty n) H Q:=by
 unfold zab5;exact⟨_,b,.non,fun cv r=>by cases r;exact e,q⟩
theorem zbz2 {x:Str}{n:String}{b:Bool}(q:Q (.bl b) H) (e:zde7 K (.type "str") (.type n)=some b:=by rfl):zab5 K (.str x) (.ty n) H Q:=by
 unfold zab5;exact⟨_,b,.str x,fun cv r=>by cases r;exact e,q⟩
theorem zx4 {n:String}{b:Bool}(h:H p=some (.tup xs)) (q:Q (.bl b) H) (e:zde7 K (.type "tuple") (.type n)=some b:=by rfl):zab5 K (.ref p) (.ty n) H Q:=by
 unfold zab5;exact⟨_,b,.tup h,fun cv r=>by cases r;exact e,q⟩
theorem zy8 {n:String}{b:Bool}(h:H p=some (.lst xs)) (q:Q (.bl b) H) (e:zde7 K (.type "list") (.type n)=some b:=by rfl):zab5 K (.ref p) (.ty n) H Q:=by
 unfold zab5;exact⟨_,b,.lst h,fun cv r=>by cases r;exact e,q⟩
end
theorem zcb1:bootBuiltins "abs"=some (.builtin "abs"):=by decide +kernel
theorem zbu7:bootBuiltins "max"=some (.builtin "max"):=by decide +kernel
theorem zbg8:bootBuiltins "min"=some (.builtin "min"):=by decide +kernel
theorem zg0:bootBuiltins "len"=some (.builtin "len"):=by decide +kernel
theorem zav0:bootBuiltins "sum"=some (.builtin "sum"):=by decide +kernel
theorem zad0:bootBuiltins "all"=some (.builtin "all"):=by decide +kernel
theorem zb8:bootBuiltins "isinstance"=some (.builtin "isinstance"):=by decide +kernel
theorem zby9:bootBuiltins "sorted"=some (.builtin "sorted"):=by decide +kernel
theorem zaj6:bootBuiltins "int"=some (.type "int"):=by decide +kernel
theorem zbu5:bootBuiltins "bool"=some (.type "bool"):=by decide +kernel
theorem zk6:bootBuiltins "list"=some (.type "list"):=by decide +kernel
theorem zw0:bootBuiltins "tuple"=some (.type "tuple"):=by decide +kernel
theorem pTy {x:Str}{n:String}{pos:Pos}(hm:X.mg x=none) (hv:bootBuiltins x=some (.type n)) (hg:Gl X x:=by rfl) (hn:x≠"__name__":=by decide) (hd:(x==("__debug__":Str))=false:=by decide):PE X (.Name x pos) (tC (.ty n)):=
 zcm9 hg hm hv rfl hn hd
theorem pB {x:Str}{p pos:Pos}{e:Expr}{es:List Expr}{t:TA}{id:String}{r:List V->Hp->VK->Prop}(hc:zp4 X (.builtin id) r) (hm:X.mg x=none) (hv:bootBuiltins x=some (.builtin id)) (ha:PA X (e :: es) t) (hg:Gl X x:=by rfl) (hn:x≠"__name__":=by decide) (hdb:(x==("__debug__":Str))=false:=by decide)
  (he:starEach (e :: es) X.env=(false,eval e X.env) :: starEach es X.env:=by rfl) (hpl:(backTo pos (starEach es X.env)).any (·.1)=false:=by rfl):PE X (.Call (.Name x p) (e :: es) [] pos) (tCB r t):=zcf9 hc hg hm hv ha hn hdb he hpl
theorem pT {x:Str}{p pos:Pos}{e:Expr}{es:List Expr}{t:TA}{id:String}{r:List V->Hp->VK->Prop}(hc:zp4 X (.type id) r) (hm:X.mg x=none) (hv:bootBuiltins x=some (.type id)) (ha:PA X (e :: es) t) (hg:Gl X x:=by rfl) (hn:x≠"__name__":=by decide) (hdb:(x==("__debug__":Str))=false:=by decide)
  (he:starEach (e :: es) X.env=(false,eval e X.env) :: starEach es X.env:=by rfl) (hpl:(backTo pos (starEach es X.env)).any (·.1)=false:=by rfl):PE X (.Call (.Name x p) (e :: es) [] pos) (tCB r t):=zby0 hc hg hm hv ha hn hdb he hpl
structure Def (P:Program) (w:World) (K:zcy1) (mg:Str->Option Value) (base:Heap) (CX:CXT) (k:Nat) (x:Str) (ps:List Str) (sp:Sp):Prop where
 ex:∃ (f:Addr) (fd:FuncData),FnOk P w K mg base CX k f fd ps sp/\mg x=some (.ref f)/\zcy9 K (.ref f)=true/\zam6 K fd ps []
def qCall (sp:Sp) (E:XK) (t:TA):TE:=fun σ H Q=>t σ H fun vs H1=>sp vs H1 Q E
theorem pD {CX:CXT}{k j:Nat}{x:Str}{ps:List Str}{sp:Sp}{E:XK}{p pos:Pos}{e:Expr}{es:List Expr}{t:TA}(F:Def X.prog X.w X.K X.mg X.base CX k x ps sp) (hr:Room j X.A) (hx:zbi8 CX X E) (ha:PA X (e :: es) t) (hk:k<=j:=by decide) (hg:Gl X x:=by rfl)
  (hdb:(x==("__debug__":Str))=false:=by decide) (he:starEach (e :: es) X.env=(false,eval e X.env) :: starEach es X.env:=by rfl) (hpl:(backTo pos (starEach es X.env)).any (·.1)=false:=by rfl) :
  PE X (.Call (.Name x p) (e :: es) [] pos) (qCall sp E t):=by
 obtain⟨f,fd,F1,F2,F3,F4⟩:=F.ex
 intro pins s σ H Q I h
 refine zcl7 F1 (hr.mono hk) hg F2 F3 F4 .nil hx ha hdb he hpl pins s σ H Q I ?_
 unfold tCall
 simp only[List.append_nil]
 exact h
theorem psS {i:Nat}{x:Str}{e:Expr}{te:TE}{pos' pos:Pos}(hN:X.N.Nodup) (he:PE X e te) (hi:X.N[i]?=some x:=by rfl) (hx:Loc X.env.scope x:=by first|exact Or.inl rfl|exact Or.inr rfl) (hs:swapsWith e (some (.Name x pos')) pos.line X.env=pure false:=by rfl) (hf:X.fn x=true∨X.env.scope.names.lookup x=some .local:=by first|exact .inl rfl|exact .inr rfl|assumption) :
  PS X (.Assign [.Name x pos'] e pos) (tAsg te (zbv2 i)):=zcj1 hN hi hx he hs hf
section
variable {K:zcy1}{H:Hp}{Q:VK}{p:Addr}{xs:List V}{i j:Int}
theorem zh6 (h1:-18446744073709551616<i) (h2:i<18446744073709551616) (q:Q (.int (i*j)) H):zbm8 i j H Q:=zw9 (.of_left (intBits_le_64 (by simpa using h1) (by simpa using h2))) q
theorem zba9 (h1:-18446744073709551616<j) (h2:j<18446744073709551616) (q:Q (.int (i*j)) H):zbm8 i j H Q:=zw9 (.of_right (intBits_le_64 (by simpa using h1) (by simpa using h2))) q
theorem zh0 (h:0<j) (q:∀ r:Int,0<=r->r<j->Q (.int r) H):zbt1 i j H Q:=zaa5 h (q _ (zdg0 _ (by omega)) (zde3 _ h))
theorem zbj8 (h:H p=some (.lst xs)) (h0:0<=i) (h1:i<xs.length) (q:∀ v,v∈xs->Q v H):rIxA K p i H Q:=by
 have hl:i.toNat<xs.length:=by omega
 refine zb9 h (v:=xs[i.toNat]) ?_ (q _ (zde4 hl))
 have e:((i.toNat:Nat):Int)=i:=by omega
 have z:=zc5 (zcx9 hl)
 rw[e] at z
 exact z
theorem hu40 {A:Around}{k:Nat}(hr:Room k A):A.units+40<cLine:=by have:=hr.units;omega
end
@[irreducible] def qCut (t:TS):TS:=fun D σ H=>∃ R:St->Hp->Prop,t { D with nx:=R } σ H/\∀ σ' H',R σ' H'->D.nx σ' H'
theorem zad6 {st:Stmt}{t:TS}(h:PS X st t):PS X st (qCut t):=fun pins s σ H D I hq=>by
 unfold qCut at hq
 obtain⟨R,h1,h2⟩:=hq
 refine thn (h pins s σ H _ I h1) fun f s' q=>?_
 cases f with
 | next=>obtain⟨σ',H',I',z⟩:=q;exact⟨σ',H',I',h2 _ _ z⟩
 | brk=>exact q
 | cont=>exact q
 | ret u=>exact q
theorem zan1 {t:TS}{D:Ends}{σ:St}{H:Hp}(R:St->Hp->Prop) (h1:t { D with nx:=R } σ H) (h2:∀ σ' H',R σ' H'->D.nx σ' H'):qCut t D σ H:=by unfold qCut;exact⟨R,h1,h2⟩
theorem zag9 {t:TS}{D:Ends}{σ:St}{H:Hp}(h1:t D σ H):qCut t D σ H:=by unfold qCut;exact⟨D.nx,h1,fun _ _ h=>h⟩
theorem EqR.ints2 {K:zcy1}{H:Hp}{a b:Addr}{t u x y:Int}(ha:H a=some (.tup [.int t,.int u])) (hb:H b=some (.tup [.int x,.int y])):EqR K H 1 (.ref a) (.ref b) (decide (t=x/\u=y)):=by
 have h:=EqR.tup (K:=K) (H:=H) (n:=0) (fun j=>match j with|0=>decide (t=x)|1=>decide (u=y)|_=>true) (SqT.of ha) (SqT.of hb) (fun j p q hp hq=>by
  have fl:∀ (i k:Int),EqR K H 0 (.int i) (.int k) (decide (i=k)):=fun i k=>by
   have:=EqR.flat (K:=K) (H:=H) (n:=0) (x:=.int i) (y:=.int k) rfl rfl
   have e:eqV (.int i) (.int k)=decide (i=k):=by
    by_cases z:i=k
    ·subst z;simp[eqV]
    ·simp[eqV,z]
   rw[e] at this;exact this
  match j with
  | 0=>simp at hp hq;subst hp hq;exact fl t x
  | 1=>simp at hp hq;subst hp hq;exact fl u y
  | j+2=>simp at hp)
 have e:((List.range (min [V.int t,V.int u].length [V.int x,V.int y].length)).all (fun j=>match j with|0=>decide (t=x)|1=>decide (u=y)|_=>true)&&([V.int t,V.int u].length==[V.int x,V.int y].length))=decide (t=x/\u=y):=by
  show ((decide (t=x)&&(decide (u=y)&&true))&&true)=_
  rw[Bool.and_true,Bool.and_true,Bool.decide_and]
 rw[e] at h
 exact h
end
end L2
set_option maxHeartbeats 2000000
namespace L2
open PySem PySem.Spec PyProof.Rows
theorem zae7 {env:Env}:∀ (names:List (Str×NameKind)) (acc:List (Str×Addr)),(∀ x∈names,x.2=.free->∃ c,env.cells.lookup x.1=some c) ->
  ∃ acc',(forIn (m:=Sem) names acc (fun (x:Str×NameKind) (r:List (Str×Addr))=>if (x.2==.free)=true then (do let c ← cellOf env x.1;pure (ForInStep.yield ((x.1,c) :: r))) else pure (ForInStep.yield r)))=pure acc' /\
   (∀ x c,acc'.lookup x=some c->acc.lookup x=some c∨env.cells.lookup x=some c)/\(∀ x c,acc.lookup x=some c->∃ c',acc'.lookup x=some c')/\∀ x∈names,x.2=.free->∃ c,acc'.lookup x.1=some c
 | [],acc,_=>⟨acc,rfl,fun _ _ h=>.inl h,fun _ c h=>⟨c,h⟩,fun _ h=>by cases h⟩
 | (n,k) :: r,acc,h=>by
  by_cases hk:k=.free
  ·subst hk
   obtain⟨c,hc⟩:=h (n,.free) zdc5 rfl
   obtain⟨acc',e,h1,h2,h3⟩:=zae7 r ((n,c) :: acc) fun x hx=>h x (zdb8 _ hx)
   have hco:cellOf env n=pure c:=by unfold cellOf;rw[hc]
   refine⟨acc',?_,fun x d hd=>?_,fun x d hd=>?_,fun x hx hf=>?_⟩
   ·rw[List.forIn_cons]
    simp only[hco]
    exact e
   ·rcases h1 x d hd with q|q
    ·rw[zdc4] at q
     split at q
     ·rename_i hx
      have hx:x=n:=by simpa using hx
      subst hx
      cases q
      exact .inr hc
     ·exact .inl q
    ·exact .inr q
   ·by_cases hx:x=n
    ·subst hx
     exact h2 x c (by simp[zdc4])
    ·refine h2 x d ?_
     rw[zdc4]
     have:(x==n)=false:=by simpa using hx
     rw[this];exact hd
   ·rcases zcz5.mp hx with rfl|hx
    ·exact h2 n c (by simp[zdc4])
    ·exact h3 x hx hf
  ·obtain⟨acc',e,h1,h2,h3⟩:=zae7 r acc fun x hx=>h x (zdb8 _ hx)
   refine⟨acc',?_,h1,h2,fun x hx hf=>?_⟩
   ·rw[List.forIn_cons]
    have:(k==NameKind.free)=false:=by simpa using hk
    simp only[this]
    exact e
   ·rcases zcz5.mp hx with rfl|hx
    ·exact absurd hf hk
    ·exact h3 x hx hf
theorem zao4 {scope:Scope}{env:Env}(h:∀ x∈scope.names,x.2=.free->∃ c,env.cells.lookup x.1=some c) :
  ∃ cl,closureFor scope env=pure cl/\(∀ x c,cl.lookup x=some c->env.cells.lookup x=some c)/\∀ x∈scope.names,x.2=.free->∃ c,cl.lookup x.1=some c:=by
 obtain⟨cl,e,h1,_,h3⟩:=zae7 (env:=env) scope.names [] h
 refine⟨cl,?_,fun x c hc=>(h1 x c hc).elim (fun q=>by cases q) id,h3⟩
 unfold closureFor
 show (forIn (m:=Sem) scope.names ([]:List (Str×Addr)) _ >>= fun r=>pure r)=_
 rw[e]
 rfl
theorem zag8 {env:Env}:∀ {names:List (Str×NameKind)}{x:Str},names.lookup x=some .free ->
  (names.map fun (n,k)=>if (k==NameKind.free&&env.scope.kind==.function&&env.kindOf n==some .cell) then (n,NameKind.cell) else (n,k)).lookup x=some .cell ∨
  (names.map fun (n,k)=>if (k==NameKind.free&&env.scope.kind==.function&&env.kindOf n==some .cell) then (n,NameKind.cell) else (n,k)).lookup x=some .free
 | [],_,h=>by simp at h
 | (n,k) :: r,x,h=>by
  have ih:=@zag8 env r x
  show List.lookup x ((if (k==NameKind.free&&env.scope.kind==.function&&env.kindOf n==some .cell)=true then (n,NameKind.cell) else (n,k)) :: _)=_∨List.lookup x ((if (k==NameKind.free&&env.scope.kind==.function&&env.kindOf n==some .cell)=true then (n,NameKind.cell) else (n,k)) :: _)=_
  cases hx:x==n with
  | true=>
   simp only[zdc4,hx] at h
   cases h
   by_cases hc:(NameKind.free==NameKind.free&&env.scope.kind==.function&&env.kindOf n==some .cell)=true
   ·left;rw[if_pos hc];simp only[zdc4,hx]
   ·right;rw[if_neg hc];simp only[zdc4,hx]
  | false=>
   simp only[zdc4,hx] at h
   by_cases hc:(k==NameKind.free&&env.scope.kind==.function&&env.kindOf n==some .cell)=true
   ·rw[if_pos hc];simp only[zdc4,hx];exact ih h
   ·rw[if_neg hc];simp only[zdc4,hx];exact ih h
theorem zx9 {env:Env}:∀ {names:List (Str×NameKind)}{x:Str}{k':NameKind},(∀ y∈names,y.2≠.cell)->(k'=.cell∨k'=.free) ->
  (names.map fun (n,k)=>if (k==NameKind.free&&env.scope.kind==.function&&env.kindOf n==some .cell) then (n,NameKind.cell) else (n,k)).lookup x=some k'->∃ y∈names,y.1=x/\y.2=.free
 | [],_,_,_,_,h=>by simp at h
 | (n,k) :: r,x,k',hn,hk,h=>by
  have ih:=@zx9 env r x k' (fun y hy=>hn y (zdb8 _ hy)) hk
  replace h:List.lookup x ((if (k==NameKind.free&&env.scope.kind==.function&&env.kindOf n==some .cell)=true then (n,NameKind.cell) else (n,k)) :: List.map (fun (n,k)=>if (k==NameKind.free&&env.scope.kind==.function&&env.kindOf n==some .cell) then (n,NameKind.cell) else (n,k)) r)=some k':=h
  cases hx:x==n with
  | true=>
   have hx':x=n:=by simpa using hx
   by_cases hf:k=.free
   ·exact⟨(n,k),zdc5,hx'.symm,hf⟩
   ·have hc:¬ (k==NameKind.free&&env.scope.kind==.function&&env.kindOf n==some .cell)=true:=by
     have:(k==NameKind.free)=false:=by simpa using hf
     rw[this];simp
    rw[if_neg hc] at h
    simp only[zdc4,hx] at h
    have:k=k':=Option.some.inj h
    subst this
    rcases hk with hk|hk
    ·exact absurd hk (hn (n,k) zdc5)
    ·exact absurd hk hf
  | false=>
   have h':List.lookup x (List.map (fun (n,k)=>if (k==NameKind.free&&env.scope.kind==.function&&env.kindOf n==some .cell) then (n,NameKind.cell) else (n,k)) r)=some k':=by
    by_cases hc:(k==NameKind.free&&env.scope.kind==.function&&env.kindOf n==some .cell)=true
    ·rw[if_pos hc] at h;simp only[zdc4,hx] at h;exact h
    ·rw[if_neg hc] at h;simp only[zdc4,hx] at h;exact h
   obtain⟨y,hy,h1,h2⟩:=ih h'
   exact⟨y,zdb8 _ hy,h1,h2⟩
def blk (X:Cx) (N:List Str) (scope:Scope) (cl:List (Str×Addr)) (C:Addr) (s3:Shared) (H3:Hp) (fp:List Addr):Cx:=
 { X with N:=N,s₀:=s3,H₀:=H3,env:=compEnvC scope cl C X.env,outer:=X.stack,ex:=fp,fn:=fun _=>false,pn:=[],xe:=fun _ _=>False }
def PTs (X:Cx) (ifs:List Expr) (t:TT):Prop:=
 ∀ (pins:List (Addr×Obj)) (s:Shared) (σ:St) (H:Hp) (Q:Bool->Hp->Prop),Inv X pins σ H s->t σ H Q ->
  wpAny (model X.prog X.w) X.A (forIn ifs true fun c r=>if r=true then do let ok ← isTrue c X.env (eval c X.env);pure (ForInStep.yield ok) else pure (ForInStep.yield r)) (TP X pins σ Q) X.xe s
theorem zd5 {X:Cx}:PTs X [] (fun _ H Q=>Q true H):=fun _ _ _ H _ I h=>wpAny_tests_nil ⟨H,I,h⟩
@[irreducible] def cPut (W:Nat->Nat->List V->St->Hp->Prop) (acc:Addr) (ys:List V) (i m:Nat) (σ2:St) (v:V) (H5:Hp):Prop:=
 H5 acc=some (.lst ys)/\∀ H6,Chg acc H5 H6->H6 acc=some (.lst (ys++[v]))->∃ m',m'<m/\W (i+1) m' (ys++[v]) σ2 H6
@[irreducible] def zba7 (W:Nat->Nat->List V->St->Hp->Prop) (ys:List V) (i m:Nat) (σ2:St) (H4:Hp):Prop:=∃ m',m'<m/\W (i+1) m' ys σ2 H4
@[irreducible] def zas0 (J:It) (g:TG) (tt:TT) (te:TE) (σ0:St) (H1:Hp) (Q:VK):Prop:=
 ∀ acc H2,H1 acc=none->Same H1 H2->H2 acc=some (.lst [])->∃ W:Nat->Nat->List V->St->Hp->Prop,(∃ m,W 0 m [] σ0 H2)/\∀ i m ys σ H,W i m ys σ H->H acc=some (.lst ys)/\ys.length<sizeLine /\
  ((J.stop i H/\Q (.ref acc) H)∨(J.go i H/\∀ x H',J.yld i H x H'->g x σ H' fun σ2 H3=>tt σ2 H3 fun b H4=>
   br b (te σ2 H4 fun v H5=>cPut W acc ys i m σ2 v H5) (zba7 W ys i m σ2 H4)))
section
variable {X:Cx}{pins:List (Addr×Obj)}{σ:St}{H:Hp}{s2:Shared}
theorem zcm2 {N:List Str}{scope:Scope}{cl:List (Str×Addr)}{C:Addr}{s3 s4:Shared}{H3:Hp}{fp:List Addr}{σc:St}(I:Inv X pins σ H3 s3)
  (hcl1:∀ x c,cl.lookup x=some c->X.env.cells.lookup x=some c) (hcl2:∀ x∈scope.names,x.2=.free->∃ c,cl.lookup x.1=some c) (hkind:scope.kind=.function) (hcell:∀ y∈scope.names,y.2≠.cell)
  (hcap:∀ (i:Nat) (x:Str) (v:V),N[i]?=some x->σc[i]?=some (some v)->∃ j:Nat,X.N[j]?=some x/\σ[j]?=some (some v)/\scope.names.lookup x=some .free/\(X.env.kindOf x=some .cell∨X.env.kindOf x=some .free))
  (hlen:σc.length=N.length) (hC:s3.heap.objs.size=C) (hfp:∀ b∈fp,FpOk X pins H3 b) (hfpl:∀ b∈fp,b<C) (hex:∀ b o,X.base.get? b=some o->b ∉ fp) (hns:∃ m,s4.heap.Ns C m) (hk:∀ b o,s3.heap.get? b=some o->s4.heap.get? b=some o) (h4:s4.os=s3.os) (h5:s4.gens=s3.gens) :
  Inv (blk X N scope cl C s3 H3 fp) [] σc H3 s4:=by
 subst hC
 have look:∀ x,(blk X N scope cl s3.heap.objs.size s3 H3 fp).env.kindOf x=(relabel scope X.env).names.lookup x:=fun x=>rfl
 have cne:∀ x c,cl.lookup x=some c->c<s3.heap.objs.size:=fun x c h=>by
  obtain⟨v,o,ho,_⟩:=I.cell x c (hcl1 x c h)
  exact zcz7 ho
 refine⟨⟨I.ok.mod,?_,I.ok.glob,I.ok.blt,zcz6 _,fun x y c h1 h2=>I.ok.inj x y c (hcl1 _ _ h1) (hcl1 _ _ h2),fun x hx=>?_,fun x c h=>?_,I.ok.hd,I.ok.frames,.inl rfl,fun b hb=>⟨zda8 (hfpl b hb),fun x c h=>?_⟩,fun b o e=>I.bs b o e,zdb4 I.ok.bsz I.sz,fun b o e=>hex b o e,fun b hb=>?_,I.stack,I.stkFree⟩,
  h4,by rw[h5];exact I.bare,Un.kept hk,?_,fun x c h=>?_,I.hok.fresh (zcz6 _),fun x c h=>I.freeC x c (hcl1 _ _ h),fun p hp=>(by cases hp),I.hok.kept hk,hlen⟩
 ·exact hkind
 ·have hx':(relabel scope X.env).names.lookup x=some .cell∨(relabel scope X.env).names.lookup x=some .free:=hx
  have hz:∃ y∈scope.names,y.1=x/\y.2=.free:=by
   rcases hx' with q|q
   ·exact zx9 hcell (.inl rfl) q
   ·exact zx9 hcell (.inr rfl) q
  obtain⟨y,hy,rfl,hf⟩:=hz
  exact hcl2 y hy hf
 ·exact absurd (show false=true from h) zcz0
 ·exact (hfp b hb).2.2.2.2.1 x c (hcl1 x c h)
 ·have:=(hfp b hb).1
  intro hz
  obtain⟨f0,f1,f2,_⟩:=hfp b hb
  have hz:b∈frs X.stack:=hz
  rcases zcz5.mp (I.stkSub b hz) with q|q
  ·exact f1 q
  ·exact f2 q
 ·obtain⟨m,hm⟩:=hns
  refine⟨m,hm,fun i x v h1 h2 h3=>?_⟩
  obtain⟨j,e1,e2,e3,e4⟩:=hcap i x v h1 h2
  obtain⟨mX,_,hl⟩:=I.loc
  obtain⟨u,r,q⟩:=hl j x v e1 e2 (by rcases e4 with e4|e4;exact .inr (.inl e4);exact .inr (.inr e4))
  refine⟨u,r,.inr ⟨zag8 e3,?_⟩⟩
  obtain⟨c,hc⟩:=hcl2 (x,.free) (PySem.mem_of_lookup e3) rfl
  refine⟨c,hc,?_⟩
  have hc':=hcl1 x c hc
  rcases q with ⟨k,_⟩|⟨_,c2,e5,o,ho,hd⟩
  ·rcases e4 with e4|e4<;>rw[e4] at k<;>cases k
  ·rw[hc'] at e5
   cases e5
   exact⟨o,hk _ _ ho,hd⟩
 ·obtain⟨v,o,ho,hd⟩:=I.cell x c (hcl1 x c h)
  exact⟨v,o,hk _ _ ho,hd⟩
theorem zbx3 {prog:Program}{w:World}{A:Around}{R:Result->Shared->Prop}{s:Shared}{elt target iter:Expr}{ifs:List Expr}{scope:Scope}{pos:Pos}{it acc:Value}{env:Env}(I:Nat->Shared->Prop)
  (turn:∀ n s,I n s->wpAny (model prog w) A (pyNext it) (fun r s₁=>match r with
   | none=>R (.ok .next) s₁
   | some v=>wpAny (model prog w) A (letOwnedTupleGo target it v) (fun _ s₁'=>wpAny (model prog w) A (assign target env v) (fun _ s₂=>
     wpAny (model prog w) A (forIn ifs true fun c r=>if r=true then do let ok ← isTrue c env (eval c env);pure (ForInStep.yield ok) else pure (ForInStep.yield r)) (fun ok s₃=>
      if ok=true then wpAny (model prog w) A (eval elt env) (fun x s₄=>
       wpAny (model prog w) A (call (.builtin "list.append") [acc,x]) (fun _ s₅=>∃ m,m<n/\I m s₅) (fun _ _=>False) s₄) (fun _ _=>False) s₃
      else ∃ m,m<n/\I m s₃) (fun _ _=>False) s₂) (fun _ _=>False) s₁') (fun _ _=>False) s₁) (fun _ _=>False) s)
  (n:Nat) (h:I n s):codeAny (model prog w) A (.compLoop (.ListComp elt [⟨target,iter,ifs,0⟩] scope pos) 0 it acc env) R s:=by
 refine codeAny_loop rfl I (fun n s hI=>?_) n h
 show wpAny _ A ((compTurn (.ListComp elt [⟨target,iter,ifs,0⟩] scope pos) 0 it acc env).onRaise (fun x=>do noteFrame x env;theTreesLotGoes x)) _ _ s
 refine wpAny_noted ?_
 rw[compTurn_list]
 refine wpAny_bind (wpAny_standAt (wpAny_bind (wpAny_mono (turn n s hI) (fun r s₁ h₁=>?_) fun _ _ h'=>h'.elim)))
 cases r with
 | none=>exact wpAny_pure h₁
 | some v=>
  refine wpAny_bind (wpAny_mono h₁ (fun _ s₁' h₁'=>?_) fun _ _ h'=>h'.elim)
  refine wpAny_bind (wpAny_mono h₁' (fun _ s₂ h₂=>wpAny_bind (wpAny_mono h₂ (fun ok s₃ h₃=>?_) fun _ _ h'=>h'.elim)) fun _ _ h'=>h'.elim)
  cases ok with
  | false=>exact wpAny_pure ⟨rfl,h₃⟩
  | true=>
   exact wpAny_bind (wpAny_bind (wpAny_mono h₃ (fun x s₄ h₄=>wpAny_bind (wpAny_mono h₄ (fun _ s₅ h₅=>wpAny_pure (wpAny_pure ⟨rfl,h₅⟩)) fun _ _ h'=>h'.elim)) fun _ _ h'=>h'.elim))
theorem zaz4 {E:Value->Shared->Prop}{elt tg iter:Expr}{ifs:List Expr}{scope:Scope}{pos:Pos}{cl:List (Str×Addr)}{N:List Str}{σc:St}{J:It}{fp:List Addr}{it:Addr}{tn:Nat->Heap->Prop}{g:TG}{tt:TT}{te:TE}{Q:VK}
  {RR:Value->Addr->Result->Shared->Prop}
  (hcl1:∀ x c,cl.lookup x=some c->X.env.cells.lookup x=some c) (hcl2:∀ x∈scope.names,x.2=.free->∃ c,cl.lookup x.1=some c) (hkind:scope.kind=.function) (hcell:∀ y∈scope.names,y.2≠.cell)
  (hcap:∀ (i:Nat) (x:Str) (v:V),N[i]?=some x->σc[i]?=some (some v)->∃ j:Nat,X.N[j]?=some x/\σ[j]?=some (some v)/\scope.names.lookup x=some .free/\(X.env.kindOf x=some .cell∨X.env.kindOf x=some .free))
  (hlen:σc.length=N.length) (hc:X.calm=true) (I:Inv X pins σ H s2) (T:Turn X.prog X.w X.K tg J fp it tn) (st:tn 0 s2.heap) (fpok:∀ b∈fp,FpOk X pins H b)
  (hg:∀ C s3 H3 fp,PG (blk X N scope cl C s3 H3 fp) tg g) (ht:∀ C s3 H3 fp,PTs (blk X N scope cl C s3 H3 fp) ifs tt) (he:∀ C s3 H3 fp,PE (blk X N scope cl C s3 H3 fp) elt te)
  (h:zas0 J g tt te σc H Q)
  (hRR:∀ (acc C:Addr) (H':Hp) (s':Shared),Inv X pins σ H' s'->FpOk X pins H' C->(∃ m,s'.heap.Ns C m)->Q (.ref acc) H'->RR (.ref acc) C (.ok .next) s') :
  wpAny (model X.prog X.w) X.A (newList []) (fun acc s₃=>wpAny (model X.prog X.w) X.A (newFunctionEnv scope X.env.globals cl [] X.env.qual none .none (some X.env)) (fun cenv s₄=>
   codeAny (model X.prog X.w) X.A (.compStart (.ListComp elt [⟨tg,iter,ifs,0⟩] scope pos) 0 (.ref it) acc { cenv with scope:=relabel scope X.env }) (RR acc cenv.locals) s₄) E s₃) E s2:=by
 refine wpAny_newObj_type (wpAny_newFunctionEnv hcell (by intro y hy;simp at hy) (fun h₁ hns₁ hsb₁=>?_) hkind)
 dsimp only at hns₁ hsb₁ ⊢
 have hf:H s2.heap.objs.size=none:=I.fresh
 have I3:Inv X pins σ (upd H s2.heap.objs.size (.lst [])) { s2 with heap:=s2.heap.push { cls:=.type "list",data:=.seq ([]:List Value).toArray } }:=I.lnew (t':=s2.toks) (its:=[]) .nil (zda6 _)
 generalize hs3:({ s2 with heap:=s2.heap.push { cls:=.type "list",data:=.seq ([]:List Value).toArray } }:Shared)=s3 at I3
 have hH:s2.heap.push { cls:=.type "list",dict:=none,data:=.seq ([]:List Value).toArray }=s3.heap:=by rw[← hs3]
 rw[hH] at hns₁ hsb₁ ⊢
 have hsz:s3.heap.objs.size=s2.heap.objs.size+1:=by rw[← hH,zdf6]
 have old23:∀ b o,s2.heap.get? b=some o->s3.heap.get? b=some o:=fun b o e=>by rw[← hH];exact zcy5 _ e
 have fplt:∀ b∈fp,b<s2.heap.objs.size:=fun b hb=>by
  obtain⟨o,e,_⟩:=T.obj 0 _ st b hb
  exact zcz7 e
 have fp3:∀ b∈fp,FpOk X pins (upd H s2.heap.objs.size (.lst [])) b:=fun b hb=>by
  obtain⟨f0,f1⟩:=fpok b hb
  refine⟨?_,f1⟩
  rw[zc9 (zda8 (fplt b hb))]
  exact f0
 have old34:∀ b o,s3.heap.get? b=some o->h₁.get? b=some o:=fun b o e=>hsb₁.extBut b o (zda8 (zcz7 e)) (zcy5 _ e)
 have nob:∀ b o,X.base.get? b=some o->b ∉ fp:=fun b o e hb=>by
  obtain⟨_,_,_,f3,_,_⟩:=fpok b hb
  rcases f3 with f3|f3
  ·exact I.ok.noex b o e f3
  ·exact absurd (zdb1 (zcz7 e) I.ok.bsz) (Nat.not_lt.mpr f3)
 have hs4e:({ s2 with heap:=h₁,toks:=s2.toks+([]:List (Str×Value)).length }:Shared).os=s3.os:=by rw[← hs3]
 have hs4g:({ s2 with heap:=h₁,toks:=s2.toks+([]:List (Str×Value)).length }:Shared).gens=s3.gens:=by rw[← hs3]
 have I4:Inv (blk X N scope cl s3.heap.objs.size s3 (upd H s2.heap.objs.size (.lst [])) fp) [] σc (upd H s2.heap.objs.size (.lst [])) { s2 with heap:=h₁,toks:=s2.toks+([]:List (Str×Value)).length }:=
  zcm2 (s4:={ s2 with heap:=h₁,toks:=s2.toks+([]:List (Str×Value)).length }) I3 hcl1 hcl2 hkind hcell hcap hlen rfl fp3 (fun b hb=>zdb1 (fplt b hb) (by rw[hsz];exact Nat.le_succ _)) nob ⟨_,hns₁⟩ old34 hs4e hs4g
 have st4:tn 0 h₁:=T.keep _ _ _ st fun b hb o e=>old34 b o (old23 b o e)
 unfold zas0 at h
 obtain⟨W,⟨m0,w0⟩,turn⟩:=h s2.heap.objs.size _ hf (Same.upd hf) zc4
 have loop:codeAny (model X.prog X.w) X.A (.compLoop (.ListComp elt [⟨tg,iter,ifs,0⟩] scope pos) 0 (.ref it) (.ref s2.heap.objs.size) (blk X N scope cl s3.heap.objs.size s3 (upd H s2.heap.objs.size (.lst [])) fp).env)
   (RR (.ref s2.heap.objs.size) s3.heap.objs.size) { s2 with heap:=h₁,toks:=s2.toks+([]:List (Str×Value)).length }:=by
  refine zbx3 (fun n s'=>∃ i ys σ' H',Inv (blk X N scope cl s3.heap.objs.size s3 (upd H s2.heap.objs.size (.lst [])) fp) [] σ' H' s'/\tn i s'.heap/\(∀ b∈fp,H' b=none)/\W i n ys σ' H') ?_ m0 ⟨0,[],σc,_,I4,st4,fun b hb=>(fp3 b hb).1,w0⟩
  rintro n s5 ⟨i,ys,σ5,H5,I5,st5,fr5,w5⟩
  obtain⟨hacc,hl5,hcase⟩:=turn i n ys σ5 H5 w5
  have stat:∀ {H':Hp},(∀ b∈fp,H' b=none)->∀ b∈fp,FpOk (blk X N scope cl s3.heap.objs.size s3 (upd H s2.heap.objs.size (.lst [])) fp) [] H' b:=fun hn b hb=>by
   obtain⟨_,f1,f2,f3,f4,_⟩:=fpok b hb
   refine⟨hn b hb,zda8 (zdb1 (fplt b hb) (by rw[hsz];exact Nat.le_succ _)),fun hz=>?_,.inl hb,fun x c hx=>f4 x c (hcl1 x c hx),fun p hp=>by cases hp⟩
   rcases zcz5.mp (I.stkSub b hz) with q|q
   ·exact f1 q
   ·exact f2 q
  rcases hcase with ⟨stop,hq⟩|⟨go,step⟩
  ·refine thn (T.done (blk X N scope cl s3.heap.objs.size s3 (upd H s2.heap.objs.size (.lst [])) fp) rfl rfl rfl hc i [] s5 σ5 H5 (fun _ _=>False) I5 (stat fr5) st5 stop) fun r s6 ⟨hr,I6⟩=>?_
   subst hr
   have u1:Un (frs X.stack) fp H (upd H s2.heap.objs.size (.lst [])) s2.heap s3.heap:=Un.laid old23 (zcz6 _) hf
   have u2:Un (frs X.stack) fp (upd H s2.heap.objs.size (.lst [])) H5 s3.heap s6.heap:=I6.base
   have hC:H5 s3.heap.objs.size=none:=I6.free
   obtain⟨m6,hm6,_⟩:=I6.loc
   have hos:s6.os=s2.os:=by rw[I6.os];show s3.os=s2.os;rw[← hs3]
   have hok6:=I6.hok
   have bare6:=I6.bare
   obtain⟨hh,gg,dd,tt',os'⟩:=s6
   obtain rfl:os'=s2.os:=hos
   exact hRR _ _ H5 _ (I.call (h':=hh) (g':=gg) (d':=dd) (t':=tt') (ch:=fp) (u1.trans u2) hok6 bare6 fun b hb=>⟨(fpok b hb).2.2.2.1,(fpok b hb).2.1,(fpok b hb).2.2.2.2.1,(fpok b hb).2.2.2.2.2⟩)
    (I.fpOk (by rw[hsz];exact Nat.le_succ _) hC) ⟨m6,hm6⟩ hq
  ·refine thn (T.item (blk X N scope cl s3.heap.objs.size s3 (upd H s2.heap.objs.size (.lst [])) fp) rfl rfl rfl hc i [] s5 σ5 H5 (fun _ _=>False) I5 (stat fr5) st5 go) fun r s6 ⟨u,hr,h6⟩=>?_
   subst hr
   refine thn h6 fun _ s7 ⟨x,H7,I7,r7,y7,st7,fr7⟩=>?_
   have I7':=I7.pinned (stat fr7) (T.obj _ _ st7)
   refine thn (hg _ _ _ _ _ s7 σ5 H7 x u _ I7' r7 (step x H7 y7)) fun _ s8 ⟨σ8,H8,I8,q8⟩=>?_
   refine thn (ht _ _ _ _ _ s8 σ8 H8 _ I8 q8) fun ok s9 ⟨H9,I9,q9⟩=>?_
   have again:∀ {s10:Shared}{σ10:St}{H10:Hp}{zs:List V},Inv (blk X N scope cl s3.heap.objs.size s3 (upd H s2.heap.objs.size (.lst [])) fp) ([]++zba4 fp s7.heap) σ10 H10 s10->(∃ m',m'<n/\W (i+1) m' zs σ10 H10) ->
     ∃ m,m<n/\∃ i ys σ' H',Inv (blk X N scope cl s3.heap.objs.size s3 (upd H s2.heap.objs.size (.lst [])) fp) [] σ' H' s10/\tn i s10.heap/\(∀ b∈fp,H' b=none)/\W i m ys σ' H':=fun {s10 σ10 H10 zs} I10 ⟨m',hm,w10⟩=>by
    refine⟨m',hm,i+1,zs,σ10,H10,I10.unpinned,T.keep _ _ _ st7 fun b hb o e=>(I10.pin (b,o) (zdc1 _ (zdc1 _ (zz6 hb e)))).1,fun b hb=>?_,w10⟩
    obtain⟨o,e,d⟩:=T.obj _ _ st7 b hb
    exact (I10.pin (b,o) (zdc1 _ (zdc1 _ (zz6 hb e)))).2.1
   dsimp only at q9
   rw[zaj9] at q9
   cases ok with
   | false=>
    have q9:∃ m',m'<n/\W (i+1) m' ys σ8 H9:=by rw[if_neg zcz0] at q9;unfold zba7 at q9;exact q9
    exact again I9 q9
   | true=>
    have q9:=(if_pos rfl▸q9:te σ8 H9 _)
    refine thn (he _ _ _ _ _ s9 σ8 H9 _ I9 q9) fun v s10 ⟨y,H10,I10,r10,q10⟩=>?_
    unfold cPut at q10
    obtain⟨e10,q10⟩:=q10
    refine thn (zaw2 _ s10 σ8 H10 (.ref s2.heap.objs.size) [y] (.ref s2.heap.objs.size) [v] (fun _ H11=>∃ m',m'<n/\W (i+1) m' (ys++[y]) σ8 H11) I10 rfl (.cons r10 .nil) ⟨_,ys,y,rfl,rfl,e10,hl5,q10 _ Chg.upd zc4⟩) fun _ s11 ⟨z,H11,I11,_,q11⟩=>?_
    exact again I11 q11
 exact codeAny_compStart_list loop (T.self _ 0 _ _ _ st4 loop)
def capS (ks:List (Option Nat)) (σ:St):St:=ks.map fun k=>match k with
 | none=>none
 | some j=>(σ[j]?).join
inductive zak7 (X:Cx) (scope:Scope):List Str->List (Option Nat)->Prop where
 | nil:zak7 X scope [] []
 | skip {x:Str}{N:List Str}{ks:List (Option Nat)}(t:zak7 X scope N ks):zak7 X scope (x :: N) (none :: ks)
 | take {x:Str}{N:List Str}{ks:List (Option Nat)}{j:Nat}(h1:X.N[j]?=some x) (h2:scope.names.lookup x=some .free) (h3:X.env.kindOf x=some .cell∨X.env.kindOf x=some .free) (t:zak7 X scope N ks):zak7 X scope (x :: N) (some j :: ks)
theorem zak7.cap {scope:Scope}{N:List Str}{ks:List (Option Nat)}(h:zak7 X scope N ks) (σ:St):∀ (i:Nat) (x:Str) (v:V),N[i]?=some x->(capS ks σ)[i]?=some (some v)->∃ j:Nat,X.N[j]?=some x/\σ[j]?=some (some v)/\scope.names.lookup x=some .free/\(X.env.kindOf x=some .cell∨X.env.kindOf x=some .free):=by
 induction h with
 | nil=>intro i x v h;simp at h
 | skip t ih=>
  intro i x v h1 h2
  cases i with
  | zero=>simp[capS] at h2
  | succ i=>exact ih i x v (by simpa using h1) (by simpa [capS] using h2)
 | take a b c t ih=>
  intro i x v h1 h2
  cases i with
  | zero=>
   simp only[List.getElem?_cons_zero,Option.some.injEq] at h1
   subst h1
   refine⟨_,a,?_,b,c⟩
   simpa [capS,Option.join_eq_some_iff] using h2
  | succ i=>exact ih i x v (by simpa using h1) (by simpa [capS] using h2)
theorem zak7.len {scope:Scope}{N:List Str}{ks:List (Option Nat)}(h:zak7 X scope N ks) (σ:St):(capS ks σ).length=N.length:=by
 have:ks.length=N.length:=by
  induction h with
  | nil=>rfl
  | skip t ih=>simp[ih]
  | take a b c t ih=>simp[ih]
 simp[capS,this]
def qComp (ks:List (Option Nat)) (wi:TI) (g:TG) (tt:TT) (te:TE):TE:=fun σ H Q=>wi σ H fun J H1=>zas0 J g tt te (capS ks σ) H1 Q
def freeB (scope:Scope) (f:Str->Option NameKind):Bool:=scope.names.all fun x=>x.2 != .free || (f x.1==some .cell || f x.1==some .free)
def zbj2 (scope:Scope):Bool:=scope.names.all (fun x=>x.2 != .cell)&&scope.names.all fun x=>x.2 != .local || scope.names.lookup x.1==some .local
theorem zbi4 {scope:Scope}{f:Str->Option NameKind}(h:freeB scope f=true):∀ x∈scope.names,x.2=.free->f x.1=some .cell∨f x.1=some .free:=fun x hx hf=>by
 have:=zda9.mp h x hx
 simpa [hf] using this
theorem zau7 {scope:Scope}(h:zbj2 scope=true):(∀ y∈scope.names,y.2≠.cell)/\∀ x∈scope.names,x.2=.local->scope.names.lookup x.1=some .local:=by
 unfold zbj2 at h
 rw[zdb3] at h
 refine⟨fun y hy=>?_,fun x hx hl=>?_⟩
 ·have:=zda9.mp h.1 y hy
  simpa using this
 ·have:=zda9.mp h.2 x hx
  simpa [hl] using this
theorem zj2 {elt tg iter:Expr}{ifs:List Expr}{scope:Scope}{pos:Pos}{N:List Str}{ks:List (Option Nat)}{wi:TI}{g:TG}{tt:TT}{te:TE}(hi:PI X tg iter wi)
  (hg:∀ cl C s3 H3 fp,PG (blk X N scope cl C s3 H3 fp) tg g) (ht:∀ cl C s3 H3 fp,PTs (blk X N scope cl C s3 H3 fp) ifs tt) (he:∀ cl C s3 H3 fp,PE (blk X N scope cl C s3 H3 fp) elt te) (hcap:zak7 X scope N ks)
  (hc:X.calm=true:=by rfl) (hkind:scope.kind=.function:=by rfl) (hb:freeB scope X.env.kindOf=true:=by rfl) (hn:zbj2 scope=true:=by rfl) (hs:∀ x,foldedSetIterable iter X.env x=pure x:=by intro _;rfl) :
  PE X (.ListComp elt [⟨tg,iter,ifs,0⟩] scope pos) (qComp ks wi g tt te):=by
 intro pins s σ H Q I h
 obtain⟨hcell,hnames⟩:=zau7 hn
 obtain⟨cl,hcl,hcl1,hcl2⟩:=zao4 (scope:=scope) (env:=X.env) fun x hx hf=>I.ok.has x.1 (zbi4 hb x hx hf)
 rw[eval_ListComp]
 refine wpAny_comprehension_free (use:=none) rfl hs hcl hkind hnames ?_
 show wpAny _ _ (eval iter X.env) _ _ s
 refine thn (hi pins s σ H _ I h) fun v s1 h1=>thn h1 fun itv s2 h2=>?_
 obtain⟨it,fp,tn,J,H2,e,I2,T,st2,f2,q2⟩:=h2
 subst e
 refine zaz4 (RR:=fun acc C=>compPost (model X.prog X.w) X.A X.xe none (EP X pins σ Q) acc C) hcl1 hcl2 hkind hcell (hcap.cap σ) (hcap.len σ) hc I2 T st2 f2 (hg cl) (ht cl) (he cl) q2 ?_
 rintro acc C H' s' I' hC ⟨m,hm⟩ hq
 refine⟨m,hm,fun h' hsb=>⟨.ref acc,H',?_,rfl,hq⟩⟩
 exact I'.turned (t':=s'.toks) (fun b o hb e=>hsb.extBut b o hb e) hC.1 hC.2.1 hC.2.2.2.1 hC.2.2.2.2.1 hC.2.2.2.2.2
theorem psC {i:Nat}{y:Str}{py spos:Pos}{elt tg iter:Expr}{ifs:List Expr}{scope:Scope}{pos:Pos}{N:List Str}{ks:List (Option Nat)}{wi:TI}{g:TG}{tt:TT}{te:TE}(hN:X.N.Nodup) (hi:PI X tg iter wi)
  (hg:∀ cl C s3 H3 fp,PG (blk X N scope cl C s3 H3 fp) tg g) (ht:∀ cl C s3 H3 fp,PTs (blk X N scope cl C s3 H3 fp) ifs tt) (he:∀ cl C s3 H3 fp,PE (blk X N scope cl C s3 H3 fp) elt te) (hcap:zak7 X scope N ks)
  (hy:X.N[i]?=some y:=by rfl) (hl:X.env.scope.names.lookup y=some .local:=by rfl) (hsw:swapsWith (.ListComp elt [⟨tg,iter,ifs,0⟩] scope pos) (some (.Name y py)) spos.line X.env=pure true:=by rfl)
  (hc:X.calm=true:=by rfl) (hkind:scope.kind=.function:=by rfl) (hb:freeB scope X.env.kindOf=true:=by rfl) (hn:zbj2 scope=true:=by rfl) (hs:∀ x,foldedSetIterable iter X.env x=pure x:=by intro _;rfl) :
  PS X (.Assign [.Name y py] (.ListComp elt [⟨tg,iter,ifs,0⟩] scope pos) spos) (tAsg (qComp ks wi g tt te) (zbv2 i)):=by
 intro pins s σ H D I h
 obtain⟨hcell,hnames⟩:=zau7 hn
 obtain⟨cl,hcl,hcl1,hcl2⟩:=zao4 (scope:=scope) (env:=X.env) fun x hx hf=>I.ok.has x.1 (zbi4 hb x hx hf)
 rw[exec_Assign_Name_used _ _ _ _ hsw]
 refine wpAny_bind (wpAny_standAt (wpAny_bind ?_))
 show wpAny _ X.A (do let _ ← comprehension (.ListComp elt [⟨tg,iter,ifs,0⟩] scope pos) scope X.env _ (newList []) false (eval iter X.env) (some (assign (.Name y py) X.env))) _ _ s
 refine wpAny_bind (wpAny_mono (wpAny_comprehension_free (use:=some (assign (.Name y py) X.env)) (Q:=fun _ s'=>SP X pins D .next s') rfl hs hcl hkind hnames ?_) (fun _ s' hq=>wpAny_pure (wpAny_pure hq)) fun _ _ e=>e)
 refine thn (hi pins s σ H _ I h) fun v s1 h1=>thn h1 fun itv s2 h2=>?_
 obtain⟨it,fp,tn,J,H2,e,I2,T,st2,f2,q2⟩:=h2
 subst e
 refine zaz4 (RR:=fun acc C=>compPost (model X.prog X.w) X.A X.xe (some (assign (.Name y py) X.env)) (fun _ s'=>SP X pins D .next s') acc C) hcl1 hcl2 hkind hcell (hcap.cap σ) (hcap.len σ) hc I2 T st2 f2 (hg cl) (ht cl) (he cl) q2 ?_
 rintro acc C H' s' I' hC ⟨m,hm⟩ hq
 show wpAny _ _ (assign (.Name y py) X.env (.ref acc)) _ _ _
 refine wpAny_assign_Name (zaz7 I' hN hy (.inl hl) (v:=.ref acc) rfl (fun s'' I'' hsb=>?_) (.inr hl))
 obtain⟨a,hsb,ha⟩:=hsb
 have hCa:C≠a:=by
  rcases ha with ha|ha
  ·rw[ha];exact hC.2.1
  ·exact (hC.2.2.2.2.1 y a ha).symm
 refine⟨m,hm.sameBut hsb hCa,fun h' hsb'=>⟨σ.set i (some (.ref acc)),H',?_,hq⟩⟩
 exact I''.turned (t':=s''.toks) (fun b o hb e=>hsb'.extBut b o hb e) hC.1 hC.2.1 hC.2.2.2.1 hC.2.2.2.2.1 hC.2.2.2.2.2
end
section
variable {K:zcy1}{g:TG}{tt:TT}{te:TE}{σ0:St}{H1:Hp}{Q:VK}
end
end L2
set_option maxHeartbeats 2000000
namespace L2
open PySem PySem.Spec PyProof.Rows
section
variable {X:Cx}
@[irreducible] def rSumA (K:zcy1) (p:Addr) (H:Hp) (Q:VK):Prop:=∃ ns:List Int,SqL K H p (ns.map V.int)/\Q (.int ns.sum) H
def rSumM (K:zcy1):List V->Hp->VK->Prop:=fun xs H Q=>match xs with
 | [.ref p]=>rSumA K p H Q
 | _=>False
theorem cSum (hc:X.calm=true):zp4 X (.builtin "sum") (rSumM X.K):=fun pins s σ H xs us Q I r h=>by
 unfold rSumM at h
 split at h
 ·unfold rSumA at h
  obtain⟨ns,h1,h2⟩:=h
  obtain⟨u,rfl,rx⟩:=zaa0 r
  cases rx
  obtain⟨its,r',pl,hz⟩:=I.list h1
  have hi:=zag3 r'
  obtain⟨ys,hx⟩:=hi.allInts.items
  have hl':s.heap.IsList _ (intItems ys):=hx▸pl.isList
  refine sum_intListG (I.ok.hd hc) hl' fun h' tk t' hk=>?_
  have e1:ns=ys.toList.map (·.1):=by
   rw[← nums_intItems,← hx]
   exact (show numsOf its.toArray.toList=ns from hi.numsOf).symm
  have e2:preSum (numAt ys) ys.size=ns.sum:=by
   rw[preSum_eq,List.take_of_length_le (by simp),e1]
  rw[e2]
  exact⟨.int ns.sum,H,I.kept hk,⟨_,rfl⟩,h2⟩
 ·exact h.elim
theorem zay8 {K:zcy1}{p:Addr}{H:Hp}{Q:VK}{ns:List Int}(h:H p=some (.lst (ns.map V.int))) (q:Q (.int ns.sum) H):rSumA K p H Q:=by unfold rSumA;exact⟨ns,SqL.of h,q⟩
theorem zai9:∀ {bs:List Bool}{us:List Value},Vals (bs.map V.bl) us->LSm.BoolsAre us bs
 | [],us,r=>by rw[List.map_nil] at r;cases r;exact .nil
 | b :: bs,us,r=>by
  rw[zda7] at r
  cases r with
  | cons r1 r2=>
   cases r1
   exact .cons b (zai9 r2)
@[irreducible] def rAllA (K:zcy1) (p:Addr) (H:Hp) (Q:VK):Prop:=∃ bs:List Bool,SqL K H p (bs.map V.bl)/\Q (.bl (bs.all id)) H
def rAllM (K:zcy1):List V->Hp->VK->Prop:=fun xs H Q=>match xs with
 | [.ref p]=>rAllA K p H Q
 | _=>False
theorem cAll (hc:X.calm=true):zp4 X (.builtin "all") (rAllM X.K):=fun pins s σ H xs us Q I r h=>by
 unfold rAllM at h
 split at h
 ·rename_i p
  unfold rAllA at h
  obtain⟨bs,h1,h2⟩:=h
  obtain⟨u,rfl,rx⟩:=zaa0 r
  cases rx
  obtain⟨its,r',pl,hz⟩:=I.list h1
  have hb:=zai9 r'
  have hlt:p<s.heap.objs.size:=by obtain⟨_,e,_⟩:=pl.isList;exact zcz7 e
  refine call_all_walk (wpAny_pyIter_list pl.isList ?_)
  refine⟨s.heap.objs.size,[s.heap.objs.size,_],[s.heap.objs.size],its.toArray.size,_,_,fun i=>(bs[i]?).getD true,rfl,Walks.list (A:=X.A.in1) (I.ok.hd hc) _ _ (zda8 hlt) its.toArray,
   ⟨⟨_,zcz9 _ rfl,rfl,rfl⟩,pl.isList.push _⟩,fun i v s' Q' E' hP hQ=>?_,fun h' tk hk=>?_⟩
  ·obtain⟨b,e,rfl⟩:=hb.get i v (by simpa using hP)
   simp only[e,Option.getD_some] at hQ
   exact wpAny_truthy_bool hQ
  ·have e:((List.range its.toArray.size).all fun i=>(bs[i]?).getD true)=bs.all id:=by
    rw[zcy8,hb.length];exact LSm.range_all bs
   rw[e]
   exact⟨.bl _,H,I.kept (LSm.kept_iter hk),rfl,h2⟩
 ·exact h.elim
theorem zaa2 {K:zcy1}{p:Addr}{H:Hp}{Q:VK}{bs:List Bool}(h:H p=some (.lst (bs.map V.bl))) (q:Q (.bl (bs.all id)) H):rAllA K p H Q:=by unfold rAllA;exact⟨bs,SqL.of h,q⟩
@[irreducible] def zai2 (K:zcy1) (p:Addr) (H:Hp) (Q:VK):Prop:=∃ ys,(SqL K H p ys∨SqT K H p ys)/\∀ l H',H l=none->Same H H'->H' l=some (.lst ys)->Q (.ref l) H'
def zbq3 (K:zcy1):List V->Hp->VK->Prop:=fun xs H Q=>match xs with
 | [.ref p]=>zai2 K p H Q
 | _=>False
theorem cList:zp4 X (.type "list") (zbq3 X.K):=fun pins s σ H xs us Q I r h=>by
 unfold zbq3 at h
 split at h
 ·unfold zai2 at h
  obtain⟨ys,h1,h2⟩:=h
  exact zax8 pins s σ H _ us Q I r ⟨_,ys,rfl,h1,fun l hl=>h2 l _ hl (Same.upd hl) zc4⟩
 ·exact h.elim
theorem zah3 {K:zcy1}{p:Addr}{H:Hp}{Q:VK}{ys:List V}(h:SqL K H p ys) (q:∀ l H',H l=none->Same H H'->H' l=some (.lst ys)->Q (.ref l) H'):zai2 K p H Q:=by unfold zai2;exact⟨ys,.inl h,q⟩
@[irreducible] def zan0 (K:zcy1) (p:Addr) (H:Hp) (R:Prop):Prop:=(∃ xs,SqL K H p xs)/\R
def qBM (K:zcy1) (r:Addr->List V->Hp->VK->Prop) (to:TE) (t:TA):TE:=fun σ H Q=>to σ H fun x H1=>match x with
 | .ref p=>zan0 K p H1 (t σ H1 fun xs H2=>r p xs H2 Q)
 | _=>False
theorem zu7 {K:zcy1}{p:Addr}{H:Hp}{R:Prop}{xs:List V}(h:H p=some (.lst xs)) (q:R):zan0 K p H R:=by unfold zan0;exact⟨⟨xs,SqL.of h⟩,q⟩
def MtA (X:Cx) (id:String) (r:Addr->List V->Hp->VK->Prop):Prop:=
 ∀ (pins:List (Addr×Obj)) (s:Shared) (σ:St) (H:Hp) (p:Addr) (xs:List V) (us:List Value) (Q:VK),Inv X pins σ H s->Vals xs us->r p xs H Q ->
  wpAny (model X.prog X.w) X.A (call (.builtin id) (.ref p :: us)) (EP X pins σ Q) X.xe s
theorem peBM {o e:Expr}{es:List Expr}{to:TE}{t:TA}{name:Str}{apos cpos:Pos}{id:String}{r:Addr->List V->Hp->VK->Prop}(slot:Slot "list" name id) (hty:typeOf (.builtin id)=pure (.type "method_descriptor")) (hm:MtA X id r) (ho:PE X o to) (ha:PA X (e :: es) t)
  (hbase:attributeBase o name X.env (eval o X.env)=eval o X.env:=by rfl)
  (hfew:((backTo cpos (starEach (e :: es) X.env)).all (fun x=>!x.1)&&(backToKw cpos (keywordEach [] X.env)).all (fun x=>x.1.isSome)
   && decide ((e :: es).length+([]:List Keyword).length+(if ([]:List Keyword).isEmpty then 0 else 1)<30))=true:=by rfl)
  (hline:(apos.endLine==cpos.line)=true:=by rfl) (hs:starEach (e :: es) X.env=(false,eval e X.env) :: starEach es X.env:=by rfl) (hplain:(backTo cpos (starEach es X.env)).any (·.1)=false:=by rfl) :
  PE X (.Call (.Attribute o name apos) (e :: es) [] cpos) (qBM X.K r to t):=by
 intro pins s σ H Q I h
 refine wpAny_Call_method_late hbase hfew hline rfl (thn (ho pins s σ H _ I h) fun v s1 ⟨x,H1,I1,r1,q1⟩=>?_)
 dsimp only at q1
 split at q1
 ·rename_i p
  unfold zan0 at q1
  obtain⟨hq,q1⟩:=q1
  obtain⟨h1,h2⟩:=zcl0 (T:="list") I1 r1 (.inl ⟨rfl,hq⟩)
  refine⟨"list",id,PySem.F.plainAttrs_list,slot,hty,h1,h2,?_⟩
  have hA:=ha cpos pins s1 σ H1 _ I1 q1
  rw[hs] at hA ⊢
  refine Calls.callWith_builtin (by show (false || (backTo cpos (starEach es X.env)).any (·.1))=false;rw[hplain]<;>rfl) (Calls.evalArgs_plain ?_)
  cases r1
  exact thn hA fun us s2 ⟨vs,H2,I2,r2,q2⟩=>hm pins s2 σ H2 p vs us Q I2 r2 q2
 ·exact q1.elim
@[irreducible] def rAppA (p:Addr) (v:V) (H:Hp) (Q:VK):Prop:=∃ xs,H p=some (.lst xs)/\xs.length<sizeLine/\∀ H',Chg p H H'->H' p=some (.lst (xs++[v]))->Q .non H'
def rAppM:Addr->List V->Hp->VK->Prop:=fun p vs H Q=>match vs with
 | [v]=>rAppA p v H Q
 | _=>False
theorem zcr3:MtA X "list.append" rAppM:=fun pins s σ H p xs us Q I r h=>by
 unfold rAppM at h
 split at h
 ·unfold rAppA at h
  obtain⟨ys,h1,h2,h3⟩:=h
  exact zaw2 pins s σ H (.ref p) _ (.ref p) us Q I rfl r ⟨p,ys,_,rfl,rfl,h1,h2,h3 _ Chg.upd zc4⟩
 ·exact h.elim
theorem zx0 {p:Addr}{v:V}{H:Hp}{Q:VK}{xs:List V}(h:H p=some (.lst xs)) (hz:xs.length<sizeLine) (q:∀ H',Chg p H H'->H' p=some (.lst (xs++[v]))->Q .non H'):rAppA p v H Q:=by unfold rAppA;exact⟨xs,h,hz,q⟩
theorem zh8 {o e:Expr}{to:TE}{t:TA}{apos cpos:Pos}(ho:PE X o to) (ha:PA X [e] t) (hbase:attributeBase o "append" X.env (eval o X.env)=eval o X.env:=by rfl)
  (hfew:((backTo cpos (starEach [e] X.env)).all (fun x=>!x.1)&&(backToKw cpos (keywordEach [] X.env)).all (fun x=>x.1.isSome)
   && decide ([e].length+([]:List Keyword).length+(if ([]:List Keyword).isEmpty then 0 else 1)<30))=true:=by rfl)
  (hline:(apos.endLine==cpos.line)=true:=by rfl) (hs:starEach [e] X.env=(false,eval e X.env) :: starEach [] X.env:=by rfl) (hplain:(backTo cpos (starEach [] X.env)).any (·.1)=false:=by rfl):PE X (.Call (.Attribute o "append" apos) [e] [] cpos) (qBM X.K rAppM to t):=
 peBM PySem.F.slot_list_append PySem.F.type_list_append zcr3 ho ha hbase hfew hline hs hplain
def qAug (i:Nat) (te:TE) (r:R2):TS:=fun D σ H=>match σ[i]? with
 | some (some x)=>te σ H fun y H1=>r x y H1 fun z H2=>D.nx (σ.set i (some z)) H2
 | _=>False
theorem ipAdd:OpR X (inplaceOp .Add) (fun x y H Q=>match x,y with|.int i,.int j=>Q (.int (i+j)) H|_,_=>False):=by
 intro pins s σ H x y v u Q I rx ry h
 split at h
 ·exact zcp9 pins s σ H _ _ v u Q I rx ry ⟨_,_,rfl,rfl,h⟩
 ·exact h.elim
theorem ipSub:OpR X (inplaceOp .Sub) (fun x y H Q=>match x,y with|.int i,.int j=>Q (.int (i - j)) H|_,_=>False):=by
 intro pins s σ H x y v u Q I rx ry h
 split at h
 ·exact zcp7 pins s σ H _ _ v u Q I rx ry ⟨_,_,rfl,rfl,h⟩
 ·exact h.elim
theorem psAug {i:Nat}{x:Str}{e:Expr}{te:TE}{op:Operator}{r:R2}{pos pos':Pos}(hN:X.N.Nodup) (ho:OpR X (inplaceOp op) r) (he:PE X e te) (hi:X.N[i]?=some x:=by rfl) (hx:Loc X.env.scope x:=by first|exact Or.inl rfl|exact Or.inr rfl) (hf:X.fn x=true∨X.env.scope.names.lookup x=some .local:=by first|exact .inl rfl|exact .inr rfl|assumption) :
  PS X (.AugAssign (.Name x pos') op e pos) (qAug i te r):=fun pins s σ H D I h=>by
 unfold qAug at h
 split at h
 ·rename_i v e
  exact ps_aug hN hi hx he (fun pins s σ H x y v u Q I rx ry q=>ho pins s σ H x y v u Q I rx ry q) hf pins s σ H D I ⟨v,e,h⟩
 ·exact h.elim
section
variable {prog:Program}{w:World}{A:Around}{E:Value->Shared->Prop}{s:Shared}
theorem zaw7 {it t:Addr}{items:Array Value}(hne:t≠it):∀ (n i:Nat) (s:Shared) (Q:List Value->Shared->Prop),s.heap.IsListIter it t i->s.heap.IsList t items->i+n<=items.size ->
  (∀ h',h'.IsListIter it t (i+n)->Heap.SameBut it s.heap h'->Q ((items.toList.drop i).take n) { s with heap:=h' })->wpAny (model prog w) A (draw (.ref it) n) Q E s
 | 0,i,s,Q,hit,_,_,hQ=>by
  show wpAny _ _ (pure []) Q E s
  exact wpAny_pure (by simpa using hQ s.heap hit (Heap.SameBut.refl ..))
 | n+1,i,s,Q,hit,ht,hle,hQ=>by
  have hlt:i<items.size:=by omega
  show wpAny _ _ (pyNext (.ref it) >>= _) Q E s
  refine wpAny_bind (wpAny_pyNext_list_item hit ht (x:=items[i]) (by simp[hlt]) fun h₁ hit₁ hs₁=>?_)
  refine wpAny_bind (wpAny_holding (zaw7 hne n (i+1) _ _ hit₁ (ht.extBut hs₁.extBut hne) (by omega) fun h₂ hit₂ hs₂=>wpAny_pure ?_))
  have hd:items.toList.drop i=items[i] :: items.toList.drop (i+1):=by simp[zdd8,hlt]
  have:=hQ h₂ (by rw[show i+(n+1)=i+1+n by omega];exact hit₂) (hs₁.trans hs₂)
  rw[hd,List.take_succ_cons] at this
  exact this
theorem zaf6 {env:Env}{elts:List Expr}{x1} {pos:Pos}{t:Addr}{items:Array Value}{Q:Unit->Shared->Prop}(hh:A.handled=none) (ht:s.heap.IsList t items)
  (hn:(assignEach elts env).length=items.size) (hstar:(assignEach elts env).findIdx? (·.1)=none)
  (h:∀ h',Heap.ExtBut s.heap.objs.size s.heap h'->wpAny (model prog w) A (assignInOrder ((assignEach elts env).map (·.2)) items.toList) Q E { s with heap:=h' }) :
  wpAny (model prog w) A (assign (.Tuple elts x1 pos) env (.ref t)) Q E s:=by
 rw[assign_Tuple]
 refine wpAny_bind (wpAny_standAt ?_)
 unfold unpack
 rw[hn,hstar]
 refine wpAny_bind (wpAny_holding ?_)
 have hlt:t≠s.heap.objs.size:=by obtain⟨o,ho,_⟩:=ht;exact zda8 (zcz7 ho)
 unfold unpackItems
 refine wpAny_bind ?_
 unfold notIterableAtAll
 refine wpAny_bind (wpAny_specialOf ht.typeIs F.slot_list_iter.lookup ?_)
 refine wpAny_pure ?_
 simp only[zdd5,if_false]
 refine wpAny_bind (wpAny_holding (wpAny_pyIter_list ht ?_))
 refine wpAny_bind (wpAny_holding (zaw7 hlt items.size 0 _ _ ⟨_,zcz9 _ rfl,rfl,rfl⟩ (ht.push _) (by omega) fun h₁ hit₁ hs₁=>?_))
 have hall:List.take items.size (List.drop 0 items.toList)=items.toList:=by
  rw[List.drop_zero];exact List.take_of_length_le (by simp)
 rw[hall]
 rw[if_neg (by simp)]
 have ht₁:h₁.IsList t items:=(ht.push _).extBut hs₁.extBut hlt
 refine wpAny_bind (wpAny_holding (wpAny_pyNext_list_end hh hit₁ ht₁ (by simp) fun h₂ he₂=>?_))
 simp only[Option.isSome_none,zdd5,if_false]
 exact wpAny_pure (h h₂ fun b o hb e=>he₂ b o hb (hs₁.extBut b o hb (zcy5 _ e)))
end
@[irreducible] def rUnpA (K:zcy1) (a:Addr) (n:Nat) (t:TGs) (σ:St) (H:Hp) (Q:St->Hp->Prop):Prop:=∃ xs,(SqT K H a xs∨SqL K H a xs)/\xs.length=n/\t xs σ H Q
def qgAny (K:zcy1) (n:Nat) (t:TGs):TG:=fun v σ H Q=>match v with
 | .ref a=>rUnpA K a n t σ H Q
 | _=>False
theorem pgAny {pos:Pos}{es:List Expr}{k:Nat}{t:TGs}{n:Nat}(hc:X.calm=true) (h:PGs X es t)
  (hn:(assignEach es X.env).length=n:=by rfl) (hst:(assignEach es X.env).findIdx? (·.1)=none:=by rfl):PG X (.Tuple es k pos) (qgAny X.K n t):=fun pins s σ H v u Q I r hq=>by
 unfold qgAny at hq
 split at hq
 ·unfold rUnpA at hq
  obtain⟨xs,a1,a2,a3⟩:=hq
  rcases a1 with a1|a1
  ·exact pg_tup hc h hn hst pins s σ H _ u Q I r ⟨_,xs,rfl,a1,a2,a3⟩
  ·cases r
   obtain⟨its,rv,pl,hz⟩:=I.list a1
   refine zaf6 (I.ok.hd hc) pl.isList (by simp[hn,← a2,rv.length]) hst fun h' hx=>?_
   have I1:Inv X pins σ H { s with heap:=h' }:=I.kept (t':=s.toks) fun b o e=>hx b o (zda8 (zcz7 e)) e
   exact h pins _ σ H xs _ Q I1 (by simpa using rv) a3
 ·exact hq.elim
theorem zg1 {K:zcy1}{a:Addr}{n:Nat}{t:TGs}{σ:St}{H:Hp}{Q:St->Hp->Prop}{xs:List V}(h:H a=some (.tup xs)) (q:t xs σ H Q) (e:xs.length=n:=by rfl):rUnpA K a n t σ H Q:=by
 unfold rUnpA;exact⟨xs,.inl (SqT.of h),e,q⟩
end
def Chg2 (a c:Addr) (H H':Hp):Prop:=∀ b o,b≠a->b≠c->H b=some o->H' b=some o
theorem Chg2.same {a c:Addr}{H H1 H2:Hp}(x:Chg2 a c H H1) (y:Same H1 H2):Chg2 a c H H2:=fun b o h1 h2 e=>y b o (x b o h1 h2 e)
theorem Chg2.at {a c b:Addr}{o:HO}{H H':Hp}(x:Chg2 a c H H') (e:H b=some o) (h1:b≠a) (h2:b≠c):H' b=some o:=x b o h1 h2 e
theorem EqR.nilR {K:zcy1}{H:Hp}{a b:Addr}{xs:List V}(ha:H a=some (.lst xs)) (hb:H b=some (.lst [])):EqR K H 1 (.ref a) (.ref b) (decide (xs.length=0)):=by
 by_cases h:xs.length=0
 ·rw[decide_eq_true h]
  have e:xs=[]:=List.length_eq_zero_iff.mp h
  subst e
  exact EqR.lst (n:=0) (fun _=>true) (SqL.of ha) (SqL.of hb) rfl (fun j x y hx=>by simp at hx)
 ·rw[decide_eq_false h]
  exact EqR.lstN (SqL.of ha) (SqL.of hb) (by simpa using h)
section
variable {K:zcy1}{g:TG}{tt:TT}{te:TE}{σ0:St}{H1:Hp}{Q:VK}
end
section
variable {X:Cx}{K:zcy1}
theorem za7 {a b:Expr}{ta tb:TE}{pos:Pos}(hK:X.K=K) (ha:PE X a ta) (hb:PE X b tb) (hs:zas9 b:=by exact fun _ _=>rfl):PE X (.Subscript a b pos) (tOp (rIxM K) ta tb):=by subst hK;exact peIx ha hb hs
theorem zp2 (hK:X.K=K):zp4 X (.builtin "len") (rLenM K):=by subst hK;exact cLen
theorem zy1 (hK:X.K=K):zp4 X (.builtin "isinstance") (rIsiM K):=by subst hK;exact cIsi
theorem zbw3 (hK:X.K=K) (hc:X.calm=true):zp4 X (.builtin "sum") (rSumM K):=by subst hK;exact cSum hc
theorem zap7 (hK:X.K=K) (hc:X.calm=true):zp4 X (.builtin "all") (rAllM K):=by subst hK;exact cAll hc
theorem zbg6 (hK:X.K=K):zp4 X (.type "list") (zbq3 K):=by subst hK;exact cList
theorem oEqK (hK:X.K=K) (hu:X.A.units+40<cLine):OpR X (compareOp .Eq) (rEqM K):=by subst hK;exact oEq hu
theorem oNeK (hK:X.K=K) (hu:X.A.units+40<cLine):OpR X (compareOp .NotEq) (rNeM K):=by subst hK;exact oNe hu
theorem zk2 {tg l:Expr}{tl:TE}(hK:X.K=K) (hl:PE X l tl):PI X tg l (qiSeq K tl):=by subst hK;exact piSeq hl
theorem zp0 {pos:Pos}{es:List Expr}{k:Nat}{t:TGs}{n:Nat}(hK:X.K=K) (hc:X.calm=true) (h:PGs X es t)
  (hn:(assignEach es X.env).length=n:=by rfl) (hst:(assignEach es X.env).findIdx? (·.1)=none:=by rfl):PG X (.Tuple es k pos) (qgAny K n t):=by subst hK;exact pgAny hc h hn hst
end
end L2
set_option maxHeartbeats 2000000
namespace L2
open PySem PySem.Spec PyProof.Rows
def Ite (K:zcy1) (a:Addr):It:=
 ⟨fun i H=>∃ xs x,SqL K H a xs/\xs[i]?=some x,fun i H v H'=>∃ p y,v=.ref p/\H p=none/\Same H H'/\H' p=some (.tup [.int i,y])/\∀ xs,SqL K H a xs->xs[i]?=some y,fun i H=>∃ xs,SqL K H a xs/\xs.length<=i⟩
theorem zbo4 {P:Program}{w:World}{K:zcy1}{elts:List Expr}{k:Nat}{pos:Pos}(a it e:Addr) (hne:e≠it):Turn P w K (.Tuple elts k pos) (Ite K a) [it,e] e (fun i h=>(∃ old,IsEnum h e it i old)/\h.IsListIter it a i) where
 mem:=by simp
 obj:=fun i h st b hb=>by
  obtain⟨⟨old,he⟩,o,e1,c,d⟩:=st
  rcases zcz5.mp hb with rfl|hb
  ·exact⟨o,e1,fun v z=>by rw[d] at z;cases z⟩
  ·have:b=e:=by simpa using hb
   subst this
   exact⟨_,he,fun v z=>by cases z⟩
 keep:=fun i h h' st kp=>by
  obtain⟨⟨old,he⟩,hi⟩:=st
  exact⟨⟨old,kp e (by simp) _ he⟩,hi.at fun o x=>kp it (by simp) o x⟩
 item:=by
  intro X hP hw hK hc i pins s σ H E I hf st hg
  subst hP hw hK
  obtain⟨⟨old,he⟩,hit⟩:=st
  obtain⟨xs,x,hq,hx⟩:=hg
  obtain⟨its,rv,p,hz⟩:=I.list hq
  obtain⟨u,hu,ru⟩:=rv.get hx
  obtain⟨f0,f1,f2,f3,f4,f5⟩:=hf it (by simp)
  obtain⟨g0,g1,g2,g3,g4,g5⟩:=hf e (by simp)
  refine wpAny_pyNext_enum_item he hit p.isList (x:=u) (by simpa using hu) hne fun h1 heo hit1 ht1 hz1 hk1=>?_
  refine⟨_,rfl,wpAny_letOwnedTupleGo_enum heo fun h2 he2 hs2=>?_⟩
  replace hs2:Heap.SameBut e h1 h2:=hs2
  have hel:e<s.heap.objs.size:=zcz7 he
  have kp:∀ b o,b ∉ [it,e]->s.heap.get? b=some o->h2.get? b=some o:=fun b o hb x=>by
   have b1:b≠it:=fun z=>hb (by simp[z])
   have b2:b≠e:=fun z=>hb (by simp[z])
   exact (hs2.2 b b2).trans (hk1 b o b2 b1 x)
  have ht2:h2.get? s.heap.objs.size=some { cls:=.type "tuple",data:=.seq #[.int i s.toks,u] }:=(hs2.2 _ (Nat.ne_of_gt hel)).trans ht1
  have hfr:H s.heap.objs.size=none:=I.fresh
  have nof:∀ b v,H b=some v->b ∉ [it,e]:=fun b v hb z=>by
   rcases zcz5.mp z with rfl|z
   ·rw[f0] at hb;cases hb
   ·have:b=e:=by simpa using z
    subst this
    rw[g0] at hb;cases hb
  have nlt:∀ b o,s.heap.get? b=some o->b≠s.heap.objs.size:=fun b o x=>zda8 (zcz7 x)
  have hok:HOk X.prog X.w (upd H s.heap.objs.size (.tup [.int i,x])) h2:=fun b v hb=>by
   by_cases e1:b=s.heap.objs.size
   ·subst e1
    rw[zc4] at hb
    cases hb
    exact⟨by show 2<=sizeLine;decide,[.int i s.toks,u],.cons ⟨_,rfl⟩ (.cons ru .nil),⟨_,ht2,rfl,_,rfl⟩⟩
   ·rw[zc9 e1] at hb
    refine (I.hok b v hb).stay (fun c w' hc q=>?_) (fun c q=>?_) (fun c ys q=>?_)
    ·rcases hc with rfl|hc
     ·exact kp _ _ (nof _ _ hb) q
     ·exact kp _ _ (nof _ _ hc) q
    ·rw[zc9 (zb2 q hfr)];exact q
    ·rw[zc9 (zb2 q hfr)];exact q
  have chs:∀ b∈[it,e],(b∈X.ex∨X.s₀.heap.objs.size<=b)/\b≠X.env.locals/\(∀ x c,X.env.cells.lookup x=some c->c≠b)/\∀ p∈X.pn++pins,p.1≠b:=fun b hb=>by
   rcases zcz5.mp hb with rfl|hb
   ·exact⟨f3,f1,f4,f5⟩
   ·have:b=e:=by simpa using hb
    subst this
    exact⟨g3,g1,g4,g5⟩
  have I2:Inv X pins σ (upd H s.heap.objs.size (.tup [.int i,x])) { s with heap:=h2,toks:=s.toks+1 }:=
   I.step (g':=s.gens) (d':=s.drawn) (t':=s.toks+1) (ch:=[it,e]) chs (fun b o _ _ hb x _=>kp b o hb x) (fun b o _ _ hb x _=>⟨o.slots,kp b o hb x⟩)
    (fun b o _ x n=>by rw[zc9 (nlt b o x)];exact n) (fun b o hb x=>⟨o,kp b o hb x⟩) (fun b ys q=>by rw[zc9 (zb2 q hfr)];exact q) (fun b o v q=>by rw[zc9 (zb2 q hfr)];exact q)
    (fun b ps q=>⟨#[],by rw[zc9 (zb2 q hfr),q];simp⟩)
    (fun m hm=>by
     obtain⟨o,es,ep,ho,r⟩:=hm
     exact⟨o,es,ep,kp _ o (fun z=>by
      rcases zcz5.mp z with z|z
      ·exact f1 z.symm
      ·exact g1 (by simpa using z:X.env.locals=e).symm) ho,r⟩) hok I.bare
  have hi1:h2.IsListIter it a (i+1):=hit1.extBut hs2.extBut (Ne.symm hne)
  have he3:IsEnum h2 e it ((i+1:Nat):Int) u:=by
   have:((i+1:Nat):Int)=(i:Int)+1:=by push_cast;rfl
   rw[this];exact he2
  refine⟨.ref s.heap.objs.size,_,I2,rfl,⟨_,x,rfl,hfr,Same.upd hfr,zc4,fun ys hy=>by rw[I.list_inj hy hq];exact hx⟩,⟨⟨u,he3⟩,hi1⟩,fun b hb=>?_⟩
  have hb0:H b=none:=(hf b hb).1
  have hlt:b≠s.heap.objs.size:=by
   rcases zcz5.mp hb with rfl|hb
   ·obtain⟨o,ho,_⟩:=hit;exact nlt _ _ ho
   ·have:b=e:=by simpa using hb
    subst this
    exact zda8 hel
  rw[zc9 hlt];exact hb0
 done:=by
  intro X hP hw hK hc i pins s σ H E I hf st hg
  subst hP hw hK
  obtain⟨⟨old,he⟩,hit⟩:=st
  obtain⟨xs,hq,hx⟩:=hg
  obtain⟨its,rv,p,hz⟩:=I.list hq
  obtain⟨f0,f1,f2,f3,f4,f5⟩:=hf it (by simp)
  have hl:=rv.length
  exact wpAny_pyNext_enum_end (I.ok.hd hc) he hit p.isList (by simp;omega) fun h' eb=>⟨rfl,I.turned (t':=s.toks) (fun b o hb e=>eb b o hb e) f0 f1 f3 f4 f5⟩
 self:=fun _ _ _ _ _ st h=>by
  obtain⟨⟨old,he⟩,_⟩:=st
  exact wpAny_pyIter_enum he h
section
variable {X:Cx}{K:zcy1}
theorem zay4:bootBuiltins "enumerate"=some (.type "enumerate"):=by decide +kernel
@[irreducible] def rEnum (K:zcy1) (a:Addr) (H:Hp) (R:It->Hp->Prop):Prop:=(∃ xs,SqL K H a xs)/\R (Ite K a) H
def zci5 (K:zcy1) (ta:TA):TI:=fun σ H R=>ta σ H fun vs H1=>match vs with
 | [.ref a]=>rEnum K a H1 R
 | _=>False
theorem piEnum {elts:List Expr}{k:Nat}{pt:Pos}{a:Expr}{ta:TA}{p pos:Pos}(hm:X.mg "enumerate"=none) (ha:PA X [a] ta) (hg:Gl X "enumerate":=by rfl) (hs:starEach [a] X.env=[(false,eval a X.env)]:=by rfl) :
  PI X (.Tuple elts k pt) (.Call (.Name "enumerate" p) [a] [] pos) (zci5 X.K ta):=by
 intro pins s σ H R I h
 refine Call_ (zx1 I hg hm zay4 (PyProof.Rows.callWith_type1 (thn (ha pos pins s σ H _ I h) fun us s1 ⟨vs,H1,I1,r1,q1⟩=>?_) hs rfl))
 dsimp only at q1
 split at q1
 ·rename_i l
  unfold rEnum at q1
  obtain⟨⟨xs,hq⟩,q⟩:=q1
  obtain⟨u,rfl,rx⟩:=zaa0 r1
  cases rx
  obtain⟨its,rv,pl,hz⟩:=I1.list hq
  refine call_enumerate_list pl.isList fun h' he hit hsz hk=>?_
  refine wpAny_pyIter_enum he ?_
  have I2:Inv X pins σ H1 { s1 with heap:=h' }:=I1.kept (t':=s1.toks) hk
  refine⟨s1.heap.objs.size+1,[s1.heap.objs.size,s1.heap.objs.size+1],_,Ite X.K l,H1,rfl,I2,zbo4 l _ _ (Nat.succ_ne_self _),⟨⟨_,he⟩,hit⟩,fun b hb=>?_,q⟩
  have hb':s1.heap.objs.size<=b:=by
   rcases zcz5.mp hb with rfl|hb
   ·exact zcz6 _
   ·have:b=s1.heap.objs.size+1:=by simpa using hb
    subst this
    exact Nat.le_succ _
  exact I1.fpOk hb' (I1.hok.fresh hb')
 ·exact q1.elim
theorem zbf3 {elts:List Expr}{k:Nat}{pt:Pos}{a:Expr}{ta:TA}{p pos:Pos}(hK:X.K=K) (hm:X.mg "enumerate"=none) (ha:PA X [a] ta) (hg:Gl X "enumerate":=by rfl) (hs:starEach [a] X.env=[(false,eval a X.env)]:=by rfl) :
  PI X (.Tuple elts k pt) (.Call (.Name "enumerate" p) [a] [] pos) (zci5 K ta):=by subst hK;exact piEnum hm ha hg hs
end
section
variable {K:zcy1}{g:TG}{tb:TS}{D:Ends}{σ:St}{H:Hp}{R:It->Hp->Prop}
theorem zar3 {a:Addr}{xs:List V}(h:H a=some (.lst xs)) (q:R (Ite K a) H):rEnum K a H R:=by unfold rEnum;exact⟨⟨xs,SqL.of h⟩,q⟩
theorem zae0 {a:Addr}{xs:List V}(Pv:Nat->St->Hp->Prop) (h0:Pv 0 σ H) (hl:∀ i σ H,i<=xs.length->Pv i σ H->SqL K H a xs)
  (hs:∀ i y σ H p H',xs[i]?=some y->Pv i σ H->H p=none->Same H H'->H' p=some (.tup [.int i,y])->g (.ref p) σ H' fun σ2 H2=>tb { D with nx:=Pv (i+1),ct:=Pv (i+1),bk:=D.nx } σ2 H2) (hd:∀ σ H,Pv xs.length σ H->D.nx σ H):zac7 (Ite K a) g tb D σ H:=by
 unfold zac7
 refine⟨fun i m σ H=>m=xs.length - i/\i<=xs.length/\Pv i σ H,⟨xs.length,by simp,zda6 _,h0⟩,?_⟩
 rintro i m σ H ⟨rfl,hi,p⟩
 have q:=hl i σ H hi p
 by_cases hlt:i<xs.length
 ·refine .inr ⟨⟨xs,xs[i],q,by simp[hlt]⟩,Pv (i+1),fun σ' H' p'=>⟨xs.length - (i+1),by omega,rfl,hlt,p'⟩,fun x H' y=>?_⟩
  obtain⟨pp,yy,rfl,y1,y2,y3,y4⟩:=y
  exact hs i yy σ H pp H' (y4 xs q) p y1 y2 y3
 ·have e:i=xs.length:=by omega
  subst e
  exact .inl ⟨⟨xs,q,zcz6 _⟩,hd σ H p⟩
end
section
variable {K:zcy1}{g:TG}{tt:TT}{te:TE}{σ0:St}{H1:Hp}{Q:VK}
end
section
variable {X:Cx}{K:zcy1}
end
end L2
set_option maxHeartbeats 2000000
namespace L2
open PySem PySem.Spec PyProof.Rows
theorem zae1 {xs:List V}{k:Int}(h:0<=k):cutV xs (some k) none=xs.drop k.toNat:=by
 show List.take (xs.length - (if k<0 then (k+(xs.length:Int)).toNat else min k.toNat xs.length)) (List.drop (if k<0 then (k+(xs.length:Int)).toNat else min k.toNat xs.length) xs)=_
 rw[if_neg (by omega)]
 by_cases hk:k.toNat<=xs.length
 ·rw[Nat.min_eq_left hk,List.take_of_length_le (by rw[zdc2];omega)]
 ·rw[Nat.min_eq_right (by omega),zdd7 (by omega),zdd7 (by omega),List.take_nil]
def rowV (n:Nat) (r:Nat->Int):List V:=(List.range n).map fun t=>V.int (r t)
theorem zn0 (n:Nat) (r:Nat->Int):(rowV n r).length=n:=by unfold rowV;simp
theorem zj0 {n:Nat}{r:Nat->Int}{i:Nat}(h:i<n):(rowV n r)[i]?=some (.int (r i)):=by unfold rowV;simp[h]
theorem zch9 {n:Nat}{r s:Nat->Int}(h:∀ t,t<n->r t=s t):rowV n r=rowV n s:=by
 unfold rowV
 refine zda4 fun t ht=>?_
 rw[h t (zdc0.mp ht)]
theorem zac4 (n:Nat) (r:Nat->Int):rowV n r=((List.range n).map r).map V.int:=by unfold rowV;rw[zda5];rfl
theorem zca5 {xs:List V}{v:V}{n:Nat}(h:xs.length=n+1) (e:xs[n]?=some v):atI xs (-1)=some v:=by
 unfold atI ixN
 rw[if_neg (by decide),if_pos (by omega)]
 show xs[((-1:Int)+xs.length).toNat]?=_
 rw[show ((-1:Int)+xs.length).toNat=n by omega];exact e
structure zd3 (H:Hp) (a:Addr) (ps:List Addr) (n h:Nat) (g:Nat->Nat->Int):Prop where
 out:H a=some (.lst (ps.map V.ref))
 len:ps.length=n
 row:∀ (i:Nat) (p:Addr),ps[i]?=some p->H p=some (.lst (rowV h (g i)))
theorem zd3.same {H H':Hp}{a:Addr}{ps:List Addr}{n h:Nat}{g:Nat->Nat->Int}(G:zd3 H a ps n h g) (s:Same H H'):zd3 H' a ps n h g:=⟨s _ _ G.out,G.len,fun i p e=>s _ _ (G.row i p e)⟩
theorem zd3.ext {H:Hp}{a:Addr}{ps:List Addr}{n h:Nat}{g g':Nat->Nat->Int}(G:zd3 H a ps n h g) (e:∀ i t,i<n->t<h->g i t=g' i t):zd3 H a ps n h g':=
 ⟨G.out,G.len,fun i p q=>by rw[G.row i p q];rw[zch9 fun t ht=>e i t (by have:=(zcy4.mp q).1;have:=G.len;omega) ht]⟩
theorem zd3.some {H:Hp}{a:Addr}{ps:List Addr}{n h:Nat}{g:Nat->Nat->Int}(G:zd3 H a ps n h g) {i:Nat}(hi:i<n):∃ p,ps[i]?=.some p/\H p=.some (.lst (rowV h (g i))):=by
 have hl:i<ps.length:=by rw[G.len];exact hi
 exact⟨ps[i],zcx9 hl,G.row i _ (zcx9 hl)⟩
structure Wk (J:It) (n:Nat) (H1:Hp) (X:Nat->V->Hp->Prop):Prop where
 go:∀ i H,Same H1 H->i<n->J.go i H
 stop:∀ H,Same H1 H->J.stop n H
 yld:∀ i H x H',Same H1 H->i<n->J.yld i H x H'->Same H H'/\X i x H'
theorem Wk.range {lo:Int}{n:Nat}{H1:Hp}:Wk (Itr lo n) n H1 fun i x _=>x=.int (lo+i):=
 ⟨fun i H _ h=>h,fun H _=>zcz6 _,fun i H x H' _ _ y=>by obtain⟨rfl,rfl⟩:=y;exact⟨Same.refl _,rfl⟩⟩
theorem Wk.list {K:zcy1}{a:Addr}{xs:List V}{H1:Hp}(h:SqL K H1 a xs):Wk (Itl K a) xs.length H1 fun i x _=>xs[i]?=some x:=
 ⟨fun i H s hi=>⟨xs,xs[i],s.seq h,by simp[hi]⟩,fun H s=>⟨xs,s.seq h,zcz6 _⟩,fun i H x H' s _ y=>by
  obtain⟨e,y⟩:=y
  subst e
  exact⟨Same.refl _,y xs (s.seq h)⟩⟩
structure zao3 (H1 H:Hp) (acc:Addr) (ps:List Addr) (n:Nat) (f:Nat->HO):Prop where
 facc:H1 acc=none
 same:Same H1 H
 out:H acc=some (.lst (ps.map V.ref))
 len:ps.length=n
 nd:ps.Nodup
 nin:acc ∉ ps
 row:∀ i p,ps[i]?=some p->H1 p=none/\H p=some (f i)
theorem zao3.free {H1 H:Hp}{acc:Addr}{ps:List Addr}{n:Nat}{f:Nat->HO}(F:zao3 H1 H acc ps n f) {p:Addr}(h:p∈ps):H1 p=none:=by
 obtain⟨i,hi⟩:=zdb9 h
 exact (F.row i p hi).1
theorem zao3.some {H1 H:Hp}{acc:Addr}{ps:List Addr}{n:Nat}{f:Nat->HO}(F:zao3 H1 H acc ps n f) {i:Nat}(hi:i<n):∃ p,ps[i]?=.some p/\H p=.some (f i):=by
 have hl:i<ps.length:=by rw[F.len];exact hi
 exact⟨ps[i],zcx9 hl,(F.row i _ (zcx9 hl)).2⟩
section
variable {K:zcy1}{g:TG}{tt:TT}{te:TE}{σ0:St}{H1:Hp}{Q:VK}{J:It}{n:Nat}{X:Nat->V->Hp->Prop}
theorem zav5 (w:Wk J n H1 X) (hn:n<sizeLine) (f:Nat->HO) (Ps:Nat->St->Prop) (h0:Ps 0 σ0)
  (turn:∀ i x σ H (R:St->V->Hp->Prop) (S:St->Hp->Prop),i<n->Same H1 H->X i x H->Ps i σ->(∀ σ2 p H5,H p=none->Same H H5->H5 p=some (f i)->Ps (i+1) σ2->R σ2 (.ref p) H5)->g x σ H fun σ2 H3=>tt σ2 H3 fun b H4=>br b (te σ2 H4 fun v H5=>R σ2 v H5) (S σ2 H4))
  (fin:∀ acc ps H,zao3 H1 H acc ps n f->Q (.ref acc) H):zas0 J g tt te σ0 H1 Q:=by
 unfold zas0
 intro acc H2 hf hs ha
 refine⟨fun i m ys σ H=>m=n - i/\i<=n/\∃ ps:List Addr,ys=ps.map V.ref/\zao3 H1 H acc ps i f/\Ps i σ,⟨n,by simp,zda6 _,[],rfl,⟨hf,hs,ha,rfl,List.nodup_nil,by simp,fun i p e=>by simp at e⟩,h0⟩,?_⟩
 rintro i m ys σ H ⟨rfl,hi,ps,rfl,F,P⟩
 refine⟨F.out,by rw[zcy0,F.len];omega,?_⟩
 by_cases hlt:i<n
 ·refine .inr ⟨w.go i H F.same hlt,fun x H' y=>?_⟩
  obtain⟨s1,x1⟩:=w.yld i H x H' F.same hlt y
  refine turn i x σ H' (fun σ2 v H5=>cPut _ acc (ps.map V.ref) i (n - i) σ2 v H5) (fun σ2 H4=>zba7 _ (ps.map V.ref) i (n - i) σ2 H4) hlt (F.same.trans s1) x1 P ?_
  intro σ2 p H5 fp s5 hp P2
  have fp0:H p=none:=s1.free fp
  have s15:=s1.trans s5
  have na:p≠acc:=Ne.symm (zb2 F.out fp0)
  unfold cPut
  refine⟨s15 _ _ F.out,fun H6 c6 h6=>⟨n - (i+1),by omega,rfl,hlt,ps++[p],by rw[zda3];rfl,⟨F.facc,(F.same.trans s15).chg F.facc c6,by rw[zda3];exact h6,by rw[zcz8,F.len];rfl,?_,?_,?_⟩,P2⟩⟩
  ·rw[zdg1]
   refine⟨F.nd,by simp,fun a ha b hb=>?_⟩
   have:b=p:=by simpa using hb
   subst this
   obtain⟨k,hk⟩:=zdb9 ha
   exact zb2 (F.row k a hk).2 fp0
  ·intro hz
   rcases zdd1.mp hz with hz|hz
   ·exact F.nin hz
   ·exact na (by simpa using hz:acc=p).symm
  ·intro k q e
   by_cases hk:k<ps.length
   ·rw[zdc3 hk] at e
    obtain⟨z1,z2⟩:=F.row k q e
    exact⟨z1,c6 _ _ (fun z=>F.nin (z▸zcy7 e)) (s15 _ _ z2)⟩
   ·rw[zdc6 (by omega)] at e
    have hk2:k - ps.length=0:=by
     have:=(zcy4.mp e).1
     simp at this;omega
    rw[hk2] at e
    have:p=q:=by simpa using e
    subst this
    have:k=i:=by have:=F.len;omega
    subst this
    exact⟨F.same.free fp0,c6 _ _ na hp⟩
 ·have e:i=n:=by omega
  subst e
  exact .inl ⟨w.stop H F.same,fin acc ps H F⟩
theorem zo4 (w:Wk J n H1 X) (hn:n<sizeLine) (f:Nat->V) (p:Nat->Bool) (Ps:Nat->St->Prop) (h0:Ps 0 σ0)
  (turn:∀ i x σ H (R:St->V->Hp->Prop) (S:St->Hp->Prop),i<n->Same H1 H->X i x H->Ps i σ->(p i=true->∀ σ2 H5,Same H H5->Ps (i+1) σ2->R σ2 (f i) H5)->(p i=false->∀ σ2 H5,Same H H5->Ps (i+1) σ2->S σ2 H5) ->
   g x σ H fun σ2 H3=>tt σ2 H3 fun b H4=>br b (te σ2 H4 fun v H5=>R σ2 v H5) (S σ2 H4))
  (fin:∀ acc H,H1 acc=none->Same H1 H->H acc=some (.lst (((List.range n).filter p).map f))->Q (.ref acc) H):zas0 J g tt te σ0 H1 Q:=by
 unfold zas0
 intro acc H2 hf hs ha
 refine⟨fun i m ys σ H=>m=n - i/\i<=n/\ys=((List.range i).filter p).map f/\Same H1 H/\H acc=some (.lst ys)/\Ps i σ,⟨n,by simp,zda6 _,rfl,hs,ha,h0⟩,?_⟩
 rintro i m ys σ H ⟨rfl,hi,rfl,s,hy,P⟩
 have hlen:(((List.range i).filter p).map f).length<=i:=by
  rw[zcy0]
  have:=List.length_filter_le p (List.range i)
  rwa [zda2] at this
 refine⟨hy,by omega,?_⟩
 by_cases hlt:i<n
 ·refine .inr ⟨w.go i H s hlt,fun x H' y=>?_⟩
  obtain⟨s1,x1⟩:=w.yld i H x H' s hlt y
  refine turn i x σ H' (fun σ2 v H5=>cPut _ acc _ i (n - i) σ2 v H5) (fun σ2 H4=>zba7 _ _ i (n - i) σ2 H4) hlt (s.trans s1) x1 P ?_ ?_
  ·intro hp σ2 H5 s5 P2
   unfold cPut
   refine⟨s5 _ _ (s1 _ _ hy),fun H6 c6 h6=>⟨n - (i+1),by omega,rfl,hlt,?_,((s.trans s1).trans s5).chg hf c6,h6,P2⟩⟩
   rw[zde2,List.filter_append,zda3]
   congr 1
   simp[hp]
  ·intro hp σ2 H5 s5 P2
   unfold zba7
   refine⟨n - (i+1),by omega,rfl,hlt,?_,(s.trans s1).trans s5,s5 _ _ (s1 _ _ hy),P2⟩
   rw[zde2,List.filter_append,zda3]
   simp[hp]
 ·have e:i=n:=by omega
  subst e
  exact .inl ⟨w.stop H s,fin acc H hf s hy⟩
theorem ze3 (n:Nat):(List.range n).filter (fun _=>true)=List.range n:=by simp
end
def ChgS (ps:List Addr) (H H':Hp):Prop:=∀ b o,b ∉ ps->H b=some o->H' b=some o
theorem ChgS.same {ps:List Addr}{H H1 H2:Hp}(x:ChgS ps H H1) (y:Same H1 H2):ChgS ps H H2:=fun b o h e=>y b o (x b o h e)
theorem EqR.intL {K:zcy1}{H:Hp}{a b:Addr}{xs ys:List Int}(ha:SqL K H a (xs.map V.int)) (hb:SqL K H b (ys.map V.int)):EqR K H 1 (.ref a) (.ref b) (decide (xs=ys)):=by
 by_cases hl:xs.length=ys.length
 ·have h:=EqR.lst (K:=K) (H:=H) (n:=0) (fun j=>decide (xs[j]?=ys[j]?)) ha hb (by simpa using hl) (fun j x y hx hy=>by
   rw[zcy2] at hx hy
   obtain⟨i,e1,rfl⟩:=zcy6.mp hx
   obtain⟨k,e2,rfl⟩:=zcy6.mp hy
   have e:eqV (.int i) (.int k)=decide (xs[j]?=ys[j]?):=by
    rw[e1,e2]
    by_cases z:i=k
    ·subst z;simp[eqV]
    ·simp[eqV,z]
   rw[← e]
   exact EqR.flat rfl rfl)
  have e:(List.range (xs.map V.int).length).all (fun j=>decide (xs[j]?=ys[j]?))=decide (xs=ys):=by
   rw[Bool.eq_iff_iff,zda9,decide_eq_true_iff]
   constructor
   ·intro q
    apply zdd0
    intro j
    by_cases hj:j<xs.length
    ·exact of_decide_eq_true (q j (zdc0.mpr (by simpa using hj)))
    ·rw[zda0 (by omega),zda0 (by omega)]
   ·rintro rfl j _
    exact decide_eq_true rfl
  rw[e] at h
  exact h
 ·have:decide (xs=ys)=false:=decide_eq_false fun e=>hl (by rw[e])
  rw[this]
  exact EqR.lstN ha hb (by simpa using hl)
theorem zbg4 (n:Nat):(List.range n).all (fun _=>true)=true:=by simp
theorem EqR.allT {K:zcy1}{H:Hp}{a b:Addr}{xs ys:List V}{n:Nat}(ha:SqL K H a xs) (hb:SqL K H b ys) (hl:xs.length=ys.length) (h:∀ (j:Nat) (x y:V),xs[j]?=some x->ys[j]?=some y->EqR K H n x y true):EqR K H (n+1) (.ref a) (.ref b) true:=by
 have:=EqR.lst (fun _=>true) ha hb hl h
 rwa [zbg4] at this
theorem EqR.rows {K:zcy1}{H:Hp}{a b:Addr}{ps qs:List Addr}(ha:SqL K H a (ps.map V.ref)) (hb:SqL K H b (qs.map V.ref)) (hl:ps.length=qs.length) (h:∀ (i:Nat) (p q:Addr),ps[i]?=some p->qs[i]?=some q->∃ xs:List Int,SqL K H p (xs.map V.int)/\SqL K H q (xs.map V.int)):EqR K H 2 (.ref a) (.ref b) true:=by
 refine EqR.allT ha hb (by simpa using hl) fun j x y hx hy=>?_
 rw[zcy2] at hx hy
 obtain⟨p,e1,rfl⟩:=zcy6.mp hx
 obtain⟨q,e2,rfl⟩:=zcy6.mp hy
 obtain⟨xs,h1,h2⟩:=h j p q e1 e2
 have:=EqR.intL h1 h2
 rwa [decide_eq_true rfl] at this
end L2
set_option maxHeartbeats 2000000
namespace L2
open PySem PySem.Spec PyProof.Rows
def Itd (hi:Int) (n:Nat):It:=⟨fun i _=>i<n,fun i H x H'=>H'=H/\x=.int (hi - i),fun i _=>n<=i⟩
section
variable {X:Cx}{tg:Expr}
@[irreducible] def zcl8 (i j:Int) (H:Hp) (R:It->Hp->Prop):Prop:=(-(2 ^ 62)<=i/\i<2 ^ 62/\-(2 ^ 62)<=j/\j<2 ^ 62)/\R (Itd i (i - j).toNat) H
def qiRngD (ta:TA):TI:=fun σ H R=>ta σ H fun vs H1=>match vs with
 | [.int i,.int j,.int (-1)]=>zcl8 i j H1 R
 | _=>False
end
section
variable {K:zcy1}{g:TG}{tb:TS}{D:Ends}{σ:St}{H:Hp}{R:It->Hp->Prop}
end
section
variable {X:Cx}{K:zcy1}
def qBM0 (K:zcy1) (r:Addr->List V->Hp->VK->Prop) (to:TE):TE:=fun σ H Q=>to σ H fun x H1=>match x with
 | .ref p=>zan0 K p H1 (r p [] H1 Q)
 | _=>False
theorem peBM0 {o:Expr}{to:TE}{name:Str}{apos cpos:Pos}{id:String}{r:Addr->List V->Hp->VK->Prop}(slot:Slot "list" name id) (hty:typeOf (.builtin id)=pure (.type "method_descriptor")) (hm:MtA X id r) (ho:PE X o to)
  (hbase:attributeBase o name X.env (eval o X.env)=eval o X.env:=by rfl) (hline:(apos.endLine==cpos.line)=true:=by rfl) :
  PE X (.Call (.Attribute o name apos) [] [] cpos) (qBM0 X.K r to):=by
 intro pins s σ H Q I h
 refine wpAny_Call_method0_late hbase hline (thn (ho pins s σ H _ I h) fun v s1 ⟨x,H1,I1,r1,q1⟩=>?_)
 dsimp only at q1
 split at q1
 ·rename_i p
  unfold zan0 at q1
  obtain⟨hq,q1⟩:=q1
  obtain⟨h1,h2⟩:=zcl0 (T:="list") I1 r1 (.inl ⟨rfl,hq⟩)
  cases r1
  exact⟨"list",id,PySem.F.plainAttrs_list,slot,hty,h1,h2,Calls.callWith_builtin rfl (PySem.evalArgs_none (hm pins s1 σ H1 p [] [] Q I1 .nil q1))⟩
 ·exact q1.elim
@[irreducible] def rRevA (p:Addr) (H:Hp) (Q:VK):Prop:=∃ xs,H p=some (.lst xs)/\∀ H',Chg p H H'->H' p=some (.lst xs.reverse)->Q .non H'
@[irreducible] def rClrA (p:Addr) (H:Hp) (Q:VK):Prop:=∃ xs,H p=some (.lst xs)/\∀ H',Chg p H H'->H' p=some (.lst [])->Q .non H'
def rRevM:Addr->List V->Hp->VK->Prop:=fun p vs H Q=>match vs with
 | []=>rRevA p H Q
 | _=>False
def rClrM:Addr->List V->Hp->VK->Prop:=fun p vs H Q=>match vs with
 | []=>rClrA p H Q
 | _=>False
theorem mClear:MtA X "list.clear" rClrM:=fun pins s σ H p xs us Q I r h=>by
 unfold rClrM at h
 split at h
 ·unfold rClrA at h
  obtain⟨ys,h1,h2⟩:=h
  exact zci0 pins s σ H (.ref p) [] (.ref p) us Q I rfl r ⟨p,ys,rfl,rfl,h1,h2 _ Chg.upd zc4⟩
 ·exact h.elim
theorem zbo6 {o:Expr}{to:TE}{apos cpos:Pos}(hK:X.K=K) (ho:PE X o to) (hbase:attributeBase o "clear" X.env (eval o X.env)=eval o X.env:=by rfl) (hline:(apos.endLine==cpos.line)=true:=by rfl):PE X (.Call (.Attribute o "clear" apos) [] [] cpos) (qBM0 K rClrM to):=by
 subst hK
 exact peBM0 PySem.F.slot_list_clear PySem.F.type_list_clear mClear ho hbase hline
theorem clr_rd {p:Addr}{H:Hp}{Q:VK}{xs:List V}(h:H p=some (.lst xs)) (q:∀ H',Chg p H H'->H' p=some (.lst [])->Q .non H'):rClrA p H Q:=by unfold rClrA;exact⟨xs,h,q⟩
theorem zbl3 {α β:Type}{f g:α->Option β}:∀ {l:List α},(∀ a∈l,f a=g a)->l.filterMap f=l.filterMap g
 | [],_=>rfl
 | a :: l,h=>by
  rw[zdf1,zdf1,h a zdc5,zbl3 fun b hb=>h b (zdb8 _ hb)]
theorem zap2 (its:List Value):slicePick its.toArray none none (some (-1))=its.reverse.toArray:=by
 unfold slicePick sliceBounds sliceRange
 simp only[Option.getD_some,show ¬ (-1:Int)>0 by decide,if_false,zcy8]
 by_cases h0:its.length=0
 ·have:its=[]:=List.length_eq_zero_iff.mp h0
  subst this
  rfl
 ·have hgt:((its.length:Int) - 1) > -1:=by omega
  simp only[hgt,if_true]
  have e1:(((its.length:Int) - 1 - -1 - -1 - 1) / (- -1)).toNat=its.length:=by
   rw[show -(-1:Int)=1 by decide,Int.ediv_one];omega
  rw[e1]
  congr 1
  rw[List.filterMap_map]
  have hk:∀ k∈List.range its.length,((fun x=>its.toArray[x]?)∘fun k:Nat=>((its.length:Int) - 1+-1*(k:Int)).toNat) k=(some∘fun k=>its.getD (its.length - 1 - k) .none) k:=fun k hk=>by
   have hk:=zdc0.mp hk
   show its.toArray[((its.length:Int) - 1+-1*(k:Int)).toNat]?=some (its.getD (its.length - 1 - k) .none)
   rw[show ((its.length:Int) - 1+-1*(k:Int)).toNat=its.length - 1 - k by omega,List.getElem?_toArray,zcy3,zcx9 (by omega)]
   rfl
  rw[zbl3 hk,List.filterMap_eq_map]
  apply zdd0
  intro i
  by_cases hi:i<its.length
  ·rw[zcy2,zdb0 hi,zdf8 hi,zcx9 (by omega)]
   show some (its.getD (its.length - 1 - i) .none)=_
   rw[zcy3,zcx9 (by omega)]
   rfl
  ·rw[zda0 (by simp;omega),zda0 (by simp;omega)]
@[irreducible] def rRvA (K:zcy1) (a:Addr) (H:Hp) (Q:VK):Prop:=∃ xs,SqL K H a xs/\∀ p H',H p=none->Same H H'->H' p=some (.lst xs.reverse)->Q (.ref p) H'
def qRv (K:zcy1) (te:TE):TE:=fun σ H Q=>te σ H fun x H1=>match x with
 | .ref a=>rRvA K a H1 Q
 | _=>False
theorem peRv {e:Expr}{te:TE}{p1 p2 p3 pos:Pos}(hK:X.K=K) (he:PE X e te):PE X (.Subscript e (.Slice none none (some (.UnaryOp .USub (.Constant (.int 1) 0 p1) p3)) p2) pos) (qRv K te):=by
 subst hK
 intro pins s σ H Q I h
 refine Subscript_ (thn (he pins s σ H _ I h) fun v s1 ⟨x,H1,I1,r1,q1⟩=>?_)
 dsimp only at q1
 split at q1
 case h_2=>exact q1.elim
 rename_i a
 unfold rRvA at q1
 obtain⟨xs,hx,q⟩:=q1
 refine wpAny_Slice ?_
 rw[evalPart_none]
 refine wpAny_pure (wpAny_pure ?_)
 rw[evalPart_some]
 refine thn (zbe0 (X:=X) uNeg za3 pins s1 σ H1 (fun y H2=>y=.int (-1)/\H2=H1) I1 ⟨rfl,rfl⟩) fun u s2 ⟨y,H2,I2,r2,q2⟩=>?_
 obtain⟨rfl,rfl⟩:=q2
 obtain⟨t,rfl⟩:=r2
 cases r1
 have I4:Inv X pins σ H2 { s2 with heap:=s2.heap.push { cls:=.type "slice",data:=.fields #[.none,.none,.int (-1) t] } }:=I2.kept (t':=s2.toks) fun b ob q=>zcy5 _ q
 obtain⟨its,r,ht,hz⟩:=I4.list hx
 have hlen:=r.length
 refine tail_any (ops:=[.ref a,.ref s2.heap.objs.size]) ht.isList.typeIs F.slot_list_getitem.lookup ?_ (by with_unfolding_all rfl)
 refine wpAny_getItem_list_slice ht.isList (Heap.IsSliceOf.new ..) .none .none (.int (-1) t) (by simp) ?_ (by rw[zcy8]<;>omega)
 rw[zap2]
 have hf:=I4.hok.fresh (zcz6 _)
 refine⟨.ref _,_,I4.laid (t':=s2.toks) (o:=.lst xs.reverse) (fun b ob q=>zcy5 _ q) (zcz6 _) ?_,rfl,q _ _ hf (Same.upd hf) zc4⟩
 exact⟨by rw[zdd4];exact hz,_,0,r.reverse,zcz9 _ rfl⟩
theorem rv_rd {a:Addr}{H:Hp}{Q:VK}{xs:List V}(h:SqL K H a xs) (q:∀ p H',H p=none->Same H H'->H' p=some (.lst xs.reverse)->Q (.ref p) H'):rRvA K a H Q:=by unfold rRvA;exact⟨xs,h,q⟩
@[irreducible] def rMinL (K:zcy1) (p:Addr) (H:Hp) (Q:VK):Prop:=∃ ns:List Int,SqL K H p (ns.map V.int)/\0<ns.length/\∀ M:Int,M∈ns->(∀ a∈ns,M<=a)->Q (.int M) H
def zcj7 (K:zcy1):List V->Hp->VK->Prop:=fun xs H Q=>match xs with
 | [.ref p]=>rMinL K p H Q
 | [.int i,.int j]=>Q (.int (if j<i then j else i)) H
 | _=>False
theorem cMinK (hK:X.K=K) (hc:X.calm=true):zp4 X (.builtin "min") (zcj7 K):=by
 subst hK
 intro pins s σ H xs us Q I r h
 unfold zcj7 at h
 split at h
 ·unfold rMinL at h
  obtain⟨ns,h1,h2,h3⟩:=h
  obtain⟨u,rfl,rx⟩:=zaa0 r
  cases rx
  obtain⟨its,r',pl,hz⟩:=I.list h1
  have hi:=zag3 r'
  obtain⟨ys,hx⟩:=hi.allInts.items
  have e1:ns=ys.toList.map (·.1):=by
   rw[← nums_intItems,← hx]
   exact (show numsOf its.toArray.toList=ns from hi.numsOf).symm
  have hs:0<ys.size:=by
   have z:ns.length=ys.size:=by
    conv=>lhs;rw[e1]
    rw[zcy0,Array.length_toList]
   omega
  have hl':s.heap.IsList _ (intItems ys):=hx▸pl.isList
  refine min_intList (I.ok.hd hc) hl' hs fun v h' tk hv hk=>?_
  obtain⟨t,rfl⟩:=intItems_at hv
  have best:=argBest_lt (numAt ys) (ys.size - 1)
  refine⟨.int _,H,I.kept hk,⟨t,rfl⟩,h3 _ ?_ fun a ha=>?_⟩
  ·rw[e1,numAt_eq]
   exact getD_mem (by rw[zcy0,Array.length_toList];omega)
  ·rw[e1] at ha
   obtain⟨j,hj,rfl⟩:=mem_getD ha
   rw[zcy0,Array.length_toList] at hj
   rw[← numAt_eq]
   exact best.2 j (by omega)
 ·exact zby4 hc pins s σ H _ us Q I r ⟨_,_,rfl,h⟩
 ·exact h.elim
theorem zbd7 {p:Addr}{H:Hp}{Q:VK}{ns:List Int}(h:SqL K H p (ns.map V.int)) (h0:0<ns.length) (q:∀ M:Int,M∈ns->(∀ a∈ns,M<=a)->Q (.int M) H):rMinL K p H Q:=by unfold rMinL;exact⟨ns,h,h0,q⟩
theorem ptW {e:Expr}{t:TT}(h:PW X e t):PT X e t:=h.pt
end
end L2
set_option maxHeartbeats 2000000
namespace L2
open PySem PySem.Spec PyProof.Rows
section
variable {M:Model}{A:Around}{E:Value->Shared->Prop}{s:Shared}{B:Heap}{env:Env}{outer:List Env}{L e:Addr}{cls:Value}{dx:Option Addr}{Q:Unit->Shared->Prop}
end
section
variable {X:Cx}{pins:List (Addr×Obj)}{σ:St}{H:Hp}{s s':Shared}
end
section
variable {X:Cx}{x:Str}{C:Addr}{bm:List Value}{B newId initId:String}{np cpos pos:Pos}{e₀:Expr}{rest:List Expr}{t:TA}{E:XK}
end
section
variable {P:Program}{w:World}{K:zcy1}{mg:Str->Option Value}{base:Heap}
end
end L2
set_option maxHeartbeats 4000000
namespace L2
open PySem PySem.Spec PyProof.Rows
def ExcIs (e:Addr) (cls:Value) (dx:Option Addr) (h:Heap):Prop:=∃ (oe:Obj) (vs:Array Value),h.get? e=some oe/\oe.cls=cls/\oe.dict=dx/\oe.data=.fields vs
section
open PySem.W PySem.Calls
end
abbrev excO (ea:Addr) (cls:Value) (dx:Option Addr):HO:=.ext (ExcIs ea cls dx)
section
variable {X:Cx}{K:zcy1}{H:Hp}{Q:VK}
end
section
variable {X:Cx}{pins:List (Addr×Obj)}{σ:St}{H:Hp}{s:Shared}
theorem zg6.ex {P:Program}{w:World}{H:Hp}{h:Heap}{a:Addr}{o:HO}(x:zg6 P w H h a o):∃ u,h.get? a=some u:=by
 cases o with
 | lst xs=>obtain⟨_,_,_,_,e⟩:=x;exact⟨_,e⟩
 | tup xs=>obtain⟨_,_,_,ob,e,_⟩:=x;exact⟨ob,e⟩
 | dK kvs=>obtain⟨_,_,_,_,ob,_,_,e,_⟩:=x;exact⟨ob,e⟩
 | dT kvs=>obtain⟨_,_,_,_,ob,_,_,e,_⟩:=x;exact⟨ob,e⟩
 | set S n=>obtain⟨ob,_,_,_,e,_⟩:=x;exact⟨ob,e⟩
 | ins C dx fs=>obtain⟨_,_,_,e,_⟩:=x;exact⟨_,e⟩
 | own y=>exact x
 | xd fs=>obtain⟨_,⟨ob,_,_,e,_⟩,_⟩:=x;exact⟨ob,e⟩
 | rng lo hi=>obtain⟨_,_,_,e⟩:=x;exact⟨_,e⟩
 | frz ob u=>obtain⟨e,_⟩:=x;exact⟨_,e⟩
 | tbl ps=>exact⟨_,(show h.get? a=some _ from x)⟩
 | met f y=>exact⟨_,(show h.get? a=some _ from x)⟩
 | ext φ=>obtain⟨_,e,_⟩:=x;exact e
end
end L2
set_option maxHeartbeats 4000000
namespace L2
open PySem PySem.Spec PyProof.Rows
section
open PySem.W
end
section
variable {X:Cx}{K:zcy1}
@[irreducible] def rIdxA (p:Addr) (x:V) (H:Hp) (Q:VK):Prop:=∃ (xs:List V) (j:Nat),H p=some (.lst xs)/\zu0 x=true/\xs.all zu0=true/\(∃ y,xs[j]?=some y/\eqV y x=true)/\(∀ m y,m<j->xs[m]?=some y->eqV y x=false)/\Q (.int j) H
def rIdxM:Addr->List V->Hp->VK->Prop:=fun p vs H Q=>match vs with
 | [v]=>rIdxA p v H Q
 | _=>False
theorem mIndex:MtA X "list.index" rIdxM:=fun pins s σ H p xs us Q I r h=>by
 unfold rIdxM at h
 split at h
 ·rename_i v
  unfold rIdxA at h
  obtain⟨ys,j,h1,h2,h3,⟨y,hy,hit⟩,hno,h4⟩:=h
  obtain⟨u,rfl,ru⟩:=r.one
  obtain⟨z,its,n,r',hl,e⟩:=I.lstM h1
  have hj:j<its.toArray.size:=by
   have:=(zcy4.mp hy).1
   rw[zcy8];omega
  have at_:∀ (m:Nat) (hm:m<its.toArray.size),∃ y,ys[m]?=some y/\eqU v its.toArray[m]=eqV y v:=fun m hm=>by
   rw[zcy8] at hm
   obtain⟨w',e1,q1⟩:=r'.get (zcx9 (show m<ys.length by omega))
   refine⟨_,zcx9 (by omega),?_⟩
   have i1:its.toArray[m]=w':=by
    have:=(zcy4.mp e1).2
    simpa using this
   rw[i1]
   exact zca0 q1 (zda9.mp h3 _ (zde4 _))
  have hz:its.length<=sizeLine:=by omega
  rw[sizeLine_eq] at hz
  refine call_meets F.slot_list_index ⟨_,e,rfl⟩ F.entry_list_index (F.args_list_index_2 _ _) (SeqAt.list_indexAt p its.toArray n none #[] u (eqU v) j hj (by rw[zcy8] at hj;omega) ?_ ?_) ⟨e,fun y hy=>zah7 ru h2 r' h3 y (by simpa using hy),⟨.int _,H,I.tok _,⟨_,rfl⟩,h4⟩⟩
  ·obtain⟨y',e1,e2⟩:=at_ j hj
   rw[hy] at e1
   cases e1
   rw[e2];exact hit
  ·intro m hm hlt
   obtain⟨y',e1,e2⟩:=at_ m hm
   rw[e2];exact hno m y' hlt e1
 ·exact h.elim
theorem zbz7 {o e:Expr}{to:TE}{t:TA}{apos cpos:Pos}(hK:X.K=K) (ho:PE X o to) (ha:PA X [e] t) (hbase:attributeBase o "index" X.env (eval o X.env)=eval o X.env:=by rfl)
  (hfew:((backTo cpos (starEach [e] X.env)).all (fun x=>!x.1)&&(backToKw cpos (keywordEach [] X.env)).all (fun x=>x.1.isSome)
   && decide ([e].length+([]:List Keyword).length+(if ([]:List Keyword).isEmpty then 0 else 1)<30))=true:=by rfl)
  (hline:(apos.endLine==cpos.line)=true:=by rfl) (hs:starEach [e] X.env=(false,eval e X.env) :: starEach [] X.env:=by rfl) (hplain:(backTo cpos (starEach [] X.env)).any (·.1)=false:=by rfl):PE X (.Call (.Attribute o "index" apos) [e] [] cpos) (qBM K rIdxM to t):=by
 subst hK
 exact peBM PySem.F.slot_list_index PySem.F.type_list_index mIndex ho ha hbase hfew hline hs hplain
end
section
variable {X:Cx}{st:Stmt}{rest:List Stmt}{t u:TS}{e:Expr}{es:List Expr}{te:TE}{ta:TA}
@[irreducible] def PSsI (X:Cx) (st:List Stmt) (t:TS):Prop:=PSs X st t
@[irreducible] def PSI (X:Cx) (st:Stmt) (t:TS):Prop:=PS X st t
@[irreducible] def PEI (X:Cx) (e:Expr) (t:TE):Prop:=PE X e t
@[irreducible] def PAI (X:Cx) (es:List Expr) (t:TA):Prop:=PA X es t
theorem psOf (h:PS X st t):PSI X st t:=by unfold PSI;exact h
theorem pssTo {st:List Stmt}(h:PSsI X st t):PSs X st t:=by unfold PSsI at h;exact h
theorem zy5 (h1:PSI X st t) (h2:PSsI X rest u):PSsI X (st :: rest) (tSeq t u):=by unfold PSsI PSI at *;exact za2 h1 h2
theorem zaq8 (h1:PSI X st t):PSsI X [st] t:=by unfold PSsI PSI at *;exact za5 h1
theorem zbh7:PSsI X [] tNext:=by unfold PSsI;exact zb6
theorem psIS {i:Nat}{x:Str}{pos' pos:Pos}(hN:X.N.Nodup) (he:PEI X e te) (hi:X.N[i]?=some x:=by rfl) (hx:Loc X.env.scope x:=by first|exact Or.inl rfl|exact Or.inr rfl) (hs:swapsWith e (some (.Name x pos')) pos.line X.env=pure false:=by rfl) (hf:X.fn x=true∨X.env.scope.names.lookup x=some .local:=by first|exact .inl rfl|exact .inr rfl|assumption) :
  PSI X (.Assign [.Name x pos'] e pos) (tAsg te (zbv2 i)):=by unfold PSI PEI at *;exact zcj1 hN hi hx he hs hf
theorem peILst {pos:Pos}(h:PAI X es ta):PEI X (.List es pos) (qLst ta):=by unfold PEI PAI at *;exact zr9 h
theorem zbz1 {x j pos}:PEI X (.Constant (.str x) j pos) (tC (.str x)):=by unfold PEI;exact zf2
theorem zba8:PAI X [] tNil:=by unfold PAI;exact za1
theorem zk3 (ha:PEI X e te) (hr:PAI X es ta) (hs:starEach (e :: es) X.env=(false,eval e X.env) :: starEach es X.env:=by rfl):PAI X (e :: es) (tCons te ta):=by unfold PEI PAI at *;exact za0 ha hr hs
end
end L2
set_option maxHeartbeats 1000000
namespace L2
open PySem PySem.Spec PyProof.Rows
section
variable {X:Cx}{K:zcy1}
end
end L2
set_option maxHeartbeats 2000000
namespace L2
open PySem PySem.Spec PyProof.Rows
def Itz (K:zcy1) (a b:Addr):It:=
 ⟨fun i H=>∃ xs ys x y,SqL K H a xs/\SqL K H b ys/\xs[i]?=some x/\ys[i]?=some y,
  fun i H v H'=>∃ p x y,v=.ref p/\H p=none/\Same H H'/\H' p=some (.tup [x,y])/\(∀ xs,SqL K H a xs->xs[i]?=some x)/\∀ ys,SqL K H b ys->ys[i]?=some y,
  fun i H=>∃ xs ys,SqL K H a xs/\SqL K H b ys/\(xs.length<=i∨ys.length<=i)⟩
theorem zcg4 {P:Program}{w:World}{K:zcy1}{elts:List Expr}{k:Nat}{pos:Pos}(l1 l2 z TI TO i1 i2:Addr) (D:ZipApart z TI TO i1 i2 l1 l2) :
  Turn P w K (.Tuple elts k pos) (Itz K l1 l2) [z,TI,TO,i1,i2] z (fun i h=>IsZip h z TI TO .none/\IsPair h TI (.ref i1) (.ref i2)/\(∃ a b,IsPair h TO a b)/\h.IsListIter i1 l1 i/\h.IsListIter i2 l2 i) where
 mem:=by simp
 obj:=fun i h st b hb=>by
  obtain⟨hz,hTI,⟨a,b',hTO⟩,⟨o1,e1,c1,d1⟩,⟨o2,e2,c2,d2⟩⟩:=st
  simp only[zcz5,zdb7,or_false] at hb
  rcases hb with rfl|rfl|rfl|rfl|rfl
  ·exact⟨_,hz,fun v z=>by cases z⟩
  ·exact⟨_,hTI,fun v z=>by cases z⟩
  ·exact⟨_,hTO,fun v z=>by cases z⟩
  ·exact⟨o1,e1,fun v z=>by rw[d1] at z;cases z⟩
  ·exact⟨o2,e2,fun v z=>by rw[d2] at z;cases z⟩
 keep:=fun i h h' st kp=>by
  obtain⟨hz,hTI,⟨a,b',hTO⟩,h1,h2⟩:=st
  exact⟨kp z (by simp) _ hz,kp TI (by simp) _ hTI,⟨a,b',kp TO (by simp) _ hTO⟩,h1.at fun o x=>kp i1 (by simp) o x,h2.at fun o x=>kp i2 (by simp) o x⟩
 item:=by
  intro X hP hw hK hc i pins s σ H E I hf st hg
  subst hP hw hK
  obtain⟨hz,hTI,⟨a0,b0,hTO⟩,h1,h2⟩:=st
  obtain⟨xs,ys,x,y,hq1,hq2,hx,hy⟩:=hg
  obtain⟨its1,rv1,p1,_⟩:=I.list hq1
  obtain⟨its2,rv2,p2,_⟩:=I.list hq2
  obtain⟨u,hu,ru⟩:=rv1.get hx
  obtain⟨v,hv,rv⟩:=rv2.get hy
  have hzl:z<s.heap.objs.size:=zcz7 hz
  refine wpAny_pyNext_zip_item D hz hTI hTO h1 h2 p1.isList p2.isList (x:=u) (y:=v) (by simpa using hu) (by simpa using hv) fun h3 z3 TO3 j1 j2 T3 sz3 kp3=>?_
  refine⟨_,rfl,wpAny_letOwnedTupleGo_zip z3 fun h4 z4 hs4=>?_⟩
  replace hs4:Heap.SameBut z h3 h4:=hs4
  have kp:∀ b o,b ∉ [z,TI,TO,i1,i2]->s.heap.get? b=some o->h4.get? b=some o:=fun b o hb x=>by
   simp only[zcz5,zdb7,or_false,not_or] at hb
   obtain⟨b1,b2,b3,b4,b5⟩:=hb
   exact (hs4.2 b b1).trans (kp3 b o b1 b3 b4 b5 x)
  have ht4:h4.get? s.heap.objs.size=some { cls:=.type "tuple",data:=.seq #[u,v] }:=(hs4.2 _ (Nat.ne_of_gt hzl)).trans T3
  have hfr:H s.heap.objs.size=none:=I.fresh
  have nof:∀ b v,H b=some v->b ∉ [z,TI,TO,i1,i2]:=fun b v hb m=>by
   have:=(hf b m).1
   rw[this] at hb
   cases hb
  have nlt:∀ b o,s.heap.get? b=some o->b≠s.heap.objs.size:=fun b o x=>zda8 (zcz7 x)
  have hok:HOk X.prog X.w (upd H s.heap.objs.size (.tup [x,y])) h4:=fun b v' hb=>by
   by_cases e1:b=s.heap.objs.size
   ·subst e1
    rw[zc4] at hb
    cases hb
    exact⟨by show 2<=sizeLine;decide,[u,v],.cons ru (.cons rv .nil),⟨_,ht4,rfl,_,rfl⟩⟩
   ·rw[zc9 e1] at hb
    refine (I.hok b v' hb).stay (fun c w' hc q=>?_) (fun c q=>?_) (fun c ys q=>?_)
    ·rcases hc with rfl|hc
     ·exact kp _ _ (nof _ _ hb) q
     ·exact kp _ _ (nof _ _ hc) q
    ·rw[zc9 (zb2 q hfr)];exact q
    ·rw[zc9 (zb2 q hfr)];exact q
  have chs:∀ b∈[z,TI,TO,i1,i2],(b∈X.ex∨X.s₀.heap.objs.size<=b)/\b≠X.env.locals/\(∀ x c,X.env.cells.lookup x=some c->c≠b)/\∀ p∈X.pn++pins,p.1≠b:=fun b hb=>by
   obtain⟨f0,f1,f2,f3,f4,f5⟩:=hf b hb
   exact⟨f3,f1,f4,f5⟩
  have I2:Inv X pins σ (upd H s.heap.objs.size (.tup [x,y])) { s with heap:=h4 }:=
   I.step (g':=s.gens) (d':=s.drawn) (t':=s.toks) (ch:=[z,TI,TO,i1,i2]) chs (fun b o _ _ hb x _=>kp b o hb x) (fun b o _ _ hb x _=>⟨o.slots,kp b o hb x⟩)
    (fun b o _ x n=>by rw[zc9 (nlt b o x)];exact n) (fun b o hb x=>⟨o,kp b o hb x⟩) (fun b ys q=>by rw[zc9 (zb2 q hfr)];exact q) (fun b o v q=>by rw[zc9 (zb2 q hfr)];exact q)
    (fun b ps q=>⟨#[],by rw[zc9 (zb2 q hfr),q];simp⟩)
    (fun m hm=>by
     obtain⟨o,es,ep,ho,r⟩:=hm
     exact⟨o,es,ep,kp _ o (fun m=>(chs _ m).2.1 rfl) ho,r⟩) hok I.bare
  refine⟨.ref s.heap.objs.size,_,I2,rfl,⟨_,x,y,rfl,hfr,Same.upd hfr,zc4,fun ys hy'=>by rw[I.list_inj hy' hq1];exact hx,fun ys hy'=>by rw[I.list_inj hy' hq2];exact hy⟩,⟨z4,?_,⟨u,v,?_⟩,?_,?_⟩,fun b hb=>?_⟩
  ·exact (hs4.2 _ D.TIz).trans (kp3 _ _ D.TIz D.TITO D.TIi1 D.TIi2 hTI)
  ·exact (hs4.2 _ D.TOz).trans TO3
  ·exact j1.extBut hs4.extBut D.i1z
  ·exact j2.extBut hs4.extBut D.i2z
  ·have hb0:H b=none:=(hf b hb).1
   have hlt:b≠s.heap.objs.size:=by
    simp only[zcz5,zdb7,or_false] at hb
    rcases hb with rfl|rfl|rfl|rfl|rfl
    ·exact nlt _ _ hz
    ·exact nlt _ _ hTI
    ·exact nlt _ _ hTO
    ·obtain⟨o,ho,_⟩:=h1;exact nlt _ _ ho
    ·obtain⟨o,ho,_⟩:=h2;exact nlt _ _ ho
   rw[zc9 hlt];exact hb0
 done:=by
  intro X hP hw hK hc i pins s σ H E I hf st hg
  subst hP hw hK
  obtain⟨hz,hTI,⟨a0,b0,hTO⟩,h1,h2⟩:=st
  obtain⟨xs,ys,hq1,hq2,hx⟩:=hg
  obtain⟨its1,rv1,p1,_⟩:=I.list hq1
  obtain⟨its2,rv2,p2,_⟩:=I.list hq2
  have hl1:=rv1.length
  have hl2:=rv2.length
  have nof:∀ b v,H b=some v->b ∉ [z,TI,TO,i1,i2]:=fun b v hb m=>by
   have:=(hf b m).1
   rw[this] at hb
   cases hb
  have chs:∀ b∈[z,TI,TO,i1,i2],(b∈X.ex∨X.s₀.heap.objs.size<=b)/\b≠X.env.locals/\(∀ x c,X.env.cells.lookup x=some c->c≠b)/\∀ p∈X.pn++pins,p.1≠b:=fun b hb=>by
   obtain⟨f0,f1,f2,f3,f4,f5⟩:=hf b hb
   exact⟨f3,f1,f4,f5⟩
  refine wpAny_pyNext_zip_end (I.ok.hd hc) D hz hTI hTO h1 h2 p1.isList p2.isList ?_ fun h' kp3=>⟨rfl,?_⟩
  ·rcases hx with hx|hx
   ·exact .inl (by simp;omega)
   ·exact .inr (by simp;omega)
  ·have kp:∀ b o,b ∉ [z,TI,TO,i1,i2]->s.heap.get? b=some o->h'.get? b=some o:=fun b o hb x=>by
    simp only[zcz5,zdb7,or_false,not_or] at hb
    obtain⟨b1,b2,b3,b4,b5⟩:=hb
    exact kp3 b o b1 b3 b4 b5 x
   have hok:HOk X.prog X.w H h':=fun b v' hb=>by
    refine (I.hok b v' hb).stay (fun c w' hc q=>?_) (fun c q=>q) (fun c ys q=>q)
    rcases hc with rfl|hc
    ·exact kp _ _ (nof _ _ hb) q
    ·exact kp _ _ (nof _ _ hc) q
   exact I.step (g':=s.gens) (d':=s.drawn) (t':=s.toks) (ch:=[z,TI,TO,i1,i2]) chs (fun b o _ _ hb x _=>kp b o hb x) (fun b o _ _ hb x _=>⟨o.slots,kp b o hb x⟩)
    (fun b o _ x n=>n) (fun b o hb x=>⟨o,kp b o hb x⟩) (fun b ys q=>q) (fun b o v q=>q)
    (fun b ps q=>⟨#[],by rw[q];simp⟩)
    (fun m hm=>by
     obtain⟨o,es,ep,ho,r⟩:=hm
     exact⟨o,es,ep,kp _ o (fun m=>(chs _ m).2.1 rfl) ho,r⟩) hok I.bare
 self:=fun _ _ _ _ _ st h=>wpAny_pyIter_zip st.1 h
section
variable {X:Cx}{K:zcy1}
theorem zcj6:bootBuiltins "zip"=some (.type "zip"):=by decide +kernel
@[irreducible] def rZip (K:zcy1) (a b:Addr) (H:Hp) (R:It->Hp->Prop):Prop:=(∃ xs,SqL K H a xs)/\(∃ ys,SqL K H b ys)/\R (Itz K a b) H
def qiZip (K:zcy1) (ta:TA):TI:=fun σ H R=>ta σ H fun vs H1=>match vs with
 | [.ref a,.ref b]=>rZip K a b H1 R
 | _=>False
theorem zbr2 {elts:List Expr}{k:Nat}{pt:Pos}{a b:Expr}{ta:TA}{p pos:Pos}(hK:X.K=K) (hm:X.mg "zip"=none) (ha:PA X [a,b] ta) (hg:Gl X "zip":=by rfl) (hs:starEach [a,b] X.env=(false,eval a X.env) :: starEach [b] X.env:=by rfl)
  (hpl:(backTo pos (starEach [b] X.env)).any (·.1)=false:=by rfl) :
  PI X (.Tuple elts k pt) (.Call (.Name "zip" p) [a,b] [] pos) (qiZip K ta):=by
 subst hK
 intro pins s σ H R I h
 refine Call_ (zx1 I hg hm zcj6 (PyProof.Rows.callWith_type1 (thn (ha pos pins s σ H _ I h) fun us s1 ⟨vs,H1,I1,r1,q1⟩=>?_) hs hpl))
 dsimp only at q1
 split at q1
 ·rename_i l m
  unfold rZip at q1
  obtain⟨⟨xs,hq1⟩,⟨ys,hq2⟩,q⟩:=q1
  obtain⟨u1,u2,rfl,rx,ry⟩:=zbn2 r1
  cases rx
  cases ry
  obtain⟨its1,rv1,p1,_⟩:=I1.list hq1
  obtain⟨its2,rv2,p2,_⟩:=I1.list hq2
  have l1:@LT.lt Nat _ l s1.heap.objs.size:=by obtain⟨o,ho,_⟩:=p1.isList;exact zcz7 ho
  have l2:@LT.lt Nat _ m s1.heap.objs.size:=by obtain⟨o,ho,_⟩:=p2.isList;exact zcz7 ho
  refine call_zip_2 p1.isList p2.isList fun h' hz hTI hTO j1 j2 hsz hk=>?_
  refine wpAny_pyIter_zip hz ?_
  have I2:Inv X pins σ H1 { s1 with heap:=h' }:=I1.kept (t':=s1.toks) hk
  have D:ZipApart (s1.heap.objs.size+4) (s1.heap.objs.size+2) (s1.heap.objs.size+3) s1.heap.objs.size (s1.heap.objs.size+1) l m:=by
   constructor<;>(intro z;have z:(_:Nat)=_:=z;omega)
  refine⟨_,_,_,Itz X.K l m,H1,rfl,I2,zcg4 l m _ _ _ _ _ D,⟨hz,hTI,⟨_,_,hTO⟩,j1,j2⟩,fun b hb=>?_,q⟩
  have hb':s1.heap.objs.size<=b:=by
   simp only[zcz5,zdb7,or_false] at hb
   rcases hb with rfl|rfl|rfl|rfl|rfl
   ·exact zdd2 _ _
   ·exact zdd2 _ _
   ·exact zdd2 _ _
   ·exact zcz6 _
   ·exact zdd2 _ _
  exact I1.fpOk hb' (I1.hok.fresh hb')
 ·exact q1.elim
end
section
variable {K:zcy1}{g:TG}{tb:TS}{D:Ends}{σ:St}{H:Hp}{R:It->Hp->Prop}
theorem zbr0 {a b:Addr}{xs ys:List V}(h:SqL K H a xs) (h':SqL K H b ys) (q:R (Itz K a b) H):rZip K a b H R:=by unfold rZip;exact⟨⟨xs,h⟩,⟨ys,h'⟩,q⟩
theorem Wk.zip {a b:Addr}{xs ys:List V}{n:Nat}{H1:Hp}(h:SqL K H1 a xs) (h':SqL K H1 b ys) (hx:xs.length=n) (hy:ys.length=n):Wk (Itz K a b) n H1 fun i v H=>∃ p x y,v=.ref p/\H p=some (.tup [x,y])/\xs[i]?=some x/\ys[i]?=some y:=
 ⟨fun i H s hi=>⟨xs,ys,xs[i],ys[i],s.seq h,s.seq h',by simp,by simp⟩,fun H s=>⟨xs,ys,s.seq h,s.seq h',.inl (Nat.le_of_eq hx)⟩,fun i H v H' s _ y=>by
  obtain⟨p,x,y,rfl,y1,y2,y3,y4,y5⟩:=y
  exact⟨y2,p,x,y,rfl,y3,y4 xs (s.seq h),y5 ys (s.seq h')⟩⟩
end
end L2
set_option maxHeartbeats 2000000
namespace L2
open PySem PySem.Spec PyProof.Rows
theorem zab9:∀ {xs:List V}{us:List Value},xs.length=us.length->(∀ (j:Nat) x u,xs[j]?=some x->us[j]?=some u->RelV x u)->Vals xs us
 | [],[],_,_=>.nil
 | [],_ :: _,h,_=>by simp at h
 | _ :: _,[],h,_=>by simp at h
 | x :: xs,u :: us,h,k=>.cons (k 0 x u rfl rfl) (zab9 (by simpa using h) fun j y v hy hv=>k (j+1) y v (by simpa using hy) (by simpa using hv))
section
variable {X:Cx}{K:zcy1}
@[irreducible] def rLRng (j:Int) (H:Hp) (Q:VK):Prop:=0<=j/\j<=10000/\∀ l H',H l=none->Same H H'->H' l=some (.lst ((List.range j.toNat).map fun i=>V.int ((i:Nat):Int)))->Q (.ref l) H'
def qLRng (ta:TA):TE:=fun σ H Q=>ta σ H fun vs H1=>match vs with
 | [.int j]=>rLRng j H1 Q
 | _=>False
theorem peLRng {a:Expr}{ta:TA}{p p2 pos pos2:Pos}(hl:X.mg "list"=none) (hm:X.mg "range"=none) (ha:PA X [a] ta) (hc:X.calm=true:=by rfl) (hg:Gl X "range":=by rfl) (hg2:Gl X "list":=by rfl) (hs:starEach [a] X.env=[(false,eval a X.env)]:=by rfl)
  (he:starEach [.Call (.Name "range" p2) [a] [] pos2] X.env=[(false,eval (.Call (.Name "range" p2) [a] [] pos2) X.env)]:=by rfl) :
  PE X (.Call (.Name "list" p) [.Call (.Name "range" p2) [a] [] pos2] [] pos) (qLRng ta):=by
 intro pins s σ H Q I h
 refine wpAny_Call_Name_kw (zx1 I hg2 hl zk6 ?_)
 refine PyProof.Rows.callWith_type1 ?_ (by rw[he];rfl) rfl
 rw[he]
 show wpAny _ _ (spliced ((false,eval (.Call (.Name "range" p2) [a] [] pos2) X.env) :: [])) _ _ s
 refine Calls.spliced_cons ?_
 refine Call_ (zx1 I hg hm boot_range (PyProof.Rows.callWith_type1 (thn (ha pos2 pins s σ H _ I h) fun us s1 ⟨vs,H1,I1,r1,q1⟩=>?_) hs rfl))
 dsimp only at q1
 split at q1
 ·rename_i j
  unfold rLRng at q1
  obtain⟨j0,j1,q⟩:=q1
  obtain⟨u,rfl,rx⟩:=zaa0 r1
  obtain⟨t,rfl⟩:=rx
  refine call_range_1 (Calls.spliced_nil ?_)
  refine call_list_range (I1.ok.hd hc) (IsRange.new ..) (small_one (by decide) (by decide) (by omega) (by omega)) (n:=j.toNat) (by rw[rangeSize_one];split<;>omega) (by omega) fun h' tk acc' c' hk hS hacc=>?_
  have I2:Inv X pins σ H1 { s1 with heap:=s1.heap.push { cls:=.type "range",data:=.fields #[.int 0 s1.toks,.int j t,.int 1 (s1.toks+1)] },toks:=s1.toks+1+1 }:=I1.kept fun b o e=>zcy5 _ e
  have vs:Vals ((List.range j.toNat).map fun i=>V.int ((i:Nat):Int)) acc'.toList:=zab9 (by simp[hacc.1]) fun i x u hx hu=>by
   rw[zcy2] at hx
   obtain⟨m,hm,rfl⟩:=zcy6.mp hx
   have hm':=zcy4.mp hm
   obtain⟨hm1,hm2⟩:=hm'
   rw[List.getElem_range] at hm2
   subst hm2
   obtain⟨tt,rfl⟩:=hacc.2 i u (by simpa using hu)
   exact⟨tt,by simp⟩
  have fr:H1 (s1.heap.push { cls:=.type "range",data:=.fields #[.int 0 s1.toks,.int j t,.int 1 (s1.toks+1)] }).objs.size=none:=I2.hok.fresh (zcz6 _)
  exact⟨.ref _,_,I2.laid (t':=tk) hk (zcz6 _) (show zg6 X.prog X.w _ h' _ (.lst _) from ⟨by rw[zcy0,zda2,sizeLine_eq];omega,acc'.toList,c',vs,by simpa using hS⟩),rfl,q _ _ fr (Same.upd fr) zc4⟩
 ·exact q1.elim
theorem zcq6 {j:Int}{H:Hp}{Q:VK}(h0:0<=j) (h1:j<=10000) (q:∀ l H',H l=none->Same H H'->H' l=some (.lst ((List.range j.toNat).map fun i=>V.int ((i:Nat):Int)))->Q (.ref l) H'):rLRng j H Q:=by unfold rLRng;exact⟨h0,h1,q⟩
end
section
variable {J:It}{n:Nat}{H1:Hp}{X:Nat->V->Hp->Prop}{g:TG}{tt:TT}{te:TE}{σ0:St}{Q:VK}
theorem zbp8 (w:Wk J n H1 X) (hn:n<sizeLine) (Pv:Addr->Nat->List V->St->Hp->Prop) (h0:∀ acc H,H1 acc=none->Same H1 H->H acc=some (.lst [])->Pv acc 0 [] σ0 H)
  (hP:∀ acc i ys σ H H',Same H H'->Pv acc i ys σ H->Pv acc i ys σ H')
  (turn:∀ acc i x ys σ H (R:St->V->Hp->Prop) (S:St->Hp->Prop),i<n->H1 acc=none->Same H1 H->H acc=some (.lst ys)->X i x H->Pv acc i ys σ H ->
   (∀ σ2 v H5,Same H H5->(∀ H6,Chg acc H5 H6->Pv acc (i+1) (ys++[v]) σ2 H6)->R σ2 v H5)->(∀ σ2 H5,Same H H5->Pv acc (i+1) ys σ2 H5->S σ2 H5) ->
   g x σ H fun σ2 H3=>tt σ2 H3 fun b H4=>br b (te σ2 H4 fun v H5=>R σ2 v H5) (S σ2 H4))
  (fin:∀ acc ys σ H,H1 acc=none->Same H1 H->H acc=some (.lst ys)->Pv acc n ys σ H->Q (.ref acc) H):zas0 J g tt te σ0 H1 Q:=by
 unfold zas0
 intro acc H2 hf hs ha
 refine⟨fun i m ys σ H=>m=n - i/\i<=n/\ys.length<=i/\Same H1 H/\H acc=some (.lst ys)/\Pv acc i ys σ H,⟨n,by simp,zda6 _,zcz6 _,hs,ha,h0 acc H2 hf hs ha⟩,?_⟩
 rintro i m ys σ H ⟨rfl,hi,hl,s,hy,P⟩
 refine⟨hy,by omega,?_⟩
 by_cases hlt:i<n
 ·refine .inr ⟨w.go i H s hlt,fun x H' y=>?_⟩
  obtain⟨s1,x1⟩:=w.yld i H x H' s hlt y
  refine turn acc i x ys σ H' (fun σ2 v H5=>cPut _ acc ys i (n - i) σ2 v H5) (fun σ2 H4=>zba7 _ ys i (n - i) σ2 H4) hlt hf (s.trans s1) (s1 _ _ hy) x1 (hP _ _ _ _ _ _ s1 P) ?_ ?_
  ·intro σ2 v H5 s5 q
   have s15:=s1.trans s5
   unfold cPut
   refine⟨s15 _ _ hy,fun H6 c6 h6=>⟨n - (i+1),by omega,rfl,hlt,by rw[zcz8];simp;omega,(s.trans s15).chg hf c6,h6,q H6 c6⟩⟩
  ·intro σ2 H5 s5 q
   have s15:=s1.trans s5
   unfold zba7
   exact⟨n - (i+1),by omega,rfl,hlt,by omega,s.trans s15,s15 _ _ hy,q⟩
 ·have e:i=n:=by omega
  subst e
  exact .inl ⟨w.stop H s,fin acc ys σ H hf s hy P⟩
end
end L2
set_option maxHeartbeats 2000000
namespace PySem
open Sem (wp)
namespace F
theorem zip3_typeCall (a b c:Value):checkTypeCall "zip" ⟨[a,b,c],[]⟩=pure ():=by kernel_rfl
theorem zip3_newCall (a b c:Value):checkBuiltinCall "zip.__new__" ⟨[.type "zip",a,b,c],[]⟩=pure ():=by kernel_rfl
theorem init_four (a b c d:Value):argsOk "object.__init__" ⟨[a,b,c,d],[]⟩:=by
 unfold argsOk;rw[signature?_of (id:="object.__init__") (n:=['_','_','t','i','n','i','_','_']) (o:=['t','c','e','j','b','o']) (by kernel_rfl) owner_object];kernel_rfl
end F
abbrev zu3 (h:Heap) (T:Addr) (a b c:Value):Prop:=h.get? T=some { cls:=.type "tuple",data:=.seq #[a,b,c] }
theorem zbw7 {a b:Nat}(h:a<b∨b<a):(a:Addr)≠(b:Addr):=fun z=>by have z:(a:Nat)=b:=z;omega
section
variable {prog:Program}{w:World}{A:Around}{E:Value->Shared->Prop}{s:Shared}
theorem zbc6 {T:Addr}{a b c x:Value}{k:Nat}{Q:Unit->Shared->Prop}(gT:zu3 s.heap T a b c)
  (h:∀ h',h'.get? T=some { cls:=.type "tuple",data:=.seq ((#[a,b,c]:Array Value).setIfInBounds k x) }->Heap.SameBut T s.heap h'->Q () { s with heap:=h' }) :
  wpAny (model prog w) A (updateSeq T (·.setIfInBounds k x)) Q E s:=by
 refine wpAny_updateSeq gT rfl (h _ ?_ (Heap.SameBut.update ..));rw[Heap.get?_update_self _ gT rfl];simp[Obj.mapSeq]
theorem zbx5 {n l1 l2 l3:Nat}{k:Nat}{xs ys us:Array Value}{x y u a b c:Value}{Q:Value->Shared->Prop}(L1:l1<n) (L2:l2<n) (L3:l3<n)
  (gz:IsZip s.heap (n+5) (n+3) (n+4) .none) (gI:zu3 s.heap (n+3) (.ref n) (.ref (n+1)) (.ref (n+2))) (gO:zu3 s.heap (n+4) a b c)
  (j1:s.heap.IsListIter n l1 k) (j2:s.heap.IsListIter (n+1) l2 k) (j3:s.heap.IsListIter (n+2) l3 k) (q1:s.heap.IsList l1 xs) (q2:s.heap.IsList l2 ys) (q3:s.heap.IsList l3 us) (hx:xs[k]?=some x) (hy:ys[k]?=some y) (hv:us[k]?=some u)
  (hQ:∀ h',IsZip h' (n+5) (n+3) (n+4) (rawInt s.heap.objs.size)->zu3 h' (n+4) x y u->h'.IsListIter n l1 (k+1)->h'.IsListIter (n+1) l2 (k+1)->h'.IsListIter (n+2) l3 (k+1)->zu3 h' s.heap.objs.size x y u->h'.objs.size=s.heap.objs.size+1 ->
   (∀ c o,c≠n+5->c≠n+4->c≠n->c≠n+1->c≠n+2->s.heap.get? c=some o->h'.get? c=some o)->Q (.ref s.heap.objs.size) { s with heap:=h' }) :
  wpAny (model prog w) A (Builtin.«zip.__next__» ⟨[.ref (n+5)],[]⟩) (fun fin s'=>∃ v,fin=.done (.ret v)/\Q v s') E s:=by
 show wpAny _ _ (field (.ref (n+5)) 2 >>= _) _ _ _
 refine wpAny_bind (wpAny_field gz rfl (x:=.bool false) rfl ?_)
 show wpAny _ _ (field (.ref (n+5)) 3 >>= _) _ _ _
 refine wpAny_bind (wpAny_field gz rfl (x:=.ref (n+3)) rfl (wpAny_bind (wpAny_seqItems gI rfl ?_)))
 show wpAny _ _ (Builtin.SmallTypes.ownedTupleIsFree (.ref (n+5)) >>= _) _ _ _
 refine wpAny_bind ?_;unfold Builtin.SmallTypes.ownedTupleIsFree
 refine wpAny_bind (wpAny_field gz rfl (x:=.none) rfl (wpAny_pure ?_));simp only[if_true]
 refine wpAny_bind (wpAny_rule (wpAny_bind (wpAny_field gz rfl (x:=.ref (n+4)) rfl ?_)))
 refine wpAny_bind (wpAny_setField_rec gz (by simp) fun h1 gz1 b1=>?_)
 replace gz1:IsZip h1 (n+5) (n+3) (n+4) .ellipsis:=gz1
 refine wpAny_bind ?_;simp only[List.zipIdx_nil,List.zipIdx_cons,List.forIn_nil,List.forIn_cons]
 have D (p q:Nat) (h:p<q∨q<p):(p:Addr)≠(q:Addr):=zbw7 h
 refine wpAny_bind (wpAny_bind (wpAny_onRaise ?_));show wpAny _ _ (Builtin.SmallTypes.nextOf (.ref n) >>= _) _ _ _
 refine wpAny_bind (wpAny_nextOf_list_item (j1.extBut b1.extBut (D _ _ (by omega))) (q1.extBut b1.extBut (D _ _ (by omega))) hx fun h2 j12 b2=>wpAny_pure ?_)
 have gO2:zu3 h2 (n+4) a b c:=b2.extBut _ _ (D _ _ (by omega)) (b1.extBut _ _ (D _ _ (by omega)) gO)
 refine wpAny_bind (wpAny_seqItems gO2 rfl (wpAny_bind (zbc6 gO2 fun h3 gO3 b3=>?_)))
 replace gO3:zu3 h3 (n+4) x b c:=gO3
 refine wpAny_bind (wpAny_letGo (wpAny_pure ?_))
 refine wpAny_bind (wpAny_bind (wpAny_onRaise ?_));show wpAny _ _ (Builtin.SmallTypes.nextOf (.ref (n+1)) >>= _) _ _ _
 have j23:h3.IsListIter (n+1) l2 k:=((j2.extBut b1.extBut (D _ _ (by omega))).extBut b2.extBut (D _ _ (by omega))).extBut b3.extBut (D _ _ (by omega))
 have q23:h3.IsList l2 ys:=((q2.extBut b1.extBut (D _ _ (by omega))).extBut b2.extBut (D _ _ (by omega))).extBut b3.extBut (D _ _ (by omega))
 refine wpAny_bind (wpAny_nextOf_list_item j23 q23 hy fun h4 j24 b4=>wpAny_pure ?_)
 have gO4:zu3 h4 (n+4) x b c:=b4.extBut _ _ (D _ _ (by omega)) gO3
 refine wpAny_bind (wpAny_seqItems gO4 rfl (wpAny_bind (zbc6 gO4 fun h5 gO5 b5=>?_)))
 replace gO5:zu3 h5 (n+4) x y c:=gO5
 refine wpAny_bind (wpAny_letGo (wpAny_pure ?_))
 refine wpAny_bind (wpAny_bind (wpAny_onRaise ?_));show wpAny _ _ (Builtin.SmallTypes.nextOf (.ref (n+2)) >>= _) _ _ _
 have up5:∀ c o,c≠n+5->c≠n+4->c≠n->c≠n+1->s.heap.get? c=some o->h5.get? c=some o:=fun c o c1 c2 c3 c4 e=>
  b5.extBut _ _ c2 (b4.extBut _ _ c4 (b3.extBut _ _ c2 (b2.extBut _ _ c3 (b1.extBut _ _ c1 e))))
 have j35:h5.IsListIter (n+2) l3 k:=j3.at fun o e=>up5 _ o (D _ _ (by omega)) (D _ _ (by omega)) (D _ _ (by omega)) (D _ _ (by omega)) e
 have q35:h5.IsList l3 us:=q3.at fun o e=>up5 _ o (D _ _ (by omega)) (D _ _ (by omega)) (D _ _ (by omega)) (D _ _ (by omega)) e
 refine wpAny_bind (wpAny_nextOf_list_item j35 q35 hv fun h6 j36 b6=>wpAny_pure ?_)
 have gO6:zu3 h6 (n+4) x y c:=b6.extBut _ _ (D _ _ (by omega)) gO5
 refine wpAny_bind (wpAny_seqItems gO6 rfl (wpAny_bind (zbc6 gO6 fun h7 gO7 b7=>?_)))
 replace gO7:zu3 h7 (n+4) x y u:=gO7
 refine wpAny_bind (wpAny_letGo (wpAny_pure (wpAny_pure ?_)))
 refine wpAny_bind (wpAny_seqItems gO7 rfl (wpAny_bind (wpAny_newTuple ?_)))
 have sz:h7.objs.size=s.heap.objs.size:=by rw[b7.1,b6.1,b5.1,b4.1,b3.1,b2.1,b1.1]
 have up7:∀ c o,c≠n+5->c≠n+4->c≠n->c≠n+1->c≠n+2->s.heap.get? c=some o->h7.get? c=some o:=fun c o c1 c2 c3 c4 c5 e=>b7.extBut _ _ c2 (b6.extBut _ _ c5 (up5 c o c1 c2 c3 c4 e))
 have gz7:IsZip h7 (n+5) (n+3) (n+4) .ellipsis:=
  b7.extBut _ _ (D _ _ (by omega)) (b6.extBut _ _ (D _ _ (by omega)) (b5.extBut _ _ (D _ _ (by omega)) (b4.extBut _ _ (D _ _ (by omega)) (b3.extBut _ _ (D _ _ (by omega)) (b2.extBut _ _ (D _ _ (by omega)) gz1)))))
 have j17:h7.IsListIter n l1 (k+1):=((((j12.extBut b3.extBut (D _ _ (by omega))).extBut b4.extBut (D _ _ (by omega))).extBut b5.extBut (D _ _ (by omega))).extBut b6.extBut (D _ _ (by omega))).extBut b7.extBut (D _ _ (by omega))
 have j27:h7.IsListIter (n+1) l2 (k+1):=((j24.extBut b5.extBut (D _ _ (by omega))).extBut b6.extBut (D _ _ (by omega))).extBut b7.extBut (D _ _ (by omega))
 have j37:h7.IsListIter (n+2) l3 (k+1):=j36.extBut b7.extBut (D _ _ (by omega))
 have lz:n+5<h7.objs.size:=zcz7 gz7
 show wpAny _ _ (Builtin.SmallTypes.ownedTupleHandOut (.ref (n+5)) (.ref h7.objs.size) >>= _) _ _ _
 refine wpAny_bind ?_;unfold Builtin.SmallTypes.ownedTupleHandOut
 have gz8:IsZip (h7.push { cls:=.type "tuple",data:=.seq #[x,y,u] }) (n+5) (n+3) (n+4) .ellipsis:=zcy5 _ gz7
 refine wpAny_bind (wpAny_setField_rec gz8 (by simp) fun h9 gz9 b9=>?_)
 replace gz9:IsZip h9 (n+5) (n+3) (n+4) (rawInt h7.objs.size):=gz9
 refine wpAny_setField_rec gz9 (by simp) fun ha gza ba=>?_
 replace gza:IsZip ha (n+5) (n+3) (n+4) (rawInt h7.objs.size):=gza
 have up:∀ c o,c≠n+5->h7.get? c=some o->ha.get? c=some o:=fun c o c1 e=>ba.extBut _ _ c1 (b9.extBut _ _ c1 (zcy5 _ e))
 have gT:zu3 ha h7.objs.size x y u:=ba.extBut _ _ (Nat.ne_of_gt lz) (b9.extBut _ _ (Nat.ne_of_gt lz) (zcz9 _ rfl))
 have sa:ha.objs.size=h7.objs.size+1:=by rw[ba.1,b9.1,zdf6]
 rw[sz] at gza gT sa
 refine wpAny_pure ⟨_,rfl,?_⟩
 show Q (.ref h7.objs.size) _
 rw[sz]
 exact hQ ha gza (up _ _ (D _ _ (by omega)) gO7) (j17.at fun o e=>up _ o (D _ _ (by omega)) e) (j27.at fun o e=>up _ o (D _ _ (by omega)) e) (j37.at fun o e=>up _ o (D _ _ (by omega)) e) gT sa fun c o c1 c2 c3 c4 c5 e=>up c o c1 (up7 c o c1 c2 c3 c4 c5 e)
theorem zcc3 {n l1:Nat}{k:Nat}{xs:Array Value}{a b c:Value}{Q:Fin->Shared->Prop}(hh:A.handled=none) (L1:l1<n)
  (gz:IsZip s.heap (n+5) (n+3) (n+4) .none) (gI:zu3 s.heap (n+3) (.ref n) (.ref (n+1)) (.ref (n+2))) (j1:s.heap.IsListIter n l1 k) (q1:s.heap.IsList l1 xs) (hx:xs[k]?=none)
  (hE:∀ h' e,(∀ c o,c≠n+5->c≠n->s.heap.get? c=some o->h'.get? c=some o)->(∃ o,h'.get? e=some o/\o.cls=.type "StopIteration")->E (.ref e) { s with heap:=h' }) :
  wpAny (model prog w) A (Builtin.«zip.__next__» ⟨[.ref (n+5)],[]⟩) Q E s:=by
 show wpAny _ _ (field (.ref (n+5)) 2 >>= _) _ _ _
 refine wpAny_bind (wpAny_field gz rfl (x:=.bool false) rfl ?_)
 show wpAny _ _ (field (.ref (n+5)) 3 >>= _) _ _ _
 refine wpAny_bind (wpAny_field gz rfl (x:=.ref (n+3)) rfl (wpAny_bind (wpAny_seqItems gI rfl ?_)))
 show wpAny _ _ (Builtin.SmallTypes.ownedTupleIsFree (.ref (n+5)) >>= _) _ _ _
 refine wpAny_bind ?_;unfold Builtin.SmallTypes.ownedTupleIsFree
 refine wpAny_bind (wpAny_field gz rfl (x:=.none) rfl (wpAny_pure ?_));simp only[if_true]
 refine wpAny_bind (wpAny_rule (wpAny_bind (wpAny_field gz rfl (x:=.ref (n+4)) rfl ?_)))
 refine wpAny_bind (wpAny_setField_rec gz (by simp) fun h1 gz1 b1=>?_)
 replace gz1:IsZip h1 (n+5) (n+3) (n+4) .ellipsis:=gz1
 refine wpAny_bind ?_;simp only[List.zipIdx_nil,List.zipIdx_cons,List.forIn_nil,List.forIn_cons]
 refine wpAny_bind (wpAny_bind (wpAny_onRaise ?_));show wpAny _ _ (Builtin.SmallTypes.nextOf (.ref n) >>= _) _ _ _
 refine wpAny_bind (wpAny_nextOf_list_end hh (j1.extBut b1.extBut (zbw7 (by omega))) (q1.extBut b1.extBut (zbw7 (by omega))) hx fun h2 e b2 he=>?_)
 obtain⟨oe,ge,ce⟩:=he
 have gz2:IsZip h2 (n+5) (n+3) (n+4) .ellipsis:=b2 _ _ (zbw7 (by omega)) gz1
 have ez:e≠n+5:=fun x=>by subst x;rw[gz2] at ge;cases ge;simp at ce
 refine wpAny_setField_rec gz2 (by simp) fun h3 _ b3=>hE h3 e (fun c o c1 c3 x=>b3.extBut _ _ c1 (b2 _ _ c3 (b1.extBut _ _ c1 x))) ⟨oe,b3.extBut _ _ ez ge,ce⟩
theorem zbv0 {n l1 l2 l3:Nat}{k:Nat}{xs ys us:Array Value}{x y u a b c:Value}{Q:Option Value->Shared->Prop}(L1:l1<n) (L2:l2<n) (L3:l3<n)
  (gz:IsZip s.heap (n+5) (n+3) (n+4) .none) (gI:zu3 s.heap (n+3) (.ref n) (.ref (n+1)) (.ref (n+2))) (gO:zu3 s.heap (n+4) a b c)
  (j1:s.heap.IsListIter n l1 k) (j2:s.heap.IsListIter (n+1) l2 k) (j3:s.heap.IsListIter (n+2) l3 k) (q1:s.heap.IsList l1 xs) (q2:s.heap.IsList l2 ys) (q3:s.heap.IsList l3 us) (hx:xs[k]?=some x) (hy:ys[k]?=some y) (hv:us[k]?=some u)
  (hQ:∀ h',IsZip h' (n+5) (n+3) (n+4) (rawInt s.heap.objs.size)->zu3 h' (n+4) x y u->h'.IsListIter n l1 (k+1)->h'.IsListIter (n+1) l2 (k+1)->h'.IsListIter (n+2) l3 (k+1)->zu3 h' s.heap.objs.size x y u->h'.objs.size=s.heap.objs.size+1 ->
   (∀ c o,c≠n+5->c≠n+4->c≠n->c≠n+1->c≠n+2->s.heap.get? c=some o->h'.get? c=some o)->Q (some (.ref s.heap.objs.size)) { s with heap:=h' }) :
  wpAny (model prog w) A (pyNext (.ref (n+5))) Q E s:=by
 have gT:s.TypeIs (.ref (n+5)) "zip":=⟨_,gz,rfl⟩
 unfold pyNext
 exact wpAny_bind (wpAny_attempt (wpAny_callSpecial?_slot (name:=Str.ofString "__next__") gT F.slot_zip_next (wpAny_call_entry F.slot_zip_next gT F.entry_zip_next
  (zbx5 L1 L2 L3 gz gI gO j1 j2 j3 q1 q2 q3 hx hy hv fun h' a1 a2 a3 a4 a5 a6 a7 a8=>wpAny_pure (hQ h' a1 a2 a3 a4 a5 a6 a7 a8)) (F.args_zip_next_1 _))))
theorem zbu0 {n l1:Nat}{k:Nat}{xs:Array Value}{Q:Option Value->Shared->Prop}(hh:A.handled=none) (L1:l1<n)
  (gz:IsZip s.heap (n+5) (n+3) (n+4) .none) (gI:zu3 s.heap (n+3) (.ref n) (.ref (n+1)) (.ref (n+2))) (j1:s.heap.IsListIter n l1 k) (q1:s.heap.IsList l1 xs) (hx:xs[k]?=none)
  (hQ:∀ h',(∀ c o,c≠n+5->c≠n->s.heap.get? c=some o->h'.get? c=some o)->Q none { s with heap:=h' }):wpAny (model prog w) A (pyNext (.ref (n+5))) Q E s:=by
 have gT:s.TypeIs (.ref (n+5)) "zip":=⟨_,gz,rfl⟩
 unfold pyNext
 refine wpAny_bind (wpAny_attempt (wpAny_callSpecial?_slot (name:=Str.ofString "__next__") gT F.slot_zip_next (wpAny_call_entry F.slot_zip_next gT F.entry_zip_next
  (zcc3 (a:=.none) (b:=.none) (c:=.none) hh L1 gz gI j1 q1 hx fun h' e up he=>?_) (F.args_zip_next_1 _))))
 obtain⟨o,ho,hc⟩:=he;refine wpAny_bind (wpAny_isInstance (T:="StopIteration") (b:=true) ⟨o,ho,hc⟩ isSubtype_stop (wpAny_pure (hQ _ up)))
end
abbrev itO (l:Addr):Obj:={ cls:=.type "list_iterator",data:=.fields #[.ref l,.int 0 0] }
abbrev z3a (h:Heap) (l1 l2 l3:Addr):Heap:=((h.push (itO l1)).push (itO l2)).push (itO l3)
abbrev z3b (h:Heap) (l1 l2 l3:Addr):Heap:=(z3a h l1 l2 l3).push { cls:=.type "tuple",data:=.seq #[.ref h.objs.size,.ref (h.push (itO l1)).objs.size,.ref ((h.push (itO l1)).push (itO l2)).objs.size] }
abbrev z3c (h:Heap) (l1 l2 l3:Addr):Heap:=(z3b h l1 l2 l3).push { cls:=.type "tuple",data:=.seq #[.none,.none,.none] }
abbrev z3d (h:Heap) (l1 l2 l3:Addr):Heap:=(z3c h l1 l2 l3).push { cls:=.type "zip",data:=.fields #[.none,.bool false,.bool false,.ref (z3a h l1 l2 l3).objs.size,.ref (z3b h l1 l2 l3).objs.size] }
theorem zcc8 (l1 l2 l3:Addr) (xs ys us:Array Value):Meets (Builtin.«zip.__new__» ⟨[.type "zip",.ref l1,.ref l2,.ref l3],[]⟩) (fun _ R s=>s.heap.IsList l1 xs/\s.heap.IsList l2 ys/\s.heap.IsList l3 us /\
   R (.ok (.ret (.ref (z3c s.heap l1 l2 l3).objs.size))) { s with heap:=z3d s.heap l1 l2 l3 }):=
 .of_wp fun prog w A R s h=>by
  obtain⟨hp,g,d,tk,os⟩:=s;obtain⟨q1,q2,q3,h⟩:=h;have sub:=sub_zip
  have g1:Heap.IsList (Shared.heap ⟨hp,g,d,tk,os⟩) l1 xs:=q1
  have g2:Heap.IsList (Shared.heap ⟨hp.push (itO l1),g,d,tk,os⟩) l2 ys:=Heap.IsList.push q2 _
  have g3:Heap.IsList (Shared.heap ⟨(hp.push (itO l1)).push (itO l2),g,d,tk,os⟩) l3 us:=Heap.IsList.push (Heap.IsList.push q3 _) _
  wp_walk using wpAny_pyIter_list g1,wpAny_pyIter_list g2,wpAny_pyIter_list g3
  exact⟨_,rfl,h⟩
section
variable {prog:Program}{w:World}{A:Around}{E:Value->Shared->Prop}{s:Shared}
theorem zbu6 {l1 l2 l3:Addr}{xs ys us:Array Value}{Q:Value->Shared->Prop}(q1:s.heap.IsList l1 xs) (q2:s.heap.IsList l2 ys) (q3:s.heap.IsList l3 us)
  (h:∀ h' (n:Nat),n=s.heap.objs.size->IsZip h' (n+5) (n+3) (n+4) .none->zu3 h' (n+3) (.ref n) (.ref (n+1)) (.ref (n+2))->zu3 h' (n+4) .none .none .none->h'.IsListIter n l1 0->h'.IsListIter (n+1) l2 0->h'.IsListIter (n+2) l3 0 ->
   (∀ c o,s.heap.get? c=some o->h'.get? c=some o)->Q (.ref (n+5)) { s with heap:=h' }):wpAny (model prog w) A (call (.type "zip") [.ref l1,.ref l2,.ref l3]) Q E s:=by
 refine callType_new F.called_zip (by decide) (F.zip3_typeCall _ _ _) (F.zip3_newCall _ _ _) (fun obj=>F.init_four obj _ _ _) F.entry_zip_new (zcc8 l1 l2 l3 xs ys us) ⟨q1,q2,q3,?_⟩
 have e1:(s.heap.push (itO l1)).objs.size=s.heap.objs.size+1:=zdf6 ..
 have e2:((s.heap.push (itO l1)).push (itO l2)).objs.size=s.heap.objs.size+2:=by rw[zdf6,e1]
 have e3:(z3a s.heap l1 l2 l3).objs.size=s.heap.objs.size+3:=by rw[zdf6,e2]
 have e4:(z3b s.heap l1 l2 l3).objs.size=s.heap.objs.size+4:=by rw[zdf6,e3]
 have e5:(z3c s.heap l1 l2 l3).objs.size=s.heap.objs.size+5:=by rw[zdf6,e4]
 have g6:(z3d s.heap l1 l2 l3).get? (z3c s.heap l1 l2 l3).objs.size=some _:=zcz9 _ rfl
 have g5:(z3d s.heap l1 l2 l3).get? (z3b s.heap l1 l2 l3).objs.size=some _:=zcy5 _ (zcz9 _ rfl)
 have g4:(z3d s.heap l1 l2 l3).get? (z3a s.heap l1 l2 l3).objs.size=some _:=zcy5 _ (zcy5 _ (zcz9 _ rfl))
 have g3:(z3d s.heap l1 l2 l3).get? ((s.heap.push (itO l1)).push (itO l2)).objs.size=some _:=zcy5 _ (zcy5 _ (zcy5 _ (zcz9 _ rfl)))
 have g2:(z3d s.heap l1 l2 l3).get? (s.heap.push (itO l1)).objs.size=some _:=zcy5 _ (zcy5 _ (zcy5 _ (zcy5 _ (zcz9 _ rfl))))
 have g1:(z3d s.heap l1 l2 l3).get? s.heap.objs.size=some _:=zcy5 _ (zcy5 _ (zcy5 _ (zcy5 _ (zcy5 _ (zcz9 _ rfl)))))
 show _/\_
 rw[e3,e4,e5] at g6
 rw[e1,e2,e3] at g4
 rw[e4] at g5
 rw[e2] at g3
 rw[e1] at g2
 rw[e5]
 exact⟨⟨_,g6,rfl⟩,h _ _ rfl g6 g4 g5 ⟨_,g1,rfl,rfl⟩ ⟨_,g2,rfl,rfl⟩ ⟨_,g3,rfl,rfl⟩ fun c o x=>
  zcy5 _ (zcy5 _ (zcy5 _ (zcy5 _ (zcy5 _ (zcy5 _ x)))))⟩
end
end PySem
set_option maxHeartbeats 2000000
namespace L2
open PySem PySem.Spec PyProof.Rows
def Itz3 (K:zcy1) (a b c:Addr):It:=
 ⟨fun i H=>∃ xs ys us x y u,SqL K H a xs/\SqL K H b ys/\SqL K H c us/\xs[i]?=some x/\ys[i]?=some y/\us[i]?=some u,
  fun i H v H'=>∃ p x y u,v=.ref p/\H p=none/\Same H H'/\H' p=some (.tup [x,y,u])/\(∀ xs,SqL K H a xs->xs[i]?=some x)/\(∀ ys,SqL K H b ys->ys[i]?=some y)/\∀ us,SqL K H c us->us[i]?=some u,
  fun i H=>∃ xs,SqL K H a xs/\xs.length<=i⟩
theorem zbu4 {P:Program}{w:World}{K:zcy1}{elts:List Expr}{k:Nat}{pos:Pos}(l1 l2 l3 n:Nat) (L1:l1<n) (L2:l2<n) (L3:l3<n) :
  Turn P w K (.Tuple elts k pos) (Itz3 K l1 l2 l3) [n+5,n+3,n+4,n,n+1,n+2] (n+5) (fun i h=>IsZip h (n+5) (n+3) (n+4) .none/\zu3 h (n+3) (.ref n) (.ref (n+1)) (.ref (n+2))/\(∃ a b c,zu3 h (n+4) a b c)/\h.IsListIter n l1 i/\h.IsListIter (n+1) l2 i/\h.IsListIter (n+2) l3 i) where
 mem:=by simp
 obj:=fun i h st b hb=>by
  obtain⟨hz,hTI,⟨a,b',c',hTO⟩,⟨o1,e1,c1,d1⟩,⟨o2,e2,c2,d2⟩,⟨o3,e3,c3,d3⟩⟩:=st
  simp only[zcz5,zdb7,or_false] at hb
  rcases hb with rfl|rfl|rfl|rfl|rfl|rfl
  ·exact⟨_,hz,fun v z=>by cases z⟩
  ·exact⟨_,hTI,fun v z=>by cases z⟩
  ·exact⟨_,hTO,fun v z=>by cases z⟩
  ·exact⟨o1,e1,fun v z=>by rw[d1] at z;cases z⟩
  ·exact⟨o2,e2,fun v z=>by rw[d2] at z;cases z⟩
  ·exact⟨o3,e3,fun v z=>by rw[d3] at z;cases z⟩
 keep:=fun i h h' st kp=>by
  obtain⟨hz,hTI,⟨a,b',c',hTO⟩,h1,h2,h3⟩:=st
  exact⟨kp _ (by simp) _ hz,kp _ (by simp) _ hTI,⟨a,b',c',kp _ (by simp) _ hTO⟩,h1.at fun o x=>kp _ (by simp) o x,h2.at fun o x=>kp _ (by simp) o x,h3.at fun o x=>kp _ (by simp) o x⟩
 item:=by
  intro X hP hw hK hc i pins s σ H E I hf st hg
  subst hP hw hK
  obtain⟨hz,hTI,⟨a0,b0,c0,hTO⟩,h1,h2,h3⟩:=st
  obtain⟨xs,ys,us,x,y,u',hq1,hq2,hq3,hx,hy,hu'⟩:=hg
  obtain⟨its1,rv1,p1,_⟩:=I.list hq1
  obtain⟨its2,rv2,p2,_⟩:=I.list hq2
  obtain⟨its3,rv3,p3,_⟩:=I.list hq3
  obtain⟨u,hu,ru⟩:=rv1.get hx
  obtain⟨v,hv,rv⟩:=rv2.get hy
  obtain⟨t,ht,rt⟩:=rv3.get hu'
  have hzl:n+5<s.heap.objs.size:=zcz7 hz
  refine zbv0 L1 L2 L3 hz hTI hTO h1 h2 h3 p1.isList p2.isList p3.isList (x:=u) (y:=v) (u:=t) (by simpa using hu) (by simpa using hv) (by simpa using ht) fun h3' z3 TO3 j1 j2 j3 T3 sz3 kp3=>?_
  refine⟨_,rfl,wpAny_letOwnedTupleGo_zip z3 fun h4 z4 hs4=>?_⟩
  replace hs4:Heap.SameBut (n+5) h3' h4:=hs4
  have D (p q:Nat) (h:p<q∨q<p):(p:Addr)≠(q:Addr):=zbw7 h
  have kp:∀ b o,b ∉ [n+5,n+3,n+4,n,n+1,n+2]->s.heap.get? b=some o->h4.get? b=some o:=fun b o hb x=>by
   simp only[zcz5,zdb7,or_false,not_or] at hb
   obtain⟨b1,b2,b3,b4,b5,b6⟩:=hb
   exact (hs4.2 b b1).trans (kp3 b o b1 b3 b4 b5 b6 x)
  have ht4:h4.get? s.heap.objs.size=some { cls:=.type "tuple",data:=.seq #[u,v,t] }:=(hs4.2 _ (Nat.ne_of_gt hzl)).trans T3
  have hfr:H s.heap.objs.size=none:=I.fresh
  have nof:∀ b v,H b=some v->b ∉ [n+5,n+3,n+4,n,n+1,n+2]:=fun b v hb m=>by
   have:=(hf b m).1
   rw[this] at hb
   cases hb
  have nlt:∀ b o,s.heap.get? b=some o->b≠s.heap.objs.size:=fun b o x=>zda8 (zcz7 x)
  have hok:HOk X.prog X.w (upd H s.heap.objs.size (.tup [x,y,u'])) h4:=fun b v' hb=>by
   by_cases e1:b=s.heap.objs.size
   ·subst e1
    rw[zc4] at hb
    cases hb
    exact⟨by show 3<=sizeLine;decide,[u,v,t],.cons ru (.cons rv (.cons rt .nil)),⟨_,ht4,rfl,_,rfl⟩⟩
   ·rw[zc9 e1] at hb
    refine (I.hok b v' hb).stay (fun c w' hc q=>?_) (fun c q=>?_) (fun c ys q=>?_)
    ·rcases hc with rfl|hc
     ·exact kp _ _ (nof _ _ hb) q
     ·exact kp _ _ (nof _ _ hc) q
    ·rw[zc9 (zb2 q hfr)];exact q
    ·rw[zc9 (zb2 q hfr)];exact q
  have chs:∀ b∈[n+5,n+3,n+4,n,n+1,n+2],(b∈X.ex∨X.s₀.heap.objs.size<=b)/\b≠X.env.locals/\(∀ x c,X.env.cells.lookup x=some c->c≠b)/\∀ p∈X.pn++pins,p.1≠b:=fun b hb=>by
   obtain⟨f0,f1,f2,f3,f4,f5⟩:=hf b hb
   exact⟨f3,f1,f4,f5⟩
  have I2:Inv X pins σ (upd H s.heap.objs.size (.tup [x,y,u'])) { s with heap:=h4 }:=
   I.step (g':=s.gens) (d':=s.drawn) (t':=s.toks) (ch:=[n+5,n+3,n+4,n,n+1,n+2]) chs (fun b o _ _ hb x _=>kp b o hb x) (fun b o _ _ hb x _=>⟨o.slots,kp b o hb x⟩)
    (fun b o _ x n=>by rw[zc9 (nlt b o x)];exact n) (fun b o hb x=>⟨o,kp b o hb x⟩) (fun b ys q=>by rw[zc9 (zb2 q hfr)];exact q) (fun b o v q=>by rw[zc9 (zb2 q hfr)];exact q)
    (fun b ps q=>⟨#[],by rw[zc9 (zb2 q hfr),q];simp⟩)
    (fun m hm=>by
     obtain⟨o,es,ep,ho,r⟩:=hm
     exact⟨o,es,ep,kp _ o (fun m=>(chs _ m).2.1 rfl) ho,r⟩) hok I.bare
  refine⟨.ref s.heap.objs.size,_,I2,rfl,⟨_,x,y,u',rfl,hfr,Same.upd hfr,zc4,fun ys hy'=>by rw[I.list_inj hy' hq1];exact hx,fun ys hy'=>by rw[I.list_inj hy' hq2];exact hy,fun ys hy'=>by rw[I.list_inj hy' hq3];exact hu'⟩,⟨z4,?_,⟨u,v,t,?_⟩,?_,?_,?_⟩,fun b hb=>?_⟩
  ·exact (hs4.2 _ (D _ _ (by omega))).trans (kp3 _ _ (D _ _ (by omega)) (D _ _ (by omega)) (D _ _ (by omega)) (D _ _ (by omega)) (D _ _ (by omega)) hTI)
  ·exact (hs4.2 _ (D _ _ (by omega))).trans TO3
  ·exact j1.extBut hs4.extBut (D _ _ (by omega))
  ·exact j2.extBut hs4.extBut (D _ _ (by omega))
  ·exact j3.extBut hs4.extBut (D _ _ (by omega))
  ·have hb0:H b=none:=(hf b hb).1
   have hlt:b≠s.heap.objs.size:=by
    simp only[zcz5,zdb7,or_false] at hb
    rcases hb with rfl|rfl|rfl|rfl|rfl|rfl
    ·exact nlt _ _ hz
    ·exact nlt _ _ hTI
    ·exact nlt _ _ hTO
    ·obtain⟨o,ho,_⟩:=h1;exact nlt _ _ ho
    ·obtain⟨o,ho,_⟩:=h2;exact nlt _ _ ho
    ·obtain⟨o,ho,_⟩:=h3;exact nlt _ _ ho
   rw[zc9 hlt];exact hb0
 done:=by
  intro X hP hw hK hc i pins s σ H E I hf st hg
  subst hP hw hK
  obtain⟨hz,hTI,⟨a0,b0,c0,hTO⟩,h1,h2,h3⟩:=st
  obtain⟨xs,hq1,hx⟩:=hg
  obtain⟨its1,rv1,p1,_⟩:=I.list hq1
  have hl1:=rv1.length
  have nof:∀ b v,H b=some v->b ∉ [n+5,n+3,n+4,n,n+1,n+2]:=fun b v hb m=>by
   have:=(hf b m).1
   rw[this] at hb
   cases hb
  have chs:∀ b∈[n+5,n+3,n+4,n,n+1,n+2],(b∈X.ex∨X.s₀.heap.objs.size<=b)/\b≠X.env.locals/\(∀ x c,X.env.cells.lookup x=some c->c≠b)/\∀ p∈X.pn++pins,p.1≠b:=fun b hb=>by
   obtain⟨f0,f1,f2,f3,f4,f5⟩:=hf b hb
   exact⟨f3,f1,f4,f5⟩
  refine zbu0 (I.ok.hd hc) L1 hz hTI h1 p1.isList (by simp;omega) fun h' kp3=>⟨rfl,?_⟩
  have kp:∀ b o,b ∉ [n+5,n+3,n+4,n,n+1,n+2]->s.heap.get? b=some o->h'.get? b=some o:=fun b o hb x=>by
   simp only[zcz5,zdb7,or_false,not_or] at hb
   obtain⟨b1,b2,b3,b4,b5,b6⟩:=hb
   exact kp3 b o b1 b4 x
  have hok:HOk X.prog X.w H h':=fun b v' hb=>by
   refine (I.hok b v' hb).stay (fun c w' hc q=>?_) (fun c q=>q) (fun c ys q=>q)
   rcases hc with rfl|hc
   ·exact kp _ _ (nof _ _ hb) q
   ·exact kp _ _ (nof _ _ hc) q
  exact I.step (g':=s.gens) (d':=s.drawn) (t':=s.toks) (ch:=[n+5,n+3,n+4,n,n+1,n+2]) chs (fun b o _ _ hb x _=>kp b o hb x) (fun b o _ _ hb x _=>⟨o.slots,kp b o hb x⟩)
    (fun b o _ x n=>n) (fun b o hb x=>⟨o,kp b o hb x⟩) (fun b ys q=>q) (fun b o v q=>q)
    (fun b ps q=>⟨#[],by rw[q];simp⟩)
    (fun m hm=>by
     obtain⟨o,es,ep,ho,r⟩:=hm
     exact⟨o,es,ep,kp _ o (fun m=>(chs _ m).2.1 rfl) ho,r⟩) hok I.bare
 self:=fun _ _ _ _ _ st h=>wpAny_pyIter_zip st.1 h
section
variable {X:Cx}{K:zcy1}
@[irreducible] def rZip3 (K:zcy1) (a b c:Addr) (H:Hp) (R:It->Hp->Prop):Prop:=(∃ xs,SqL K H a xs)/\(∃ ys,SqL K H b ys)/\(∃ us,SqL K H c us)/\R (Itz3 K a b c) H
def qiZip3 (K:zcy1) (ta:TA):TI:=fun σ H R=>ta σ H fun vs H1=>match vs with
 | [.ref a,.ref b,.ref c]=>rZip3 K a b c H1 R
 | _=>False
theorem vals3 {x y z:V}{us:List Value}(r:Vals [x,y,z] us):∃ u v t,us=[u,v,t]/\RelV x u/\RelV y v/\RelV z t:=by
 cases r with
 | cons r1 r=>
  cases r with
  | cons r2 r=>
   cases r with
   | cons r3 r=>
    cases r
    exact⟨_,_,_,rfl,r1,r2,r3⟩
theorem zco3 {elts:List Expr}{k:Nat}{pt:Pos}{a b c:Expr}{ta:TA}{p pos:Pos}(hK:X.K=K) (hm:X.mg "zip"=none) (ha:PA X [a,b,c] ta) (hg:Gl X "zip":=by rfl) (hs:starEach [a,b,c] X.env=(false,eval a X.env) :: starEach [b,c] X.env:=by rfl)
  (hpl:(backTo pos (starEach [b,c] X.env)).any (·.1)=false:=by rfl) :
  PI X (.Tuple elts k pt) (.Call (.Name "zip" p) [a,b,c] [] pos) (qiZip3 K ta):=by
 subst hK
 intro pins s σ H R I h
 refine Call_ (zx1 I hg hm zcj6 (PyProof.Rows.callWith_type1 (thn (ha pos pins s σ H _ I h) fun us s1 ⟨vs,H1,I1,r1,q1⟩=>?_) hs hpl))
 dsimp only at q1
 split at q1
 ·rename_i l m o
  unfold rZip3 at q1
  obtain⟨⟨xs,hq1⟩,⟨ys,hq2⟩,⟨zs,hq3⟩,q⟩:=q1
  obtain⟨u1,u2,u3,rfl,rx,ry,rz⟩:=vals3 r1
  cases rx
  cases ry
  cases rz
  obtain⟨its1,rv1,p1,_⟩:=I1.list hq1
  obtain⟨its2,rv2,p2,_⟩:=I1.list hq2
  obtain⟨its3,rv3,p3,_⟩:=I1.list hq3
  have l1:@LT.lt Nat _ l s1.heap.objs.size:=by obtain⟨o,ho,_⟩:=p1.isList;exact zcz7 ho
  have l2:@LT.lt Nat _ m s1.heap.objs.size:=by obtain⟨o,ho,_⟩:=p2.isList;exact zcz7 ho
  have l3:@LT.lt Nat _ o s1.heap.objs.size:=by obtain⟨o,ho,_⟩:=p3.isList;exact zcz7 ho
  refine zbu6 p1.isList p2.isList p3.isList fun h' n hn hz hTI hTO j1 j2 j3 hk=>?_
  refine wpAny_pyIter_zip hz ?_
  have I2:Inv X pins σ H1 { s1 with heap:=h' }:=I1.kept (t':=s1.toks) hk
  rw[← hn] at l1 l2 l3
  refine⟨_,_,_,Itz3 X.K l m o,H1,rfl,I2,zbu4 l m o n l1 l2 l3,⟨hz,hTI,⟨_,_,_,hTO⟩,j1,j2,j3⟩,fun b hb=>?_,q⟩
  have hb':s1.heap.objs.size<=b:=by
   rw[← hn]
   simp only[zcz5,zdb7,or_false] at hb
   rcases hb with rfl|rfl|rfl|rfl|rfl|rfl
   ·exact zdd2 _ _
   ·exact zdd2 _ _
   ·exact zdd2 _ _
   ·exact zcz6 _
   ·exact zdd2 _ _
   ·exact zdd2 _ _
  exact I1.fpOk hb' (I1.hok.fresh hb')
 ·exact q1.elim
end
section
variable {K:zcy1}{H:Hp}{R:It->Hp->Prop}
theorem zcp1 {a b c:Addr}{xs ys us:List V}(h:SqL K H a xs) (h':SqL K H b ys) (h'':SqL K H c us) (q:R (Itz3 K a b c) H):rZip3 K a b c H R:=by unfold rZip3;exact⟨⟨xs,h⟩,⟨ys,h'⟩,⟨us,h''⟩,q⟩
end
end L2
set_option maxHeartbeats 2000000
namespace L2
open PySem PySem.Spec PyProof.Rows
section
variable {X:Cx}{K:zcy1}
end
end L2
set_option maxHeartbeats 2000000
namespace L2
open PySem PySem.Spec PyProof.Rows
section
variable {X:Cx}{K:zcy1}
end
end L2
set_option maxHeartbeats 2000000
namespace L2
open PySem PySem.Spec PyProof.Rows
section
variable {X:Cx}{K:zcy1}
@[irreducible] def rTupA (K:zcy1) (p:Addr) (H:Hp) (Q:VK):Prop:=∃ ys,SqL K H p ys/\∀ l H',H l=none->Same H H'->H' l=some (.tup ys)->Q (.ref l) H'
def rTupM (K:zcy1):List V->Hp->VK->Prop:=fun xs H Q=>match xs with
 | [.ref p]=>rTupA K p H Q
 | _=>False
theorem cTupK (hK:X.K=K):zp4 X (.type "tuple") (rTupM K):=fun pins s σ H xs us Q I r h=>by
 subst hK
 unfold rTupM at h
 split at h
 ·unfold rTupA at h
  obtain⟨ys,h1,h2⟩:=h
  exact zau1 pins s σ H _ us Q I r ⟨_,ys,rfl,.inl ⟨h1,fun l hl=>h2 l _ hl (Same.upd hl) zc4⟩⟩
 ·exact h.elim
theorem zcr2 {p:Addr}{H:Hp}{Q:VK}{ys:List V}(h:SqL K H p ys) (q:∀ l H',H l=none->Same H H'->H' l=some (.tup ys)->Q (.ref l) H'):rTupA K p H Q:=by unfold rTupA;exact⟨ys,h,q⟩
end
theorem Same.seqT {K:zcy1}{H H':Hp}{a:Addr}{xs:List V}(e:Same H H') (h:H a=some (.tup xs)):SqT K H' a xs:=SqT.of (e _ _ h)
theorem Wk.tup {K:zcy1}{a:Addr}{xs:List V}{H1:Hp}(h:H1 a=some (.tup xs)):Wk (Itt K a) xs.length H1 fun i x _=>xs[i]?=some x:=
 ⟨fun i H s hi=>⟨xs,xs[i],Same.seqT s h,by simp[hi]⟩,fun H s=>⟨xs,Same.seqT s h,zcz6 _⟩,fun i H x H' s _ y=>by
  obtain⟨e,y⟩:=y
  subst e
  exact⟨Same.refl _,y xs (Same.seqT s h)⟩⟩
end L2
set_option maxHeartbeats 4000000
namespace L2
open PySem PySem.Spec PyProof.Rows
section
variable {X:Cx}{K:zcy1}{H:Hp}{Q:VK}
theorem zcn1 {pins:List (Addr×Obj)}{σ:St}{s:Shared}{x:V}{u t:Value}(I:Inv X pins σ H s) (rx:RelV x u) (ty:TyOf X.K H x t):∃ P:Heap->Prop,PySem.W.KitX X.K u t P/\P s.heap/\u≠.builtin "__main__.__loader__#opaque":=by
 cases ty with
 | non=>cases (show u=Value.none from rx);exact⟨_,PySem.W.kitx_none,True.intro,fun z=>nomatch z⟩
 | bl y=>cases (show u=Value.bool y from rx);exact⟨_,PySem.W.kitx_bool,True.intro,fun z=>nomatch z⟩
 | int i=>obtain⟨t,q⟩:=(show ∃ t,u=Value.int i t from rx);cases q;exact⟨_,PySem.W.kitx_int,True.intro,fun z=>nomatch z⟩
 | str y=>obtain⟨t,q⟩:=(show ∃ t,u=Value.str y t from rx);cases q;exact⟨_,PySem.W.kitx_str,True.intro,fun z=>nomatch z⟩
 | flt y=>obtain⟨t,q⟩:=(show ∃ t,u=Value.float y t from rx);cases q;exact⟨_,PySem.W.kitx_float,True.intro,fun z=>nomatch z⟩
 | @lst a xs ea=>
  cases (show u=Value.ref a from rx)
  obtain⟨_,_,n,_,h1⟩:=(show zg6 X.prog X.w H s.heap a (.lst xs) from I.hok a _ ea)
  exact⟨_,PySem.W.kitx_list,⟨_,h1,rfl⟩,fun z=>nomatch z⟩
 | @frz a ob xs ea=>
  cases (show u=Value.ref a from rx)
  obtain⟨_,_,_,n,_,h1⟩:=(show zg6 X.prog X.w H s.heap a (.frz ob (.lst xs)) from I.hok a _ ea)
  exact⟨_,PySem.W.kitx_list,⟨_,h1,rfl⟩,fun z=>nomatch z⟩
 | @tup a xs ea=>
  cases (show u=Value.ref a from rx)
  obtain⟨_,_,_,p⟩:=(show zg6 X.prog X.w H s.heap a (.tup xs) from I.hok a _ ea)
  obtain⟨o,h1,h2,_⟩:=p
  exact⟨_,PySem.W.kitx_tuple,⟨o,h1,h2⟩,fun z=>nomatch z⟩
 | @dK a kvs ea=>
  cases (show u=Value.ref a from rx)
  obtain⟨_,_,vs,_,p⟩:=(show zg6 X.prog X.w H s.heap a (.dK kvs) from I.hok a _ ea)
  obtain⟨o,es,ep,h1,h2,_⟩:=p
  exact⟨_,PySem.W.kitx_dict,⟨o,h1,h2.1⟩,fun z=>nomatch z⟩
 | @dT a kvs ea=>
  cases (show u=Value.ref a from rx)
  obtain⟨_,_,xs,_,o,es,ep,h1,h2,_⟩:=(show zg6 X.prog X.w H s.heap a (.dT kvs) from I.hok a _ ea)
  exact⟨_,PySem.W.kitx_dict,⟨o,h1,h2.1⟩,fun z=>nomatch z⟩
 | @ins a C dx fs ea cl ha hn htk hm=>
  cases (show u=Value.ref a from rx)
  obtain⟨mA,O,_⟩:=zbs4 I.hok ea
  obtain⟨od,J,_⟩:=O.look
  exact⟨_,PySem.W.kitx_own (cl.get _) cl.hd ha hn htk hm,J,fun z=>nomatch z⟩
@[irreducible] def zz9 (K:zcy1) (x c:V) (H:Hp) (Q:VK):Prop:=∃ (p:Addr) (ns:List String) (t:Value) (b:Bool),c=.ref p/\H p=some (.tup (ns.map V.ty))/\TyOf K H x t/\zdf7 K t (ns.map Value.type)=some b/\Q (.bl b) H
def zck9 (K:zcy1):List V->Hp->VK->Prop:=fun xs H Q=>match xs with
 | [x,c]=>zz9 K x c H Q
 | _=>False
theorem zbv5:∀ {ns:List String}{us:List Value},Vals (ns.map V.ty) us->us=ns.map Value.type
 | [],_,.nil=>rfl
 | n :: ns,_,.cons r t=>by rw[show _=Value.type n from r,zbv5 t];rfl
theorem cIsiT (hK:X.K=K):zp4 X (.builtin "isinstance") (zck9 K):=by
 subst hK
 intro pins s σ H xs us Q I r h
 unfold zck9 at h
 split at h
 ·unfold zz9 at h
  obtain⟨p,ns,t,b,rfl,h1,h2,h3,h4⟩:=h
  obtain⟨u,w,rfl,r1,r2⟩:=zbn2 r
  cases r2
  obtain⟨P,z1,z2,z3⟩:=zcn1 I r1 h2
  obtain⟨_,its,r3,o,e1,e2,n,e3⟩:=(show zg6 X.prog X.w H s.heap p (.tup (ns.map V.ty)) from I.hok p _ h1)
  have ei:=zbv5 r3
  subst ei
  obtain⟨oc,od,odt,osl⟩:=o
  cases e2
  cases e3
  exact PySem.W.kia_tup z1 I.kIn z2 e1 h3 z3 fun tk=>⟨.bl b,H,I.tok _,rfl,h4⟩
 ·exact h.elim
theorem zbj0 {p:Addr}{i:Int}{ns:List String}{b:Bool}(h:H p=some (.tup (ns.map V.ty))) (q:Q (.bl b) H) (e:zdf7 K (.type "int") (ns.map Value.type)=some b:=by rfl):zz9 K (.int i) (.ref p) H Q:=by
 unfold zz9;exact⟨p,ns,_,b,rfl,h,.int i,e,q⟩
theorem zbl2 {p:Addr}{x:Str}{ns:List String}{b:Bool}(h:H p=some (.tup (ns.map V.ty))) (q:Q (.bl b) H) (e:zdf7 K (.type "str") (ns.map Value.type)=some b:=by rfl):zz9 K (.str x) (.ref p) H Q:=by
 unfold zz9;exact⟨p,ns,_,b,rfl,h,.str x,e,q⟩
theorem zbi5 {p:Addr}{ns:List String}{b:Bool}(h:H p=some (.tup (ns.map V.ty))) (q:Q (.bl b) H) (e:zdf7 K (.type "NoneType") (ns.map Value.type)=some b:=by rfl):zz9 K .non (.ref p) H Q:=by
 unfold zz9;exact⟨p,ns,_,b,rfl,h,.non,e,q⟩
theorem zbh9 {p:Addr}{x:Bool}{ns:List String}{b:Bool}(h:H p=some (.tup (ns.map V.ty))) (q:Q (.bl b) H) (e:zdf7 K (.type "bool") (ns.map Value.type)=some b:=by rfl):zz9 K (.bl x) (.ref p) H Q:=by
 unfold zz9;exact⟨p,ns,_,b,rfl,h,.bl x,e,q⟩
theorem zbg2 {p a:Addr}{xs:List V}{ns:List String}{b:Bool}(h:H p=some (.tup (ns.map V.ty))) (ha:H a=some (.lst xs)) (q:Q (.bl b) H) (e:zdf7 K (.type "list") (ns.map Value.type)=some b:=by rfl):zz9 K (.ref a) (.ref p) H Q:=by
 unfold zz9;exact⟨p,ns,_,b,rfl,h,.lst ha,e,q⟩
theorem zbl4 {p a:Addr}{xs:List V}{ns:List String}{b:Bool}(h:H p=some (.tup (ns.map V.ty))) (ha:H a=some (.tup xs)) (q:Q (.bl b) H) (e:zdf7 K (.type "tuple") (ns.map Value.type)=some b:=by rfl):zz9 K (.ref a) (.ref p) H Q:=by
 unfold zz9;exact⟨p,ns,_,b,rfl,h,.tup ha,e,q⟩
end
section
variable {X:Cx}{K:zcy1}
def isT (k:Str):V->Bool
 | .str z=>z==k
 | _=>false
def isTU (k:Str):Value->Bool
 | .str z _=>z==k
 | _=>false
theorem zbx7 {k:Str}{x:V}{u:Value}(r:RelV x u):isTU k u=isT k x:=by
 cases x with
 | non=>cases (show u=Value.none from r);rfl
 | bl b=>cases (show u=Value.bool b from r);rfl
 | int i=>obtain⟨t,e⟩:=(show ∃ t,u=Value.int i t from r);cases e;rfl
 | str x=>obtain⟨t,e⟩:=(show ∃ t,u=Value.str x t from r);cases e;rfl
 | byt b=>obtain⟨t,e⟩:=(show ∃ t,u=Value.bytes b t from r);cases e;rfl
 | flt b=>obtain⟨t,e⟩:=(show ∃ t,u=Value.float b t from r);cases e;rfl
 | ref a=>cases (show u=Value.ref a from r);rfl
 | ty n=>cases (show u=Value.type n from r);rfl
theorem zay0 {k:Str}:∀ {xs:List V}{us:List Value},Vals xs us->us.countP (isTU k)=xs.countP (isT k)
 | _,_,.nil=>rfl
 | y :: xs,u :: us,.cons r t=>by rw[List.countP_cons,List.countP_cons,zbx7 r,zay0 t]
def zbq0 (H:Hp) (x:V):Prop:=zu0 x=true∨∃ a,x=.ref a/\((∃ ys,H a=some (.lst ys))∨∃ ys,H a=some (.tup ys))
theorem eqT_at {pins:List (Addr×Obj)}{σ:St}{H:Hp}{s:Shared}{A:Around}{k:Str}{tk:Tok}{x:V}{u:Value}(I:Inv X pins σ H s) (hu:A.units<cLine) (r:RelV x u) (f:zbq0 H x):SeqAt.EqAt A s u (.str k tk) (isTU k u):=by
 rw[zbx7 r]
 rcases f with f|⟨a,rfl,f⟩
 ·cases x with
  | non=>cases (show u=Value.none from r);exact SeqAt.EqAt.none_str _ _
  | bl b=>cases (show u=Value.bool b from r);exact SeqAt.EqAt.bool_str _ _ _
  | int i=>obtain⟨t,e⟩:=(show ∃ t,u=Value.int i t from r);cases e;exact SeqAt.EqAt.int_str _ _ _ _
  | str x=>obtain⟨t,e⟩:=(show ∃ t,u=Value.str x t from r);cases e;exact SeqAt.EqAt.str_str _ _ _ _
  | _=>exact absurd (show false=true from f) zcz0
 ·cases (show u=Value.ref a from r)
  rcases f with ⟨ys,e⟩|⟨ys,e⟩
  ·obtain⟨_,its,n,_,e⟩:=(show zg6 X.prog X.w H s.heap a (.lst ys) from I.hok a _ e)
   exact SeqAt.EqAt.list_str _ _ ⟨_,e,rfl,n,rfl⟩ hu
  ·obtain⟨_,its,_,o,e,c⟩:=(show zg6 X.prog X.w H s.heap a (.tup ys) from I.hok a _ e)
   exact SeqAt.EqAt.tuple_str _ _ ⟨o,e,c⟩ hu
@[irreducible] def rCntT (p:Addr) (k:Str) (H:Hp) (Q:VK):Prop:=∃ xs,H p=some (.lst xs)/\(∀ x∈xs,zbq0 H x)/\Q (.int (xs.countP (isT k):Nat)) H
def zbs0:Addr->List V->Hp->VK->Prop:=fun p vs H Q=>match vs with
 | [.str k]=>rCntT p k H Q
 | _=>False
theorem zbj7:∀ {xs:List V}{us:List Value},Vals xs us->∀ u∈us,∃ x∈xs,RelV x u
 | _,_,.nil=>fun u hu=>by cases hu
 | y :: xs,u :: us,.cons r t=>fun u' hu=>by
  rcases zcz5.mp hu with rfl|hu
  ·exact⟨y,zdc5,r⟩
  ·obtain⟨x,hx,rx⟩:=zbj7 t u' hu
   exact⟨x,zdb8 _ hx,rx⟩
theorem zco7 (hu:X.A.units+40<cLine):MtA X "list.count" zbs0:=fun pins s σ H p xs us Q I r h=>by
 unfold zbs0 at h
 split at h
 ·rename_i k
  unfold rCntT at h
  obtain⟨ys,h1,h2,h3⟩:=h
  obtain⟨u,rfl,ru⟩:=r.one
  obtain⟨tk,rfl⟩:=(show ∃ t,u=Value.str k t from ru)
  obtain⟨z,its,n,r',hl,e⟩:=I.lstM h1
  refine call_meets F.slot_list_count ⟨_,e,rfl⟩ F.entry_list_count (F.args_list_count_2 _ _) (SeqAt.list_countAt p its.toArray n none #[] (.str k tk) (isTU k)) ⟨e,fun y hy=>?_,?_⟩
  ·obtain⟨x,hx,rx⟩:=zbj7 r' y (by simpa using hy)
   exact eqT_at I (by rw[zt6];omega) rx (h2 x hx)
  ·have ec:its.toArray.toList.countP (isTU k)=ys.countP (isT k):=zay0 r'
   exact⟨.int _,H,I.tok _,⟨_,by rw[ec]⟩,h3⟩
 ·exact h.elim
theorem zcp6 {p:Addr}{k:Str}{H:Hp}{Q:VK}{xs:List V}(h:H p=some (.lst xs)) (h1:∀ x∈xs,zbq0 H x) (q:Q (.int (xs.countP (isT k):Nat)) H):rCntT p k H Q:=by unfold rCntT;exact⟨xs,h,h1,q⟩
theorem zbl7 {o e:Expr}{to:TE}{t:TA}{apos cpos:Pos}(hK:X.K=K) (hu:X.A.units+40<cLine) (ho:PE X o to) (ha:PA X [e] t) (hbase:attributeBase o "count" X.env (eval o X.env)=eval o X.env:=by rfl)
  (hfew:((backTo cpos (starEach [e] X.env)).all (fun x=>!x.1)&&(backToKw cpos (keywordEach [] X.env)).all (fun x=>x.1.isSome)
   && decide ([e].length+([]:List Keyword).length+(if ([]:List Keyword).isEmpty then 0 else 1)<30))=true:=by rfl)
  (hline:(apos.endLine==cpos.line)=true:=by rfl) (hs:starEach [e] X.env=(false,eval e X.env) :: starEach [] X.env:=by rfl) (hplain:(backTo cpos (starEach [] X.env)).any (·.1)=false:=by rfl):PE X (.Call (.Attribute o "count" apos) [e] [] cpos) (qBM K zbs0 to t):=by
 subst hK
 exact peBM PySem.F.slot_list_count PySem.F.type_list_count (zco7 hu) ho ha hbase hfew hline hs hplain
end
end L2
set_option maxHeartbeats 4000000
namespace L2
open PySem PySem.Spec PyProof.Rows
section
variable {prog:Program}{w:World}{A:Around}{E:Value->Shared->Prop}{h:Heap}{g:Array GenState}{d:Drawn}{t:Nat}{os:OsState}
variable {nm q:Str}{C N:Addr}{bs bm bmB:List Value}{hdct:Bool}{sn:List Str}{sub:List Value}{ab:Bool}{col:Option Bool}{dd:Option Addr}{k0 k1 k2 k3 k5:Option Value}{B newId initId:String}{K:zcy1}
end
section
variable {prog:Program}{w:World}{A:Around}{E:Value->Shared->Prop}{s:Shared}{env:Env}
variable {nm q:Str}{C N:Addr}{bs bm bmB:List Value}{hdct:Bool}{sn:List Str}{sub:List Value}{ab:Bool}{col:Option Bool}{dd:Option Addr}{k0 k1 k2 k3 k5:Option Value}{B newId initId:String}{K:zcy1}
end
section
open PySem.W
variable {prog:Program}{w:World}{A:Around}{E:Value->Shared->Prop}{s:Shared}{K:Frag}
end
end L2
set_option maxHeartbeats 4000000
namespace L2
open PySem PySem.Spec PyProof.Rows
section
variable {X:Cx}{K:zcy1}
def hid (e:Addr) (H:Hp):Hp:=fun b=>if b=e then none else H b
theorem zai1 {e b:Addr}{H:Hp}(h:b≠e):hid e H b=H b:=by unfold hid;rw[if_neg h]
theorem zci9 {e:Addr}{H:Hp}:hid e H e=none:=by unfold hid;rw[if_pos rfl]
theorem hid_of {e b:Addr}{H:Hp}{o:HO}(h:hid e H b=some o):b≠e/\H b=some o:=by
 by_cases z:b=e
 ·subst z;rw[zci9] at h;cases h
 ·rw[zai1 z] at h;exact⟨z,h⟩
theorem zah5 {e b:Addr}{H:Hp}(h:H b=none):hid e H b=none:=by
 by_cases z:b=e
 ·subst z;exact zci9
 ·rw[zai1 z];exact h
section
variable {pins:List (Addr×Obj)}{σ:St}{H:Hp}{s:Shared}{e:Addr}{φ:Heap->Prop}
theorem HOk.hid {P:Program}{w:World}{h h':Heap}(x:HOk P w H h) (he:H e=some (.ext φ)) (k:∀ b u,b≠e->(∃ o,H b=some o)->h.get? b=some u->h'.get? b=some u):HOk P w (L2.hid e H) h':=fun a o ha=>by
 obtain⟨hne,ha⟩:=hid_of ha
 have n1:∀ b,H b=some (.own a)->b≠e:=fun b hb z=>by rw[z,he] at hb;cases hb
 refine (x a o ha).stay (fun b u hb hu=>?_) (fun b hb=>by rw[zai1 (n1 b hb)];exact hb) fun b xs hb=>by
  rw[zai1 fun z=>by rw[z,he] at hb;cases hb];exact hb
 rcases hb with rfl|hb
 ·exact k _ _ hne ⟨_,ha⟩ hu
 ·exact k _ _ (n1 b hb) ⟨_,hb⟩ hu
theorem Inv.hid (I:Inv X pins σ H s) (he:H e=some (.ext φ)):Inv X pins σ (L2.hid e H) s:=by
 refine⟨I.ok,I.os,I.bare,⟨I.base.keep,I.base.slot,fun b o h1 h2 h3=>zah5 (I.base.free b o h1 h2 h3),I.base.there,fun b xs q=>?_,fun b o u q=>?_,fun b ps q=>?_⟩,I.loc,I.cell,zah5 I.free,fun x c h=>zah5 (I.freeC x c h),fun p hp=>?_,I.hok.hid he fun _ _ _ _ h=>h,I.len⟩
 ·have z:=I.base.tups b xs q
  rw[zai1 fun y=>by rw[y,he] at z;cases z];exact z
 ·have z:=I.base.frzs b o u q
  rw[zai1 fun y=>by rw[y,he] at z;cases z];exact z
 ·obtain⟨more,z⟩:=I.base.tbls b ps q
  exact⟨more,by rw[zai1 fun y=>by rw[y,he] at z;cases z];exact z⟩
 ·obtain⟨a1,a2,a3,a4,a5⟩:=I.pin p hp
  exact⟨a1,zah5 a2,a3,a4,a5⟩
end
end
end L2
set_option maxHeartbeats 4000000
namespace L2
open PySem PySem.Spec PyProof.Rows
section
open PySem.W PySem.Calls
end
section
variable {X:Cx}{K:zcy1}{H:Hp}{Q:VK}
end
end L2
namespace L2
open PySem PySem.Spec PyProof.Rows
end L2
set_option maxHeartbeats 2000000
namespace L2
open PySem PySem.Spec PyProof.Rows
def zbp9 (x0:Str) (names:List (Str×NameKind)):Prop:=names.filter (fun y=>y.2==.cell)=[(x0,.cell)]/\names.lookup x0=some .cell
theorem zbp9.only {x0:Str}{names:List (Str×NameKind)}(h:zbp9 x0 names):∀ y∈names,y.2=.cell->y.1=x0:=fun y hy hc=>by
 have:y∈names.filter (fun y=>y.2==.cell):=List.mem_filter.mpr ⟨hy,by rw[hc];rfl⟩
 rw[h.1] at this
 rw[zdb2.mp this]
section
variable {X:Cx}{pins:List (Addr×Obj)}{σ:St}{H:Hp}{s2:Shared}
end
end L2
set_option maxHeartbeats 1000000
namespace L2
open PySem PySem.Spec PyProof.Rows
section
variable {κ:Type}[DecidableEq κ]
def valV (kvs:List (κ×V)) (k:κ):Option V:=(kvs.find? fun kv=>decide (kv.1=k)).map (·.2)
def putK (kvs:List (κ×V)) (k:κ) (v:V):List (κ×V):=
 if (kvs.any fun kv=>decide (kv.1=k))=true then kvs.map (fun kv=>if kv.1=k then (kv.1,v) else kv) else kvs++[(k,v)]
theorem zac5 {p:κ×V}{r:List (κ×V)}{k:κ}(e:p.1=k):valV (p :: r) k=some p.2:=by simp[valV,zdd6,e]
theorem zac3 {p:κ×V}{r:List (κ×V)}{k:κ}(e:¬ p.1=k):valV (p :: r) k=valV r k:=by simp[valV,zdd6,e]
theorem zbk3 (k:κ):∀ kvs:List (κ×V),(kvs.any fun kv=>decide (kv.1=k))=(valV kvs k).isSome
 | []=>rfl
 | p :: r=>by
  rw[List.any_cons]
  by_cases e:p.1=k
  ·simp only[zac5 e,decide_eq_true e,Bool.true_or,Option.isSome_some]
  ·rw[zac3 e,decide_eq_false e,Bool.false_or];exact zbk3 k r
theorem zal0 (kvs:List (κ×V)) (k:κ) (v:V):(putK kvs k v).length<=kvs.length+1:=by
 unfold putK
 split
 ·rw[zcy0];omega
 ·rw[zcz8,zdb6,zdf9];omega
theorem RelO.isSome_eq {o:Option V}{u:Option Value}(r:RelO o u):o.isSome=u.isSome:=by
 cases o with
 | none=>cases u with
  | none=>rfl
  | some _=>exact (show False from r).elim
 | some _=>cases u with
  | none=>exact (show False from r).elim
  | some _=>rfl
theorem RelO.getD {o:Option V}{u:Option Value}{d:V}{d':Value}(r:RelO o u) (rd:RelV d d'):RelV (o.getD d) (u.getD d'):=by
 cases o with
 | none=>cases u with
  | none=>exact rd
  | some _=>exact (show False from r).elim
 | some _=>cases u with
  | none=>exact (show False from r).elim
  | some _=>exact r
theorem KV.val {kvs:List (κ×V)}{vs:List (κ×Value)}(r:KV kvs vs) (k:κ):RelO (valV kvs k) (valueAt vs k):=by
 unfold KV at r
 induction r with
 | nil=>exact True.intro
 | @cons p q ps qs h t ih=>
  obtain⟨h1,h2⟩:=h
  by_cases e:p.1=k
  ·have e':q.1=k:=h1.symm.trans e
   have b:valueAt (q :: qs) k=some q.2:=by simp[valueAt,zdd6,e']
   rw[zac5 e,b];exact h2
  ·have e':¬ q.1=k:=fun z=>e (h1.trans z)
   have b:valueAt (q :: qs) k=valueAt qs k:=by simp[valueAt,zdd6,e']
   rw[zac3 e,b];exact ih
theorem KV.any {kvs:List (κ×V)}{vs:List (κ×Value)}(r:KV kvs vs) (k:κ):(kvs.any fun kv=>decide (kv.1=k))=vs.any fun kv=>decide (kv.1=k):=by
 unfold KV at r
 induction r with
 | nil=>rfl
 | cons h t ih=>rw[List.any_cons,List.any_cons,ih,h.1]
theorem KV.repl {kvs:List (κ×V)}{vs:List (κ×Value)}(r:KV kvs vs) (k:κ) {y:V}{u:Value}(ry:RelV y u) :
  KV (kvs.map fun kv=>if kv.1=k then (kv.1,y) else kv) (vs.map fun kv=>if kv.1=k then (kv.1,u) else kv):=by
 unfold KV at r ⊢
 induction r with
 | nil=>exact .nil
 | @cons p q ps qs h t ih=>
  rw[zda7,zda7]
  refine .cons ?_ ih
  obtain⟨h1,h2⟩:=h
  by_cases e:p.1=k
  ·rw[if_pos e,if_pos (h1.symm.trans e)];exact⟨h1,ry⟩
  ·rw[if_neg e,if_neg (fun z=>e (h1.trans z))];exact⟨h1,h2⟩
theorem KV.put {kvs:List (κ×V)}{vs:List (κ×Value)}(r:KV kvs vs) (k:κ) {y:V}{u:Value}(ry:RelV y u):KV (putK kvs k y) (stored vs k u):=by
 unfold putK stored
 rw[r.any k]
 by_cases e:(vs.any fun kv=>decide (kv.1=k))=true
 ·rw[if_pos e,if_pos e];exact r.repl k ry
 ·rw[if_neg e,if_neg e];exact Paired.snoc r ⟨rfl,ry⟩
theorem KV.length {kvs:List (κ×V)}{vs:List (κ×Value)}(r:KV kvs vs):kvs.length=vs.length:=Paired.length r
end
theorem kV_is {P:Program}{w:World}{k:Key}{u:Value}(r:RelV (kV k) u):(zm7 P w).is k u=true:=by
 cases k with
 | inl i=>obtain⟨t,e⟩:=(show ∃ t,u=Value.int i t from r);subst e;exact zbb1 P w i t
 | inr x=>obtain⟨t,e⟩:=(show ∃ t,u=Value.str x t from r);subst e;exact zba5 P w x t
theorem zba0 {P:Program}{w:World}:∀ {ks:List Key}{us:List Value},Vals (ks.map kV) us->ItemsAre (zm7 P w) ks us
 | [],_,r=>by rw[List.map_nil] at r;cases r;exact .nil
 | k :: ks,_,r=>by
  rw[zda7] at r
  cases r with
  | cons h t=>exact .cons (kV_is h) (zba0 t)
abbrev KT (H:Hp):List (List Key×V)->List (List Key×Addr×Value)->Prop:=Paired fun p q=>p.1=q.1/\H q.2.1=some (.tup (p.1.map kV))/\RelV p.2 q.2.2
theorem KT.val {H:Hp}{kvs:List (List Key×V)}{xs:List (List Key×Addr×Value)}(r:KT H kvs xs) (k:List Key):RelO (valV kvs k) ((atKey xs k).map (·.2)):=by
 induction r with
 | nil=>exact True.intro
 | @cons p q ps qs h t ih=>
  obtain⟨h1,_,h2⟩:=h
  by_cases e:p.1=k
  ·have e':q.1=k:=h1.symm.trans e
   have b:atKey (q :: qs) k=some q.2:=by simp[atKey,zdd6,e']
   rw[zac5 e,b];exact h2
  ·have e':¬ q.1=k:=fun z=>e (h1.trans z)
   have b:atKey (q :: qs) k=atKey qs k:=by simp[atKey,zdd6,e']
   rw[zac3 e,b];exact ih
theorem KT.repl {H:Hp}{kvs:List (List Key×V)}{xs:List (List Key×Addr×Value)}(r:KT H kvs xs) (k:List Key) {y:V}{u:Value}(ry:RelV y u) :
  KT H (kvs.map fun kv=>if kv.1=k then (kv.1,y) else kv) (xs.map (putAt k u)):=by
 induction r with
 | nil=>exact .nil
 | @cons p q ps qs h t ih=>
  rw[zda7,zda7]
  refine .cons ?_ ih
  obtain⟨h1,h2,h3⟩:=h
  unfold putAt
  by_cases e:p.1=k
  ·rw[if_pos e,if_pos (h1.symm.trans e)];exact⟨h1,h2,ry⟩
  ·rw[if_neg e,if_neg (fun z=>e (h1.trans z))];exact⟨h1,h2,h3⟩
theorem KT.put {H:Hp}{kvs:List (List Key×V)}{xs:List (List Key×Addr×Value)}(r:KT H kvs xs) (k:List Key) {b:Addr}{y:V}{u:Value}(hb:H b=some (.tup (k.map kV))) (ry:RelV y u) :
  KT H (putK kvs k y) (storedH xs k b u):=by
 have e:(kvs.any fun kv=>decide (kv.1=k))=(atKey xs k).isSome:=by
  rw[zbk3,(r.val k).isSome_eq,Option.isSome_map]
 unfold putK storedH
 rw[e]
 by_cases q:(atKey xs k).isSome=true
 ·rw[if_pos q,if_pos q];exact r.repl k ry
 ·rw[if_neg q,if_neg q];exact Paired.snoc r ⟨rfl,hb,ry⟩
theorem KT.keeps {H H':Hp}{kvs:List (List Key×V)}{xs:List (List Key×Addr×Value)}(r:KT H kvs xs) (ht:∀ b ys,H b=some (.tup ys)->H' b=some (.tup ys)):KT H' kvs xs:=
 Paired.mapP r fun _ _ z=>⟨z.1,ht _ _ z.2.1,z.2.2⟩
section
variable {P:Program}{w:World}{H:Hp}{h:Heap}{a:Addr}
theorem rd_of {u:HO}(ok:HOk P w H h) (e:Rd H a u):zg6 P w H h a u:=e.ok ok
theorem zbr4 {kvs:List (Key×V)}(ok:HOk P w H h) (e:Rd H a (.dK kvs)):kvs.length<=sizeLine/\(a==sysModules)=false/\∃ vs,KV kvs vs/\h.DictOf (zm7 P w) a vs:=
 show zg6 P w H h a (.dK kvs) from rd_of ok e
theorem zbr5 {kvs:List (Key×V)}(ok:HOk P w H h) (e:H a=some (.dK kvs)):kvs.length<=sizeLine/\(a==sysModules)=false/\∃ vs,KV kvs vs/\h.DictOf (zm7 P w) a vs:=zbr4 ok (.inl e)
theorem zbg7 {ks:List Key}(ok:HOk P w H h) (e:H a=some (.tup (ks.map kV))):(tupleKind (zm7 P w)).is h ks a:=by
 obtain⟨_,its,r,o,h1,h2,n,h3⟩:=(show zg6 P w H h a (.tup (ks.map kV)) from ok a _ e)
 exact⟨o,its.toArray,n,h1,h2,h3,by simpa using zba0 r⟩
theorem zbs8 {kvs:List (List Key×V)}(ok:HOk P w H h) (e:Rd H a (.dT kvs)):kvs.length<=sizeLine/\(a==sysModules)=false /\
  ∃ xs,KT H kvs xs/\h.DictOfH (tupleKind (zm7 P w)) a xs:=by
 obtain⟨z,y,xs,r,o,es,ep,h1,h2,h3,h4,h5⟩:=(show zg6 P w H h a (.dT kvs) from rd_of ok e)
 refine⟨z,y,xs,r,o,es,ep,h1,h2,h3,h4,fun x hx=>?_,h5⟩
 have all:∀ {l:List (List Key×V)}{m:List (List Key×Addr×Value)},KT H l m->∀ x∈m,(tupleKind (zm7 P w)).is h x.1 x.2.1:=by
  intro l m q
  induction q with
  | nil=>intro x hx;exact nomatch hx
  | @cons p q ps qs hq t ih=>
   intro x hx
   rcases zcz5.mp hx with e|hx
   ·subst e
    exact zbg7 ok (by rw[← hq.1];exact hq.2.1)
   ·exact ih x hx
 exact all r x hx
theorem dt_of {kvs:List (List Key×V)}(ok:HOk P w H h) (e:H a=some (.dT kvs)):kvs.length<=sizeLine/\(a==sysModules)=false /\
  ∃ xs,KT H kvs xs/\h.DictOfH (tupleKind (zm7 P w)) a xs:=zbs8 ok (.inl e)
end
def DGet (H:Hp) (a:Addr) (y:V) (r:Option V):Prop:=
 (∃ kvs k,Rd H a (.dK kvs)/\y=kV k/\r=valV kvs k)∨∃ kvs k b,Rd H a (.dT kvs)/\y=.ref b/\H b=some (.tup (k.map kV))/\r=valV kvs k
def DPut (H:Hp) (a:Addr) (y v:V) (H':Hp):Prop:=
 (∃ kvs k,H a=some (.dK kvs)/\y=kV k/\kvs.length<sizeLine/\H'=upd H a (.dK (putK kvs k v))) ∨
 ∃ kvs k b,H a=some (.dT kvs)/\y=.ref b/\H b=some (.tup (k.map kV))/\kvs.length<sizeLine/\H'=upd H a (.dT (putK kvs k v))
theorem DGet.k {H:Hp}{a:Addr}{kvs:List (Key×V)}{k:Key}(e:H a=some (.dK kvs)):DGet H a (kV k) (valV kvs k):=.inl ⟨kvs,k,.inl e,rfl,rfl⟩
theorem DGet.t {H:Hp}{a b:Addr}{kvs:List (List Key×V)}{k:List Key}(e:H a=some (.dT kvs)) (eb:H b=some (.tup (k.map kV))):DGet H a (.ref b) (valV kvs k):=.inr ⟨kvs,k,b,.inl e,rfl,eb,rfl⟩
theorem DPut.k {H:Hp}{a:Addr}{kvs:List (Key×V)}{k:Key}{v:V}(e:H a=some (.dK kvs)) (hl:kvs.length<sizeLine):DPut H a (kV k) v (upd H a (.dK (putK kvs k v))):=.inl ⟨kvs,k,e,rfl,hl,rfl⟩
theorem DPut.t {H:Hp}{a b:Addr}{kvs:List (List Key×V)}{k:List Key}{v:V}(e:H a=some (.dT kvs)) (eb:H b=some (.tup (k.map kV))) (hl:kvs.length<sizeLine) :
  DPut H a (.ref b) v (upd H a (.dT (putK kvs k v))):=.inr ⟨kvs,k,b,e,rfl,eb,hl,rfl⟩
section
variable {X:Cx}{pins:List (Addr×Obj)}{σ:St}{H:Hp}{s:Shared}{a:Addr}{y v:V}{u r:Value}{o:Option V}{A:Around}{E:Value->Shared->Prop}
theorem Inv.big (I:Inv X pins σ H s):sysModules<s.heap.objs.size:=by
 have h:mainGlobals<s.heap.objs.size:=(I.mod.glob.keeps I.bk).lt
 exact Nat.lt_trans (by decide) h
theorem zbp6 {Q:Value->Shared->Prop}(hu:A.units+1<cLine) (I:Inv X pins σ H s) (g:DGet H a y (some v)) (ry:RelV y u) (h:∀ w' s',Inv X pins σ H s'->RelV v w'->Q w' s') :
  wpAny (model X.prog X.w) A (getItem (.ref a) u) Q E s:=by
 rcases g with ⟨kvs,k,e,ey,l⟩|⟨kvs,k,b,e,ey,eb,l⟩
 ·subst ey
  obtain⟨z,hd,vs,rel,dd⟩:=zbr4 I.hok e
  obtain⟨w',hw,rw'⟩:=RelO.some_of (v:=v) (o:=valueAt vs k) (by rw[l];exact rel.val k)
  exact wpAny_getItem_of (kV_is ry) dd.mapOf hw (h w' _ (I.tok _) rw')
 ·subst ey
  cases (show u=Value.ref b from ry)
  obtain⟨z,hd,xs,rel,dd⟩:=zbs8 I.hok e
  obtain⟨w',hw,rw'⟩:=RelO.some_of (v:=v) (o:=(atKey xs k).map (·.2)) (by rw[l];exact rel.val k)
  obtain⟨p,hp,hp2⟩:=zcy6.mp hw
  refine wpAny_getItem_heap (tupleKind_room_in1 hu) (zbg7 I.hok eb) dd hp ?_
  rw[hp2]
  exact h w' _ (I.tok _) rw'
theorem zbr8 {h':Heap}{t':Nat}{ob:HO}(I:Inv X pins σ H s) (mu:Mut (H a)) (hs:Heap.SameBut a s.heap h') (he:∃ q,h'.get? a=some q) (new:zg6 X.prog X.w (upd H a ob) h' a ob) :
  Inv X pins σ (upd H a ob) { s with heap:=h',toks:=t' }:=
 I.write (x:=a) (e:=a) mu (.inl rfl) (fun b q hb z=>(hs.2 b hb).trans z) he new
theorem dk_new {P:Program}{w:World}{H':Hp}{h':Heap}{kvs:List (Key×V)}{vs:List (Key×Value)}(z:kvs.length<=sizeLine) (hd:(a==sysModules)=false) (rel:KV kvs vs) (dd:h'.DictOf (zm7 P w) a vs) :
  zg6 P w H' h' a (.dK kvs):=⟨z,hd,vs,rel,dd⟩
theorem zbz4 {H':Hp}{Q:Unit->Shared->Prop}(hu:A.units+1<cLine) (I:Inv X pins σ H s) (g:DPut H a y v H') (ry:RelV y u) (rv:RelV v r) (h:∀ s',Inv X pins σ H' s'->Q () s') :
  wpAny (model X.prog X.w) A (setItem (.ref a) u r) Q E s:=by
 rcases g with ⟨kvs,k,e,ey,l,eH⟩|⟨kvs,k,b,e,ey,eb,l,eH⟩
 ·subst ey eH
  obtain⟨z,hd,vs,rel,dd⟩:=zbr5 I.hok e
  have hz:vs.length<=sizeLine:=by rw[← rel.length];exact z
  have hl:(putK kvs k v).length<=sizeLine:=by have:=zal0 kvs k v;omega
  refine wpAny_setItem_pairs (hsz:=hz) (kV_is ry) dd fun h' dd' hs=>h _ ?_
  have he:∃ q,h'.get? a=some q:=let ⟨q,_,_,hq,_⟩:=dd';⟨q,hq⟩
  exact zbr8 I (by rw[e];exact True.intro) hs he (dk_new hl hd (rel.put k rv) dd')
 ·subst ey eH
  cases (show u=Value.ref b from ry)
  obtain⟨z,hd,xs,rel,dd⟩:=dt_of I.hok e
  have hz:xs.length<=sizeLine:=by rw[← Paired.length rel];exact z
  have hl:(putK kvs k v).length<=sizeLine:=by have:=zal0 kvs k v;omega
  refine wpAny_setItem_heap (hsz:=hz) (tupleKind_room_in1 hu) (zbg7 I.hok eb) dd fun h' dd' hs=>h _ ?_
  obtain⟨q,es,ep,hq,h2,h3,h4,_,h5⟩:=dd'
  refine zbr8 I (by rw[e];exact True.intro) hs ⟨q,hq⟩ ⟨hl,hd,_,(rel.put k eb rv).keeps fun c ys ec=>?_,q,es,ep,hq,h2,h3,h4,h5⟩
  rw[zc9 (ne_of ec e (fun z=>nomatch z))]
  exact ec
end
section
variable {X:Cx}{pins:List (Addr×Obj)}{σ:St}{H:Hp}{s:Shared}{a:Addr}{kvs:List (Key×V)}{k:Key}{u:Value}{A:Around}{E:Value->Shared->Prop}
end
def NoSl (i:Expr):Prop:=∀ ov iv,subscripted i false ov iv=operate [ov,iv] (getItem ov iv)
theorem zcn8 {prog:Program}{w:World}{A:Around}{E:Value->Shared->Prop}{s:Shared}{env:Env}{value slice:Expr}{pos:Pos}{T id:String}{Q:Value->Shared->Prop}
  (hl:typeLookup (.type T) "__getitem__"=pure (some (.builtin id))) (hs:NoSl slice)
  (h:wpAny (model prog w) A (eval value env) (fun o s₁=>wpAny (model prog w) A (eval slice env) (fun i s₂=>s₂.TypeIs o T/\wpAny (model prog w) A (getItem o i) Q E s₂) E s₁) E s) :
  wpAny (model prog w) A (eval (.Subscript value slice pos) env) Q E s:=by
 refine Subscript_ (wpAny_mono h (fun o s₁ h₁=>wpAny_mono h₁ (fun i s₂ h₂=>?_) fun _ _ x=>x) fun _ _ x=>x)
 obtain⟨hT,h₂⟩:=h₂
 unfold subscriptTail
 refine wpAny_bind ?_
 rw[getitemInPython_of_ne hT.not_modules]
 refine wpAny_bind (wpAny_specialOf hT hl ?_)
 have fin:wpAny (model prog w) A (subscripted slice false o i) (fun r s₃=>wpAny (model prog w) A (letTemporaryGo value o r >>= fun _=>pure r) Q E s₃) E s₂:=by
  rw[hs o i]
  exact wpAny_operating (wpAny_mono h₂ (fun r s₃ h₃=>wpAny_bind (wpAny_letTemporaryGo (wpAny_pure h₃))) fun _ _ x=>x)
 first
  | exact wpAny_pure (wpAny_bind fin)
  | exact wpAny_bind (wpAny_pure (wpAny_bind fin))
  | exact wpAny_bind fin
theorem zbf9 {X:Cx}{pins:List (Addr×Obj)}{σ:St}{H:Hp}{s:Shared}{a:Addr}{y:V}{o:Option V}(I:Inv X pins σ H s) (g:DGet H a y o):s.TypeIs (.ref a) "dict":=by
 rcases g with ⟨kvs,k,e,_,_⟩|⟨kvs,k,b,e,_,_,_⟩
 ·obtain⟨_,_,vs,_,dd⟩:=zbr4 I.hok e
  exact dd.typeIs
 ·obtain⟨_,_,xs,_,dd⟩:=zbs8 I.hok e
  exact dd.typeIs
def tDGet (td ty:TE):TE:=fun σ H Q=>td σ H fun x H1=>ty σ H1 fun y H2=>∃ a v,x=.ref a/\DGet H2 a y (some v)/\Q v H2
def sDPut (td ty tv:TE):TS:=fun D σ H=>tv σ H fun v H1=>td σ H1 fun x H2=>ty σ H2 fun y H3=>∃ a H4,x=.ref a/\DPut H3 a y v H4/\D.nx σ H4
section
variable {X:Cx}{o i e value:Expr}{pos pos' tpos:Pos}{td ty tv:TE}
theorem zcp0 (hu:X.A.units+1<cLine) (ho:PE X o td) (hi:PE X i ty) (hs:NoSl i):PE X (.Subscript o i pos) (tDGet td ty):=by
 intro pins s σ H Q I h
 refine zcn8 PySem.F.slot_dict_getitem.lookup hs (thn (ho pins s σ H _ I h) fun u s1 ⟨x,H1,I1,rx,q1⟩=>thn (hi pins s1 σ H1 _ I1 q1) fun iv s2 ⟨y,H2,I2,ry,a,v,ex,g,q2⟩=>?_)
 subst ex
 obtain rfl:u=Value.ref a:=rx
 exact⟨zbf9 I2 g,zbp6 hu I2 g ry fun w' s3 I3 rw'=>⟨v,H2,I3,rw',q2⟩⟩
theorem zcp2 (hu:X.A.units+1<cLine) (ho:PE X o td) (hi:PE X i ty) (hv:PE X value tv) (hs:swapsWith value (some (.Subscript o i pos')) pos.line X.env=pure false) :
  PS X (.Assign [.Subscript o i pos'] value pos) (sDPut td ty tv):=by
 intro pins s σ H D I h
 refine wpAny_Assign_Subscript (thn (hv pins s σ H _ I h) fun r s1 ⟨v,H1,I1,rv,q1⟩=>thn (ho pins s1 σ H1 _ I1 q1) fun u s2 ⟨x,H2,I2,rx,q2⟩=>thn (hi pins s2 σ H2 _ I2 q2) fun iv s3 ⟨y,H3,I3,ry,a,H4,ex,g,q3⟩=>?_) hs
 subst ex
 obtain rfl:u=Value.ref a:=rx
 exact zbz4 hu I3 g ry rv fun s4 I4=>⟨σ,H4,I4,q3⟩
end
theorem zcg8 {P:Program}{w:World}{H:Hp}(h:Heap) (hb:sysModules<h.objs.size):zg6 P w H (h.push { cls:=.type "dict",data:=.dict #[] }) h.objs.size (.dK []):=
 ⟨zda6 _,beq_eq_false_iff_ne.mpr (Ne.symm (zda8 hb)),[],.nil,Heap.DictOf.new h⟩
theorem zch0 {P:Program}{w:World}{H:Hp}(h:Heap) (hb:sysModules<h.objs.size):zg6 P w H (h.push { cls:=.type "dict",data:=.dict #[] }) h.objs.size (.dT []):=
 ⟨zda6 _,beq_eq_false_iff_ne.mpr (Ne.symm (zda8 hb)),[],.nil,_,#[],0,zcz9 _ rfl,⟨rfl,rfl,rfl⟩,rfl,rfl,List.nodup_nil⟩
def tDNewK:TE:=fun _ H Q=>∀ p,H p=none->Q (.ref p) (upd H p (.dK []))
def tDNewT:TE:=fun _ H Q=>∀ p,H p=none->Q (.ref p) (upd H p (.dT []))
section
variable {X:Cx}{pos:Pos}
theorem zce5:PE X (.Dict [] [] pos) tDNewK:=fun pins s σ H Q I h=>
 wpAny_Dict_empty ⟨.ref s.heap.objs.size,_,I.laid (a:=s.heap.objs.size) (o:=.dK []) (t':=s.toks) (fun _ _ q=>zcy5 _ q) (zcz6 _) (zcg8 s.heap I.big),rfl,h _ (I.hok.fresh (zcz6 _))⟩
theorem zcb8:PE X (.Dict [] [] pos) tDNewT:=fun pins s σ H Q I h=>
 wpAny_Dict_empty ⟨.ref s.heap.objs.size,_,I.laid (a:=s.heap.objs.size) (o:=.dT []) (t':=s.toks) (fun _ _ q=>zcy5 _ q) (zcz6 _) (zch0 s.heap I.big),rfl,h _ (I.hok.fresh (zcz6 _))⟩
end
structure M2 (X:Cx) (o:Expr) (m:Str) (apos:Pos) (e f:Expr) (cpos:Pos):Prop where
 base:attributeBase o m X.env (eval o X.env)=eval o X.env
 few:((backTo cpos (starEach [e,f] X.env)).all (fun x=>!x.1)&&(backToKw cpos (keywordEach [] X.env)).all (fun x=>x.1.isSome)
  && decide (([e,f]:List Expr).length+([]:List Keyword).length+(if ([]:List Keyword).isEmpty then 0 else 1)<30))=true
 line:(apos.endLine==cpos.line)=true
 trees:backTo cpos (starEach [e,f] X.env)=[(false,eval e X.env),(false,eval f X.env)]
def IsD (H:Hp) (a:Addr):Prop:=(∃ kvs,Rd H a (.dK kvs))∨∃ kvs,Rd H a (.dT kvs)
theorem isD_at {X:Cx}{pins:List (Addr×Obj)}{σ:St}{H:Hp}{s:Shared}{a:Addr}(I:Inv X pins σ H s) (d:IsD H a) :
  s.TypeIs (.ref a) "dict"/\(∀ b,Value.ref a=.ref b->∃ ob,s.heap.get? b=some ob/\ob.dict=none)/\(a==sysModules)=false:=by
 rcases d with ⟨kvs,e⟩|⟨kvs,e⟩
 ·obtain⟨_,hd,vs,_,dd⟩:=zbr4 I.hok e
  refine⟨dd.typeIs,fun b q=>?_,hd⟩
  cases q
  obtain⟨ob,_,_,h1,h2,_⟩:=dd
  exact⟨ob,h1,h2.2.1⟩
 ·obtain⟨_,hd,xs,_,dd⟩:=zbs8 I.hok e
  refine⟨dd.typeIs,fun b q=>?_,hd⟩
  cases q
  obtain⟨ob,_,_,h1,h2,_⟩:=dd
  exact⟨ob,h1,h2.2.1⟩
section
variable {X:Cx}{pins:List (Addr×Obj)}{σ:St}{H:Hp}{s:Shared}{a:Addr}{y d:V}{u r:Value}{o:Option V}{A:Around}{E:Value->Shared->Prop}
theorem d_get2 {Q:Value->Shared->Prop}(hu:A.units+1<cLine) (I:Inv X pins σ H s) (g:DGet H a y o) (ry:RelV y u) (rd:RelV d r) (h:∀ w' s',Inv X pins σ H s'->RelV (o.getD d) w'->Q w' s') :
  wpAny (model X.prog X.w) A (call (.builtin "dict.get") [.ref a,u,r]) Q E s:=by
 rcases g with ⟨kvs,k,e,ey,l⟩|⟨kvs,k,b,e,ey,eb,l⟩
 ·subst ey
  obtain⟨z,hd,vs,rel,dd⟩:=zbr4 I.hok e
  refine call_meetsIn PySem.F.slot_dict_get dd.typeIs PySem.F.entry_dict_get (PySem.F.args_dict_get_3 _ _ _) (meets_dict_get_default (zm7 X.prog X.w) a (kV_is ry) hd r) ⟨_,dd.mapOf,h _ _ (I.tok _) ?_⟩
  rw[l]
  exact (rel.val k).getD rd
 ·subst ey
  cases (show u=Value.ref b from ry)
  obtain⟨z,hd,xs,rel,dd⟩:=zbs8 I.hok e
  refine call_meetsIn PySem.F.slot_dict_get dd.typeIs PySem.F.entry_dict_get (PySem.F.args_dict_get_3 _ _ _) (meetsH_dict_get_default (tupleKind (zm7 X.prog X.w)) a b hd r) ⟨tupleKind_room_in1 hu,k,xs,zbg7 I.hok eb,dd,h _ _ (I.tok _) ?_⟩
  rw[l]
  exact (rel.val k).getD rd
end
def zbw5 (td ty tx:TE):TE:=fun σ H Q=>td σ H fun x H1=>∃ a,x=.ref a/\IsD H1 a/\ty σ H1 fun y H2=>tx σ H2 fun z H3=>∃ o,DGet H3 a y o/\Q (o.getD z) H3
section
variable {X:Cx}{o e f:Expr}{apos cpos:Pos}{td ty tx:TE}
theorem zcf7 (hu:X.A.units+1<cLine) (ho:PE X o td) (he:PE X e ty) (hf:PE X f tx) (m:M2 X o "get" apos e f cpos):PE X (.Call (.Attribute o "get" apos) [e,f] [] cpos) (zbw5 td ty tx):=by
 intro pins s σ H Q I h
 refine wpAny_Call_method m.base m.few m.line PySem.F.plainAttrs_dict PySem.F.slot_dict_get PySem.F.type_dict_get (thn (ho pins s σ H _ I h) fun u s1 ⟨x,H1,I1,rx,a,ex,d,q1⟩=>?_)
 subst ex
 obtain rfl:u=Value.ref a:=rx
 obtain⟨t1,t2,_⟩:=isD_at I1 d
 refine⟨t1,t2,?_⟩
 rw[m.trees]
 refine Calls.callWith_builtin rfl (Calls.evalArgs_plain (Calls.spliced_cons (thn (he pins s1 σ H1 _ I1 q1) fun iv s2 ⟨y,H2,I2,ry,q2⟩=>
  Calls.spliced_cons (thn (hf pins s2 σ H2 _ I2 q2) fun fv s3 ⟨z,H3,I3,rz,ov,g,q3⟩=>Calls.spliced_nil ?_))))
 exact d_get2 hu I3 g ry rz fun w' s4 I4 rw'=>⟨_,H3,I4,rw',q3⟩
end
section
variable {X:Cx}{pins:List (Addr×Obj)}{σ:St}{H:Hp}{s:Shared}{a:Addr}{kvs:List (Key×V)}{A:Around}{E:Value->Shared->Prop}
end
section
variable {X:Cx}{pins:List (Addr×Obj)}{σ:St}{H:Hp}{s:Shared}{a:Addr}{y:V}{u:Value}{A:Around}{E:Value->Shared->Prop}
end
end L2
namespace L2
open PySem PySem.Spec PyProof.Rows
section
variable {κ:Type}[DecidableEq κ]
end
end L2
set_option maxHeartbeats 2000000
namespace L2
open PySem PySem.Spec PyProof.Rows
def RawD (h:Heap) (d:Addr) (es:Array DictEntry) (ep:Nat):Prop:=∃ o,h.get? d=some o/\o.ExactDict/\o.data=.dict es ep
theorem RawD.is {s:Shared}{d:Addr}{es:Array DictEntry}{ep:Nat}(x:RawD s.heap d es ep):s.TypeIs (.ref d) "dict":=let ⟨o,a,b,_⟩:=x;⟨o,a,b.1⟩
theorem RawD.lt {h:Heap}{d:Addr}{es:Array DictEntry}{ep:Nat}(x:RawD h d es ep):d<h.objs.size:=let ⟨_,a,_⟩:=x;zcz7 a
theorem RawD.to {h h':Heap}{d:Addr}{es:Array DictEntry}{ep:Nat}(x:RawD h d es ep) (k:∀ o,h.get? d=some o->h'.get? d=some o):RawD h' d es ep:=let ⟨o,a,r⟩:=x;⟨o,k _ a,r⟩
section
variable {prog:Program}{w:World}{A:Around}{E:Value->Shared->Prop}{s:Shared}{d it:Addr}{es:Array DictEntry}{ep:Nat}
theorem zce7 {Q:Value->Shared->Prop}(lo:(d==sysModules)=false) (x:RawD s.heap d es ep)
  (q:Q (.ref s.heap.objs.size) { s with heap:=s.heap.push { cls:=.type "dict_keyiterator",data:=.fields #[.ref d,.int 0 0,.int es.size 0,.int ep 0] } }) :
  wpAny (model prog w) A (pyIter (.ref d)) Q E s:=by
 obtain⟨o,x1,x2,x3⟩:=id x
 have tt:=x.is
 refine wpAny_pyIter_slot tt F.slot_dict_iter (wpAny_call_entry F.slot_dict_iter tt F.entry_dict_iter ?_ (F.args_dict_iter_1 _))
 unfold Builtin.«dict.__iter__» Builtin.Dict.dictSlotNone
 refine wpAny_bind (wpAny_bind (wpAny_notOrdered_dict tt ?_))
 show wpAny (model prog w) _ (pure (Value.ref d)) _ _ s
 refine wpAny_pure (?_:_)
 show wpAny (model prog w) _ (Builtin.Dict.showsAll d >>= _) _ _ s
 unfold Builtin.Dict.showsAll
 rw[if_neg (fun z=>zcz0 (lo.symm.trans z))]
 refine wpAny_bind (wpAny_pure (wpAny_bind (wpAny_dictEntries x1 x3 (wpAny_bind (wpAny_dictEpoch x1 x3 ?_)))))
 exact wpAny_bind (wpAny_newObj_type (wpAny_pure ⟨_,rfl,"dict_keyiterator",_,⟨_,zcz9 _ rfl,rfl⟩,F.slot_dict_keyiterator_next.lookup,by simpa [rawInt] using q⟩))
theorem zch6 {i:Nat}{Q:Option Value->Shared->Prop}(y:s.heap.IsKeyIter it d i es.size ep) (x:RawD s.heap d es ep) (hi:i<es.size)
  (q:∀ h',h'.IsKeyIter it d (i+1) es.size ep->Heap.SameBut it s.heap h'->Q (some es[i].key) { s with heap:=h' }) :
  wpAny (model prog w) A (pyNext (.ref it)) Q E s:=by
 obtain⟨o,y1,y2,y3⟩:=id y
 obtain⟨od,x1,x2,x3⟩:=id x
 have own:Builtin.Dict_items.ownsTuple "dict_keyiterator"=false:=by decide
 unfold pyNext
 refine wpAny_bind (wpAny_attempt (wpAny_callSpecial?_slot (name:=Str.ofString "__next__") y.typeIs F.slot_dict_keyiterator_next (wpAny_call_entry F.slot_dict_keyiterator_next y.typeIs F.entry_dict_keyiterator_next ?_ (F.args_dict_keyiterator_next_1 _))))
 refine wpAny_bind (wpAny_pure (wpAny_bind (wpAny_bind ?_)))
 first|refine wpAny_bind (wpAny_typeNameOfWhole_keyiter y.typeIs (wpAny_pure ?_))|refine wpAny_bind (wpAny_typeNameOf_keyiter y.typeIs (wpAny_pure ?_))
 refine wpAny_bind (wpAny_fieldsOf y1 y3 ?_)
 simp only[own,zdd5,if_false]
 show wpAny (model prog w) _ (if (Value.ref d==Value.none)=true then _ else _) _ _ s
 rw[if_neg (show ¬ (Value.ref d==Value.none)=true from zcz0)]
 refine wpAny_bind (wpAny_pure (wpAny_bind (wpAny_dictEntries x1 x3 ?_)))
 rw[if_neg (by simp)]
 refine wpAny_bind (wpAny_pure (wpAny_bind (wpAny_dictEpoch x1 x3 ?_)))
 rw[if_neg (by simp)]
 refine wpAny_pure (?_:_)
 simp only[show ¬ ((i:Int)<0) from by omega,if_false,zde1,Array.getElem?_eq_getElem hi]
 refine wpAny_bind (?_:_)
 first|refine wpAny_bind (wpAny_typeNameOfWhole_keyiter y.typeIs (wpAny_pure ?_))|refine wpAny_bind (wpAny_typeNameOf_keyiter y.typeIs (wpAny_pure ?_))
 refine wpAny_bind (wpAny_isOneOf_keyiter y.typeIs ?_)
 show wpAny (model prog w) _ (setField (.ref it) 1 (rawInt ((i:Int)+1)) >>= _) _ _ s
 refine wpAny_bind (wpAny_setField y1 y3 (by simp) ?_)
 have y':(s.heap.update it (Obj.mapFields (·.setIfInBounds 1 (rawInt ((i:Int)+1))))).IsKeyIter it d (i+1) es.size ep:=
  ⟨_,Heap.get?_update_self _ y1 (Obj.isFreed_of_fields (Obj.data_mapFields y3 _)),(Obj.cls_mapFields ..).trans y2,by rw[Obj.data_mapFields y3];simp[rawInt]⟩
 refine wpAny_bind (wpAny_holding (wpAny_bind (wpAny_isOneOf_keyiter (s:={ s with heap:=s.heap.update it (Obj.mapFields (·.setIfInBounds 1 (rawInt ((i:Int)+1)))) }) y'.typeIs ?_)))
 show wpAny (model prog w) _ (pure es[i].key) _ _ _
 exact wpAny_pure (wpAny_pure ⟨_,rfl,wpAny_pure (q _ y' (Heap.SameBut.update ..))⟩)
theorem zcn9 {i:Nat}{Q:Option Value->Shared->Prop}(hh:A.handled=none) (y:s.heap.IsKeyIter it d i es.size ep) (x:RawD s.heap d es ep) (hi:es.size<=i)
  (q:∀ h',Heap.ExtBut it s.heap h'->Q none { s with heap:=h' }) :
  wpAny (model prog w) A (pyNext (.ref it)) Q E s:=by
 obtain⟨o,y1,y2,y3⟩:=id y
 obtain⟨od,x1,x2,x3⟩:=id x
 have own:Builtin.Dict_items.ownsTuple "dict_keyiterator"=false:=by decide
 unfold pyNext
 refine wpAny_bind (wpAny_attempt (wpAny_callSpecial?_slot (name:=Str.ofString "__next__") y.typeIs F.slot_dict_keyiterator_next (wpAny_call_entry F.slot_dict_keyiterator_next y.typeIs F.entry_dict_keyiterator_next ?_ (F.args_dict_keyiterator_next_1 _))))
 refine wpAny_bind (wpAny_pure (wpAny_bind (wpAny_bind ?_)))
 first|refine wpAny_bind (wpAny_typeNameOfWhole_keyiter y.typeIs (wpAny_pure ?_))|refine wpAny_bind (wpAny_typeNameOf_keyiter y.typeIs (wpAny_pure ?_))
 refine wpAny_bind (wpAny_fieldsOf y1 y3 ?_)
 simp only[own,zdd5,if_false]
 show wpAny (model prog w) _ (if (Value.ref d==Value.none)=true then _ else _) _ _ s
 rw[if_neg (show ¬ (Value.ref d==Value.none)=true from zcz0)]
 refine wpAny_bind (wpAny_pure (wpAny_bind (wpAny_dictEntries x1 x3 ?_)))
 rw[if_neg (by simp)]
 refine wpAny_bind (wpAny_pure (wpAny_bind (wpAny_dictEpoch x1 x3 ?_)))
 rw[if_neg (by simp)]
 refine wpAny_pure (?_:_)
 simp only[show ¬ ((i:Int)<0) from by omega,if_false,zde1,Array.getElem?_eq_none hi]
 refine wpAny_bind (?_:_)
 first|refine wpAny_bind (wpAny_typeNameOfWhole_keyiter y.typeIs (wpAny_pure ?_))|refine wpAny_bind (wpAny_typeNameOf_keyiter y.typeIs (wpAny_pure ?_))
 show wpAny (model prog w) _ (setField (.ref it) 0 .none >>= _) _ _ s
 refine wpAny_bind (wpAny_setField y1 y3 (by simp) ?_)
 show wpAny (model prog w) _ (newExc (.type "StopIteration") [] >>= _) _ _ _
 refine wpAny_bind (?_:_)
 unfold newExc newTuple
 refine wpAny_bind (wpAny_newObj_type ?_ (zda6 _))
 refine wpAny_bind (m:=firstArgMember _ _) (wpAny_of_eq (a:=Value.none) (by first|rfl|(unfold firstArgMember;rfl)) ?_)
 refine wpAny_newObj_type ?_ (by size_fits)
 unfold raiseNew
 refine wpAny_bind (wpAny_handled ?_)
 have hn:A.in1.handled=none:=hh
 rw[hn]
 refine wpAny_bind (wpAny_pure (wpAny_throw (?_:_)))
 refine wpAny_bind (wpAny_isInstance (b:=true) (T:="StopIteration") ⟨_,zcz9 _ rfl,rfl⟩ isSubtype_stop ?_)
 exact wpAny_pure (q _ (((Heap.SameBut.update ..).extBut.push _).push _))
theorem zcg0 (hh:A.handled=none) (I:Addr) (ne:d≠I) :
  Walks prog w A I [I,d] [I] es.size (fun i v=>∃ e,es[i]?=some e/\v=e.key) (fun i h=>h.IsKeyIter I d i es.size ep/\RawD h d es ep) where
 sub:=by intro b z;simp at z;simp[z]
 frame:=fun i h h' st k=>⟨st.1.at (k I (by simp)),st.2.to (k d (by simp))⟩
 item:=fun i s Q E hi st q=>zch6 st.1 st.2 hi fun h' y' hs=>q _ h' s.toks ⟨es[i],by simp[hi],rfl⟩ ⟨y',st.2.to fun o e=>hs.extBut d o ne e⟩ fun b o hb e=>hs.extBut b o (fun z=>hb (by simp[z])) e
 done:=fun s Q E st q=>zcn9 hh st.1 st.2 (zcz6 _) fun h' he=>q h' s.toks fun b o hb e=>he b o (fun z=>hb (by simp[z])) e
 self:=fun i s Q E st q=>wpAny_pyIter_keyiter st.1 q
theorem zco0 (lo:(d==sysModules)=false):PySem.W.KdlSrc prog w "dict" d d es.size (fun i v=>∃ e,es[i]?=some e/\v=e.key) (fun h=>RawD h d es ep) where
 type:=fun s x=>x.is
 there:=fun h x=>⟨x.lt,x.lt⟩
 keep:=fun h h' x k=>x.to fun o e=>k d (Or.inl rfl) o e
 notList:=rfl
 notTuple:=rfl
 hint:=fun A E s Q x q=>PySem.W.kdl_hint_dict x.is q
 iter:=fun A s hh x=>⟨_,_,(fun E Q q=>zce7 lo x q),zcg0 hh _ (zda8 x.lt),⟨⟨_,zcz9 _ rfl,rfl,rfl⟩,x.to fun o e=>zcy5 _ e⟩⟩
end
end L2
set_option maxHeartbeats 2000000
namespace L2
open PySem PySem.Spec PyProof.Rows PySem.W
section
variable {lt:Nat->Nat->Bool}{n:Nat}
def KW {α:Type}(lt:Nat->Nat->Bool) (n:Nat) (Q:α->Prop):KasT α->Prop
 | .ret a=>Q a
 | .ask i j k=>i<n/\j<n/\KW lt n Q (k (lt i j))
theorem KW.bd {α β:Type}{f:α->KasT β}{Q:β->Prop}:∀ {t:KasT α},KW lt n (fun a=>KW lt n Q (f a)) t->KW lt n Q (t.bind f)
 | .ret _,h=>h
 | .ask _ _ k,⟨h1,h2,h3⟩=>⟨h1,h2,KW.bd (t:=k _) h3⟩
theorem KW.mono {α:Type}{Q Q':α->Prop}(hq:∀ a,Q a->Q' a):∀ {t:KasT α},KW lt n Q t->KW lt n Q' t
 | .ret a,h=>hq a h
 | .ask _ _ k,⟨h1,h2,h3⟩=>⟨h1,h2,KW.mono hq (t:=k _) h3⟩
theorem KW.wp {α:Type}{cmp:Nat->Nat->(Bool->Shared->Prop)->Shared->Prop}{s:Shared}{Q:α->Prop}(hc:∀ i j C,i<n->j<n->C (lt i j) s->cmp i j C s):∀ {t:KasT α},KW lt n Q t->t.kasWp cmp (fun a s'=>s'=s/\Q a) s
 | .ret a,h=>⟨rfl,h⟩
 | .ask i j k,⟨h1,h2,h3⟩=>hc i j _ h1 h2 (KW.wp hc (t:=k _) h3)
def Pm (n:Nat) (p:Array Nat):Prop:=p.toList.Perm (List.range n)
theorem Pm.low {p:Array Nat}(h:Pm n p) (hn:0<n) (i:Nat):p.getD i 0<n:=by
 unfold Array.getD
 split
 ·rename_i hi
  exact zdc0.mp (h.mem_iff.mp (Array.getElem_mem_toList hi))
 ·exact hn
theorem Pm.rev {p:Array Nat}(h:Pm n p) (i j:Nat):Pm n (kas_rev p i j):=(Array.perm_iff_toList_perm.mp (mirror_perm p i j _)).trans h
theorem Pm.bub {p:Array Nat}(h:Pm n p) (i j:Nat):Pm n (bubble p i j):=(Array.perm_iff_toList_perm.mp (bubble_perm p i j)).trans h
end
section
variable {prog:Program}{w:World}{A:Around}{E:Value->Shared->Prop}{s:Shared}
def midH (h:Heap) (a:Addr) (vs:List Value):Heap:=((h.update a (Obj.mapSeq fun _=>#[])).push (seqObj "tuple" vs.toArray 0)).push (seqObj "list" #[] 0)
theorem zbv3 {h:Heap}{a b:Addr}{vs:List Value}{o:Obj}(ne:b≠a) (e:h.get? b=some o):(midH h a vs).get? b=some o:=
 zcy5 _ (zcy5 _ ((Heap.get?_update_ne _ _ _ _ ne).trans e))
theorem zan5 {h:Heap}{a b:Addr}{vs:List Value}{out:Array Value}{o:Obj}(ne:b≠a) (e:h.get? b=some o):(sortedHeap h a vs out).get? b=some o:=
 (Heap.get?_update_ne _ _ _ _ ne).trans (zbv3 ne e)
theorem zca8 {h:Heap}{a:Addr}{vs xs:List Value}{n:Nat}(e:h.get? a=some (seqObj "list" xs.toArray n)):∃ c,(midH h a vs).get? a=some (seqObj "list" #[] c)/\(h.update a (Obj.mapSeq fun _=>#[])).get? a=some (seqObj "list" #[] c):=
 ⟨_,zcy5 _ (zcy5 _ (get?_update_seq e fun _=>#[])),get?_update_seq e fun _=>#[]⟩
theorem zaw5 {h:Heap}{a:Addr}{vs xs:List Value}{n:Nat}{out:Array Value}(e:h.get? a=some (seqObj "list" xs.toArray n)):∃ c,(sortedHeap h a vs out).get? a=some (seqObj "list" out c):=by
 obtain⟨c,h1,_⟩:=zca8 (vs:=vs) e
 exact⟨_,get?_update_seq h1 fun _=>out⟩
theorem zcm5 {a:Addr}{vs:List Value}{n:Nat}{κ:SortKind}{lt:Nat->Nat->Bool}{R:Array Nat->Prop}{P:PySem.Fin->Shared->Prop}(ho:s.heap.get? a=some (seqObj "list" vs.toArray n)) (h2:2<=vs.length) (h64:vs.length<64)
  (hk:∀ Q:SortKind->Shared->Prop,Q κ { s with heap:=midH s.heap a vs }->wpAny (model prog w) A (keyKind' vs.toArray) Q E { s with heap:=midH s.heap a vs })
  (hc:∀ i j (C:Bool->Shared->Prop),i<vs.length->j<vs.length->C (lt i j) { s with heap:=midH s.heap a vs }->wpAny (model prog w) A (keyLt' κ (vs.getD i Value.none) (vs.getD j Value.none)) C (fun _ _=>False) { s with heap:=midH s.heap a vs })
  (kw:KW lt vs.length R (kas_sort vs.length))
  (h:∀ p:Array Nat,p.size=vs.length->R p->P (.done (.ret .none)) { s with heap:=sortedHeap s.heap a vs (List.toArray (p.toList.map fun i=>vs.getD i Value.none)) }) :
  wpAny (model prog w) A (Builtin.«list.sort» ⟨[.ref a],[]⟩) P E s:=by
 obtain⟨c,m1,m2⟩:=zca8 (vs:=vs) ho
 have zs:¬ vs.toArray.size<2:=by rw[zcy8];omega
 have zl:vs.length<=sizeLine:=by rw[sizeLine_eq];omega
 rw[list_sort_plain]
 refine wpAny_bind (listItems_at ho rfl (wpAny_bind (listUpdate_at ho rfl ?_ (by rw[zcy8];exact zl) (zda6 _))))
 refine wpAny_bind (seqEpoch_at m2 rfl (wpAny_bind (wpAny_newTuple ?_ zl)))
 refine wpAny_bind (wpAny_newList ?_ (zda6 _))
 refine wpAny_holding (?_:_)
 show wpAny (model prog w) A _ P E { s with heap:=midH s.heap a vs }
 dsimp only
 rw[if_neg zs,if_neg zs]
 refine wpAny_bind (hk _ ?_)
 have run:=kat_run (prog:=prog) (w:=w) (A:=A) (E:=E) (κ:=κ) (ks:=vs) (vs:=vs) (s:={ s with heap:=midH s.heap a vs }) (Q:=fun st' s'=>s'={ s with heap:=midH s.heap a vs }/\∃ p:Array Nat,p.size=vs.length/\R p/\arrOf st'=p.map (kas_item (vs.toArray.zip vs.toArray))/\failedOf st'=none)
  rfl h2 h64 (fun p st' s' b1 b2 b3 b4=>⟨b4.1,p,b1,b4.2,b2,b3⟩) (KW.wp (cmp:=kas_ask prog w A κ vs) (fun i j C li lj hC=>hc i j C li lj hC) kw)
 refine wpAny_bind (wpAny_mono run ?_ fun _ _ e=>e)
 rintro⟨⟨⟩,st'⟩ s' ⟨rfl,p,pz,pR,har,hf⟩
 have out:=kat_snds rfl har
 dsimp only
 rw[out]
 refine wpAny_bind (seqEpoch_at m1 rfl (wpAny_bind (listUpdate_at m1 rfl ?_ (zda6 _) ?_)))
 ·rw[hf]
  simp only[bne_self_eq_false,zdd5,if_false]
  exact wpAny_pure (h p pz pR)
 ·rw[zcy8,zcy0,Array.length_toList,pz]
  omega
theorem zcd0 {a:Addr}{vs:List Value}{n:Nat}{P:PySem.Fin->Shared->Prop}(ho:s.heap.get? a=some (seqObj "list" vs.toArray n)) (h2:vs.length<2)
  (h:P (.done (.ret .none)) { s with heap:=sortedHeap s.heap a vs vs.toArray }):wpAny (model prog w) A (Builtin.«list.sort» ⟨[.ref a],[]⟩) P E s:=by
 obtain⟨c,m1,m2⟩:=zca8 (vs:=vs) ho
 have zs:vs.toArray.size<2:=by rw[zcy8];omega
 have zl:vs.length<=sizeLine:=by rw[sizeLine_eq];omega
 rw[list_sort_plain]
 refine wpAny_bind (listItems_at ho rfl (wpAny_bind (listUpdate_at ho rfl ?_ (by rw[zcy8];exact zl) (zda6 _))))
 refine wpAny_bind (seqEpoch_at m2 rfl (wpAny_bind (wpAny_newTuple ?_ zl)))
 refine wpAny_bind (wpAny_newList ?_ (zda6 _))
 refine wpAny_holding (?_:_)
 show wpAny (model prog w) A _ P E { s with heap:=midH s.heap a vs }
 dsimp only
 rw[if_pos zs,if_pos zs]
 refine wpAny_bind (wpAny_pure (?_:_))
 rw[StateT.run_pure]
 refine wpAny_bind (wpAny_pure (?_:_))
 dsimp only
 have e:(vs.toArray.zip vs.toArray).map (·.2)=vs.toArray:=by
  apply Array.toList_inj.mp
  simp[List.map_snd_zip]
 show wpAny (model prog w) A (seqEpoch a >>= _) P E _
 refine wpAny_bind (seqEpoch_at m1 rfl (wpAny_bind (listUpdate_at m1 rfl ?_ (zda6 _) ?_)))
 ·simp only[bne_self_eq_false,zdd5,if_false]
  show wpAny (model prog w) A (ret Value.none) P E { s with heap:=sortedHeap s.heap a vs ((vs.toArray.zip vs.toArray).map (·.2)) }
  rw[e]
  exact wpAny_pure h
 ·show ((vs.toArray.zip vs.toArray).map (·.2)).size<=_
  rw[e,zcy8];omega
end
end L2
set_option maxHeartbeats 2000000
namespace L2
open PySem PySem.Spec PyProof.Rows PySem.W
def ltP (x y:Int×Int):Bool:=if (x.1==y.1)=true then (if (x.2==y.2)=true then false else decide (x.2<y.2)) else decide (x.1<y.1)
def TupI (h:Heap) (v:Value) (x:Int×Int):Prop:=∃ a o t u n,v=.ref a/\h.get? a=some o/\o.cls=.type "tuple"/\o.data=.seq #[.int x.1 t,.int x.2 u] n
theorem TupI.to {h h':Heap}{v:Value}{x:Int×Int}(z:TupI h v x) (k:∀ b o,h.get? b=some o->h'.get? b=some o):TupI h' v x:=
 let ⟨a,o,t,u,n,e,e1,r⟩:=z;⟨a,o,t,u,n,e,k _ _ e1,r⟩
section
variable {prog:Program}{w:World}{A:Around}{E:Value->Shared->Prop}{s:Shared}
theorem zcq0 {v v':Value}{x y:Int×Int}{C:Bool->Shared->Prop}(hv:TupI s.heap v x) (hv':TupI s.heap v' y) (h:C (ltP x y) s):wpAny (model prog w) A (keyLt' (tuples' true) v v') C E s:=by
 obtain⟨a,o,t,u,n,rfl,a1,a2,a3⟩:=hv
 obtain⟨b,o',t',u',n',rfl,b1,b2,b3⟩:=hv'
 refine kat_lt a1 a3 b1 b3 ?_
 show KatLex prog w A true false C [(.int x.1 t,.int y.1 t'),(.int x.2 u,.int y.2 u')] 0 s
 unfold ltP at h
 refine kat_cons (wpAny_eqBool_int (kat_go (fun e=>?_) fun e=>?_))
 ·rw[if_pos e] at h
  refine kat_yes (kat_cons (wpAny_eqBool_int (kat_go (fun e2=>?_) fun e2=>?_)))
  ·rw[if_pos e2] at h
   exact kat_yes (kat_nil h)
  ·rw[if_neg (by rw[e2];exact zcz0)] at h
   exact kat_no (kat_one _ _ (wpAny_lt_int h))
 ·rw[if_neg (by rw[e];exact zcz0)] at h
  exact kat_no (oneLt_int h)
theorem zbs5 {h:Heap}:∀ {vs:List Value},(∀ v∈vs,∃ x,TupI h v x)->∃ fs,KatTups h vs fs/\fs.length=vs.length/\∀ f∈fs,∃ n t,f=Value.int n t
 | [],_=>⟨[],.nil,rfl,fun _ z=>nomatch z⟩
 | v :: vs,H=>by
  obtain⟨fs,a1,a2,a3⟩:=zbs5 (vs:=vs) fun u hu=>H u (.tail _ hu)
  obtain⟨x,a,o,t,u,n,rfl,b1,b2,b3⟩:=H v (.head _)
  refine⟨.int x.1 t :: fs,KatTups.cons b1 b2 b3 rfl a1,congrArg (·+1) a2,fun f hf=>?_⟩
  rcases zcz5.mp hf with rfl|hf
  ·exact⟨_,_,rfl⟩
  ·exact a3 f hf
theorem zbq8 {vs:List Value}{Q:SortKind->Shared->Prop}(H:∀ v∈vs,∃ x,TupI s.heap v x) (h2:2<=vs.length) (h:Q (tuples' true) s):wpAny (model prog w) A (keyKind' vs.toArray) Q E s:=by
 obtain⟨fs,a1,a2,a3⟩:=zbs5 H
 refine kat_kind (T:=.type "int") a1 (by omega) (fun v hv=>?_) rfl h
 obtain⟨n,t,rfl⟩:=a3 v hv
 exact Looks.of_pure rfl
end
end L2
set_option maxHeartbeats 2000000
namespace L2
open PySem PySem.Spec PyProof.Rows PySem.W
section
variable {X:Cx}{K:zcy1}
@[irreducible] def rDG (a:Addr) (y:V) (H:Hp) (Q:VK):Prop:=∃ v,DGet H a y (some v)/\Q v H
def rDGV (x y:V) (H:Hp) (Q:VK):Prop:=match x with
 | .ref a=>rDG a y H Q
 | _=>False
def tDG (td ty:TE):TE:=fun σ H Q=>td σ H fun x H1=>ty σ H1 fun y H2=>rDGV x y H2 Q
theorem tDG_eq (td ty:TE):tDG td ty=tDGet td ty:=by
 funext σ H Q
 unfold tDG tDGet
 congr 1;funext x H1;congr 1;funext y H2
 unfold rDGV
 apply propext
 cases x<;>first
  | (simp only[V.ref.injEq];unfold rDG;exact⟨fun ⟨v,g,q⟩=>⟨_,v,rfl,g,q⟩,fun ⟨a,v,e,g,q⟩=>⟨v,e▸g,q⟩⟩)
  | exact⟨fun z=>z.elim,fun ⟨a,v,e,_⟩=>nomatch e⟩
theorem peDGet {o i:Expr}{td ty:TE}{pos:Pos}(hu:X.A.units+40<cLine) (ho:PE X o td) (hi:PE X i ty) (hs:NoSl i:=by exact fun _ _=>rfl):PE X (.Subscript o i pos) (tDG td ty):=tDG_eq td ty▸zcp0 (by omega) ho hi hs
theorem dgT_rd {a b:Addr}{H:Hp}{Q:VK}{kvs:List (List Key×V)}{k:List Key}{v:V}(e:H a=some (.dT kvs)) (eb:H b=some (.tup (k.map kV))) (ev:valV kvs k=some v) (q:Q v H):rDG a (.ref b) H Q:=by
 unfold rDG
 exact⟨v,ev▸DGet.t e eb,q⟩
@[irreducible] def rIsD (a:Addr) (H:Hp) (P:Prop):Prop:=IsD H a/\P
@[irreducible] def rDG2 (a:Addr) (y z:V) (H:Hp) (Q:VK):Prop:=∃ o,DGet H a y o/\Q (o.getD z) H
def rDG2V (x:V) (H:Hp) (P:Addr->Prop):Prop:=match x with
 | .ref a=>rIsD a H (P a)
 | _=>False
def tDG2 (td ty tx:TE):TE:=fun σ H Q=>td σ H fun x H1=>rDG2V x H1 fun a=>ty σ H1 fun y H2=>tx σ H2 fun z H3=>rDG2 a y z H3 Q
theorem zcl3 (td ty tx:TE):tDG2 td ty tx=zbw5 td ty tx:=by
 funext σ H Q
 unfold tDG2 zbw5
 congr 1;funext x H1
 unfold rDG2V rIsD rDG2
 apply propext
 cases x<;>first
  | (simp only[V.ref.injEq];exact⟨fun z=>⟨_,rfl,z⟩,fun ⟨a,e,z⟩=>e▸z⟩)
  | exact⟨fun z=>z.elim,fun ⟨a,e,_⟩=>nomatch e⟩
theorem zbl0 {o e f:Expr}{td ty tx:TE}{apos cpos:Pos}(hu:X.A.units+40<cLine) (ho:PE X o td) (he:PE X e ty) (hf:PE X f tx)
  (m1:attributeBase o "get" X.env (eval o X.env)=eval o X.env:=by rfl)
  (m2:((backTo cpos (starEach [e,f] X.env)).all (fun x=>!x.1)&&(backToKw cpos (keywordEach [] X.env)).all (fun x=>x.1.isSome)&&decide (([e,f]:List Expr).length+([]:List Keyword).length+(if ([]:List Keyword).isEmpty then 0 else 1)<30))=true:=by rfl)
  (m3:(apos.endLine==cpos.line)=true:=by rfl) (m4:backTo cpos (starEach [e,f] X.env)=[(false,eval e X.env),(false,eval f X.env)]:=by rfl):PE X (.Call (.Attribute o "get" apos) [e,f] [] cpos) (tDG2 td ty tx):=
 zcl3 td ty tx▸zcf7 (by omega) ho he hf ⟨m1,m2,m3,m4⟩
theorem zby2 {a:Addr}{H:Hp}{P:Prop}{kvs:List (List Key×V)}(e:H a=some (.dT kvs)) (p:P):rIsD a H P:=by unfold rIsD;exact⟨.inr ⟨kvs,.inl e⟩,p⟩
theorem zbx8 {a b:Addr}{z:V}{H:Hp}{Q:VK}{kvs:List (List Key×V)}{k:List Key}(e:H a=some (.dT kvs)) (eb:H b=some (.tup (k.map kV))) (q:Q ((valV kvs k).getD z) H):rDG2 a (.ref b) z H Q:=by
 unfold rDG2
 exact⟨_,DGet.t e eb,q⟩
@[irreducible] def rDP (a:Addr) (y v:V) (H:Hp) (N:Hp->Prop):Prop:=∃ H',DPut H a y v H'/\N H'
def rDPV (x y v:V) (H:Hp) (N:Hp->Prop):Prop:=match x with
 | .ref a=>rDP a y v H N
 | _=>False
def sDP (td ty tv:TE):TS:=fun D σ H=>tv σ H fun v H1=>td σ H1 fun x H2=>ty σ H2 fun y H3=>rDPV x y v H3 (D.nx σ)
theorem sDP_eq (td ty tv:TE):sDP td ty tv=sDPut td ty tv:=by
 funext D σ H
 unfold sDP sDPut
 congr 1;funext v H1;congr 1;funext x H2;congr 1;funext y H3
 unfold rDPV
 apply propext
 cases x<;>first
  | (simp only[V.ref.injEq];unfold rDP;exact⟨fun ⟨H',g,q⟩=>⟨_,H',rfl,g,q⟩,fun ⟨a,H',e,g,q⟩=>⟨H',e▸g,q⟩⟩)
  | exact⟨fun z=>z.elim,fun ⟨a,v,e,_⟩=>nomatch e⟩
theorem zcl1 {o i value:Expr}{td ty tv:TE}{pos pos':Pos}(hu:X.A.units+40<cLine) (ho:PE X o td) (hi:PE X i ty) (hv:PE X value tv) (hs:swapsWith value (some (.Subscript o i pos')) pos.line X.env=pure false:=by rfl) :
  PS X (.Assign [.Subscript o i pos'] value pos) (sDP td ty tv):=sDP_eq td ty tv▸zcp2 (by omega) ho hi hv hs
theorem zck5 {a b:Addr}{v:V}{H:Hp}{N:Hp->Prop}{kvs:List (List Key×V)}{k:List Key}(e:H a=some (.dT kvs)) (eb:H b=some (.tup (k.map kV))) (hl:kvs.length<sizeLine) (q:∀ H',Chg a H H'->H' a=some (.dT (putK kvs k v))->N H'):rDP a (.ref b) v H N:=by
 unfold rDP
 exact⟨_,DPut.t e eb hl,q _ Chg.upd zc4⟩
def pK (x:Int×Int):List Key:=[.inl x.1,.inl x.2]
theorem zav3 {α β:Type}{R:α->β->Prop}:∀ {as:List α}{bs:List β},Paired R as bs->∀ (i:Nat) (a:α) (b:β),as[i]?=some a->bs[i]?=some b->R a b:=by
 intro as bs h
 induction h with
 | nil=>intro i a b e;simp at e
 | cons h1 _ ih=>
  intro i a b e1 e2
  cases i with
  | zero=>simp at e1 e2;subst e1;subst e2;exact h1
  | succ j=>simp at e1 e2;exact ih j a b e1 e2
theorem zaw8 {α β:Type}{R:α->β->Prop}:∀ {as:List α}{bs:List β},as.length=bs.length->(∀ (i:Nat) (a:α) (b:β),as[i]?=some a->bs[i]?=some b->R a b)->Paired R as bs
 | [],[],_,_=>.nil
 | a :: as,b :: bs,hl,h=>.cons (h 0 a b rfl rfl) (zaw8 (Nat.succ.inj hl) fun i x y e1 e2=>h (i+1) x y (by simpa using e1) (by simpa using e2))
end
end L2
set_option maxHeartbeats 2000000
namespace L2
open PySem PySem.Spec PyProof.Rows PySem.W
structure Ord (lt:Nat->Nat->Bool):Prop where
 as:∀ i j,lt i j=true->lt j i=false
 tr:∀ i j k,lt j i=false->lt k j=false->lt k i=false
section
variable {lt:Nat->Nat->Bool}{n:Nat}
def gp (p:Array Nat) (i:Nat):Nat:=p.getD i 0
theorem zca9 {p q:Array Nat}{i j:Nat}(h:p[i]?=q[j]?):gp p i=gp q j:=by
 unfold gp
 rw[Array.getD_eq_getD_getElem?,Array.getD_eq_getD_getElem?,h]
theorem zaa4 {p:Array Nat}{i j:Nat}(hj:j<=p.size) (k:Nat):gp (kas_rev p i j) k=if i<=k/\k<j then gp p (i+j - 1 - k) else gp p k:=by
 have h:=getElem?_mirror_all (xs:=p) (i:=i) hj k
 split
 ·rename_i c;rw[if_pos c] at h;exact zca9 h
 ·rename_i c;rw[if_neg c] at h;exact zca9 h
theorem zci7 {p:Array Nat}{k l:Nat}(hk:k<p.size) (hl:l<=k) (i:Nat):gp (bubble p k (k - l)) i=if i=l then gp p k else if l<i/\i<=k then gp p (i - 1) else gp p i:=by
 have h:=getElem?_bubble hk (k - l) (by omega) i
 rw[show k - (k - l)=l by omega] at h
 split
 ·rename_i c;rw[if_pos c] at h;exact zca9 h
 ·rename_i c
  rw[if_neg c] at h
  split
  ·rename_i c2;rw[if_pos c2] at h;exact zca9 h
  ·rename_i c2;rw[if_neg c2] at h;exact zca9 h
def Up (lt:Nat->Nat->Bool) (p:Array Nat) (k:Nat):Prop:=∀ i j,i<=j->j<k->lt (gp p j) (gp p i)=false
def Dn (lt:Nat->Nat->Bool) (p:Array Nat) (k:Nat):Prop:=∀ i j,i<=j->j<k->lt (gp p i) (gp p j)=false
theorem Ord.rf (O:Ord lt) (i:Nat):lt i i=false:=by
 cases h:lt i i with
 | false=>rfl
 | true=>exact absurd (O.as _ _ h) (by rw[h];exact fun w=>nomatch w)
theorem Up.snoc (O:Ord lt) {p:Array Nat}{k:Nat}(u:Up lt p k) (hk:1<=k) (h:lt (gp p k) (gp p (k - 1))=false):Up lt p (k+1):=fun i j hij hj=>by
 by_cases e:j=k
 ·subst e
  by_cases e2:i=j
  ·subst e2;exact O.rf _
  ·exact O.tr _ _ _ (u i (j - 1) (by omega) (by omega)) h
 ·exact u i j hij (by omega)
theorem Dn.snoc (O:Ord lt) {p:Array Nat}{k:Nat}(u:Dn lt p k) (hk:1<=k) (h:lt (gp p (k - 1)) (gp p k)=false):Dn lt p (k+1):=fun i j hij hj=>by
 by_cases e:j=k
 ·subst e
  by_cases e2:i=j
  ·subst e2;exact O.rf _
  ·exact O.tr _ _ _ h (u i (j - 1) (by omega) (by omega))
 ·exact u i j hij (by omega)
theorem Pm.size {p:Array Nat}(h:Pm n p):p.size=n:=by have:=h.length_eq;rw[Array.length_toList,zda2] at this;exact this
theorem zbu8 (O:Ord lt) (hn:0<n) {p:Array Nat}(h:Pm n p):∀ f m,1<=m->Up lt p m->KW lt n (fun r=>m<=r/\r<=m+f/\Up lt p r/\(r<m+f->lt (gp p r) (gp p (r - 1))=true)) (kas_asc p f m)
 | 0,m,_,u=>⟨zcz6 _,zcz6 _,u,fun z=>absurd z (Nat.lt_irrefl _)⟩
 | f+1,m,hm,u=>by
  refine⟨h.low hn _,h.low hn _,?_⟩
  dsimp only
  cases e:lt (p.getD m 0) (p.getD (m - 1) 0) with
  | true=>rw[if_pos rfl];exact⟨zcz6 _,zdd2 _ _,u,fun _=>e⟩
  | false=>
   rw[if_neg (by decide)]
   exact KW.mono (fun r hr=>⟨by omega,by omega,hr.2.2.1,fun z=>hr.2.2.2 (by omega)⟩) (zbu8 O hn h f (m+1) (by omega) (u.snoc O hm e))
def Al (lt:Nat->Nat->Bool) (p:Array Nat) (m q:Nat):Prop:=∀ i j,m - (q+1)<=i->i<=j->j<m->lt (gp p j) (gp p i)=false
theorem Dn.al_rev (O:Ord lt) {p:Array Nat}{m q:Nat}(hm:m<=p.size) (hq:q+1<=m) (d:Dn lt p m) (al:Al lt p m q):Dn lt (kas_rev p (m - (q+1)) m) m:=fun i j hij hj=>by
 rw[zaa4 hm,zaa4 hm]
 by_cases ci:m - (q+1)<=i/\i<m
 ·rw[if_pos ci,if_pos ⟨by omega,hj⟩]
  exact al _ _ (by omega) (by omega) (by omega)
 ·rw[if_neg ci]
  split
  ·exact d i _ (by omega) (by omega)
  ·exact d i j hij hj
theorem zaq1 (O:Ord lt) (hn:0<n):∀ f (p:Array Nat) m q,Pm n p->m+f<=n->q+1<=m->Dn lt p m->Al lt p m q->KW lt n (fun r=>Pm n r.1/\m<=r.2.1/\r.2.1<=m+f/\r.2.2+1<=r.2.1/\Dn lt r.1 r.2.1/\Al lt r.1 r.2.1 r.2.2) (kas_desc f p m q)
 | 0,p,m,q,h,hf,hq,d,al=>⟨h,zcz6 _,zcz6 _,hq,d,al⟩
 | f+1,p,m,q,h,hf,hq,d,al=>by
  have hz:=h.size
  refine⟨h.low hn _,h.low hn _,?_⟩
  dsimp only
  cases e:lt (p.getD m 0) (p.getD (m - 1) 0) with
  | true=>
   rw[if_pos rfl]
   have al0:∀ p':Array Nat,Al lt p' (m+1) 0:=fun p' i j h1 h2 h3=>by
    have:i=j:=by omega
    subst this;exact O.rf _
   split
   ·rename_i q0
    refine KW.mono (fun r hr=>⟨hr.1,by omega,by omega,hr.2.2.2⟩) (zaq1 O hn f _ (m+1) 0 (h.rev _ _) (by omega) (by omega) ?_ (al0 _))
    refine (d.al_rev O (by omega) hq al).snoc O (by omega) ?_
    rw[zaa4 (by omega),zaa4 (by omega),if_pos (by omega),if_neg (by omega),show m - (q+1)+m - 1 - (m - 1)=m - (q+1) by omega]
    exact O.tr _ _ _ (O.as _ _ e) (d _ _ (by omega) (by omega))
   ·exact KW.mono (fun r hr=>⟨hr.1,by omega,by omega,hr.2.2.2⟩) (zaq1 O hn f p (m+1) 0 h (by omega) (by omega) (d.snoc O (by omega) (O.as _ _ e)) (al0 _))
  | false=>
   rw[if_neg (by decide)]
   refine⟨h.low hn _,h.low hn _,?_⟩
   dsimp only
   cases e2:lt (p.getD (m - 1) 0) (p.getD m 0) with
   | true=>rw[if_pos rfl];exact⟨h,zcz6 _,zdd2 _ _,hq,d,al⟩
   | false=>
    rw[if_neg (by decide)]
    refine KW.mono (fun r hr=>⟨hr.1,by omega,by omega,hr.2.2.2⟩) (zaq1 O hn f p (m+1) (q+1) h (by omega) (by omega) (d.snoc O (by omega) e2) ?_)
    intro i j h1 h2 h3
    by_cases ej:j=m
    ·subst ej
     by_cases ei:i=j
     ·subst ei;exact O.rf _
     ·exact O.tr _ _ _ (al i (j - 1) (by omega) (by omega) (by omega)) e
    ·exact al i j (by omega) h2 (by omega)
theorem Dn.rev {p:Array Nat}{m:Nat}(hm:m<=p.size) (d:Dn lt p m):Up lt (kas_rev p 0 m) m:=fun i j hij hj=>by
 rw[zaa4 hm,zaa4 hm,if_pos (by omega),if_pos (by omega)]
 exact d _ _ (by omega) (by omega)
theorem zbx1 (O:Ord lt) (hn:0<n) {m:Nat}{p:Array Nat}(h:Pm n p) (hm:m<=n) (m1:1<=m) (d:Dn lt p m):KW lt n (fun x=>Pm n x.2/\1<=x.1/\x.1<=n/\Up lt x.2 x.1) (kas_tail3 m n p):=
 KW.bd (KW.mono (fun r hr=>⟨h.rev 0 m,by omega,by omega,hr.2.2.1⟩) (zbu8 O hn (h.rev 0 m) (n - m) m m1 (d.rev (by rw[h.size];exact hm))))
theorem zbq1 (O:Ord lt) (hn:0<n) {m:Nat}{p:Array Nat}(h:Pm n p) (hm:m+1<=n) (d:Dn lt p (m+1)):KW lt n (fun x=>Pm n x.2/\1<=x.1/\x.1<=n/\Up lt x.2 x.1) (kas_descPart m n p):=by
 refine KW.bd (KW.mono (fun r hr=>?_) (zaq1 O hn (n - (m+1)) p (m+1) 0 h (by omega) (by omega) d fun i j h1 h2 h3=>?_))
 ·obtain⟨r1,r2,r3,r4,r5,r6⟩:=hr
  split
  ·exact zbx1 O hn (r1.rev _ _) (by omega) (by omega) (r5.al_rev O (by rw[Pm.size r1];omega) r4 r6)
  ·exact zbx1 O hn r1 (by omega) (by omega) r5
 ·have:i=j:=by omega
  subst this;exact O.rf _
theorem zcf8 (O:Ord lt) (hn:0<n) {p:Array Nat}(h:Pm n p):KW lt n (fun x=>Pm n x.2/\1<=x.1/\x.1<=n/\Up lt x.2 x.1) (kas_count n p):=by
 have u1:Up lt p 1:=fun i j h1 h2=>by
  have:i=j:=by omega
  subst this;exact O.rf _
 refine KW.bd (KW.mono (fun r hr=>?_) (zbu8 O hn h (n - 1) 1 (zcz6 _) u1))
 obtain⟨r1,r2,r3,r4⟩:=hr
 by_cases c:(r==n)=true
 ·rw[if_pos c]
  exact⟨h,r1,by omega,r3⟩
 ·rw[if_neg c]
  have rn:r<n:=by
   have:r≠n:=fun z=>c (by rw[z];exact beq_self_eq_true n)
   omega
  by_cases c2:r>1
  ·rw[if_pos c2]
   refine⟨h.low hn _,h.low hn _,?_⟩
   dsimp only
   cases e:lt (p.getD 0 0) (p.getD (r - 1) 0) with
   | true=>rw[if_pos rfl];exact⟨h,r1,by omega,r3⟩
   | false=>
    rw[if_neg (by decide)]
    have hz:r<=p.size:=by rw[Pm.size h];omega
    have st:=r4 (by omega)
    refine zbq1 O hn (h.rev 0 r) (by omega) (Dn.snoc O (fun i j hij hj=>?_) (by omega) ?_)
    ·rw[zaa4 hz,zaa4 hz,if_pos (by omega),if_pos (by omega)]
     exact r3 _ _ (by omega) (by omega)
    ·rw[zaa4 hz,zaa4 hz,if_pos (by omega),if_neg (by omega),show 0+r - 1 - (r - 1)=0 by omega]
     exact O.tr _ _ _ (O.as _ _ st) e
  ·rw[if_neg c2]
   have r0:r=1:=by omega
   subst r0
   have st:=r4 (by omega)
   exact zbq1 O hn h (by omega) (Dn.snoc O (fun i j hij hj=>by
    have:i=j:=by omega
    subst this;exact O.rf _) (zcz6 _) (O.as _ _ st))
theorem zat5 (O:Ord lt) (hn:0<n) {p:Array Nat}(h:Pm n p) (k:Nat) (u:Up lt p k):∀ f l r,l<=r->r<=k->r<=l+f->(∀ i,i<l->lt (gp p k) (gp p i)=false)->(∀ i,r<=i->i<k->lt (gp p k) (gp p i)=true) ->
  KW lt n (fun x=>x<=k/\(∀ i,i<x->lt (gp p k) (gp p i)=false)/\∀ i,x<=i->i<k->lt (gp p k) (gp p i)=true) (kas_place p k f l r)
 | 0,l,r,h1,h2,h3,a,b=>by
  have:r=l:=by omega
  subst this
  exact⟨h2,a,b⟩
 | f+1,l,r,h1,h2,h3,a,b=>by
  unfold kas_place
  by_cases c:l≥r
  ·rw[if_pos c]
   have:r=l:=by omega
   subst this
   exact⟨h2,a,b⟩
  ·rw[if_neg c]
   refine⟨h.low hn _,h.low hn _,?_⟩
   dsimp only
   cases e:lt (p.getD k 0) (p.getD ((l+r) / 2) 0) with
   | true=>
    rw[if_pos rfl]
    refine zat5 O hn h k u f l ((l+r) / 2) (by omega) (by omega) (by omega) a fun i hi hk=>?_
    cases e2:lt (gp p k) (gp p i) with
    | true=>rfl
    | false=>
     have:=O.tr _ _ _ (u ((l+r) / 2) i hi hk) (show lt (gp p k) (gp p i)=false from e2)
     rw[show lt (gp p k) (gp p ((l+r) / 2))=true from e] at this
     cases this
   | false=>
    rw[if_neg (by decide)]
    refine zat5 O hn h k u f ((l+r) / 2+1) r (by omega) h2 (by omega) (fun i hi=>?_) b
    exact O.tr _ _ _ (u i ((l+r) / 2) (by omega) (by omega)) e
theorem up_bub (O:Ord lt) {p:Array Nat}{k l:Nat}(hk:k<p.size) (u:Up lt p k) (hl:l<=k) (a:∀ i,i<l->lt (gp p k) (gp p i)=false) (b:∀ i,l<=i->i<k->lt (gp p k) (gp p i)=true):Up lt (bubble p k (k - l)) (k+1):=fun i j hij hj=>by
 rw[zci7 hk hl,zci7 hk hl]
 by_cases ci:i=l
 ·rw[if_pos ci]
  by_cases cj:j=l
  ·rw[if_pos cj];exact O.rf _
  ·rw[if_neg cj,if_pos (by omega)]
   exact O.as _ _ (b (j - 1) (by omega) (by omega))
 ·rw[if_neg ci]
  by_cases cj:j=l
  ·rw[if_pos cj,if_neg (by omega)]
   exact a i (by omega)
  ·rw[if_neg cj]
   by_cases di:l<i/\i<=k
   ·rw[if_pos di,if_pos (by omega)]
    exact u _ _ (by omega) (by omega)
   ·rw[if_neg di]
    by_cases dj:l<j/\j<=k
    ·rw[if_pos dj]
     exact u _ _ (by omega) (by omega)
    ·rw[if_neg dj]
     exact u _ _ hij (by omega)
theorem zcj3 (O:Ord lt) (hn:0<n):∀ f (p:Array Nat) k,Pm n p->k+f=n->Up lt p k->KW lt n (fun p'=>Pm n p'/\Up lt p' n) (kas_bin f p k)
 | 0,p,k,h,e,u=>by
  have:k=n:=by omega
  subst this
  exact⟨h,u⟩
 | f+1,p,k,h,e,u=>by
  refine KW.bd (KW.mono (fun l hl=>?_) (zat5 O hn h k u k 0 k (zda6 _) (zcz6 _) (by omega) (fun i hi=>absurd hi (Nat.not_lt_zero _)) fun i h1 h2=>absurd h2 (by omega)))
  exact zcj3 O hn f _ (k+1) (h.bub _ _) (by omega) (up_bub O (by rw[Pm.size h];omega) u hl.1 hl.2.1 hl.2.2)
theorem zcq9 (O:Ord lt) (hn:0<n):KW lt n (fun p=>Pm n p/\Up lt p n) (kas_sort n):=by
 have h0:Pm n (List.toArray (List.range n)):=List.Perm.refl _
 refine KW.bd (KW.mono (fun r hr=>?_) (zcf8 O hn h0))
 obtain⟨r1,r2,r3,r4⟩:=hr
 by_cases c:r.1<n
 ·rw[if_pos c,show max r.1 1=r.1 by omega]
  exact zcj3 O hn _ _ _ r1 (by omega) r4
 ·rw[if_neg c]
  have e:r.1=n:=by omega
  exact⟨r1,e▸r4⟩
end
end L2
set_option maxHeartbeats 2000000
namespace L2
open PySem PySem.Spec PyProof.Rows PySem.W
theorem zar8 {x y:Int×Int}:ltP x y=true↔x.1<y.1∨(x.1=y.1/\x.2<y.2):=by
 unfold ltP
 by_cases e:x.1=y.1
 ·rw[if_pos (beq_iff_eq.mpr e)]
  by_cases e2:x.2=y.2
  ·rw[if_pos (beq_iff_eq.mpr e2)]
   exact⟨(fun h=>by cases h),fun h=>by omega⟩
  ·rw[if_neg (fun h=>e2 (beq_iff_eq.mp h)),decide_eq_true_iff]
   exact⟨fun h=>.inr ⟨e,h⟩,fun h=>by omega⟩
 ·rw[if_neg (fun h=>e (beq_iff_eq.mp h)),decide_eq_true_iff]
  exact⟨fun h=>.inl h,fun h=>by omega⟩
theorem zaj5 {x y:Int×Int}:ltP x y=false↔¬ (x.1<y.1∨(x.1=y.1/\x.2<y.2)):=by
 rw[← zar8]
 cases ltP x y<;>simp
theorem ord_P (xs:Nat->Int×Int):Ord (fun i j=>ltP (xs i) (xs j)) where
 as:=fun i j h=>by
  have h:=zar8.mp h
  exact zaj5.mpr (by omega)
 tr:=fun i j k h1 h2=>by
  have h1:=zaj5.mp h1
  have h2:=zaj5.mp h2
  exact zaj5.mpr (by omega)
section
variable {prog:Program}{w:World}{A:Around}{E:Value->Shared->Prop}{s:Shared}
theorem zbw6 {D:Addr}{vs:List Value}{xs:Nat->Int×Int}{P:PySem.Fin->Shared->Prop}(ho:s.heap.get? D=some (seqObj "list" vs.toArray 0)) (h64:vs.length<64)
  (H:∀ i,i<vs.length->TupI s.heap (vs.getD i Value.none) (xs i))
  (h:∀ (p:List Nat) (c:Nat) (hF:Heap),p.Perm (List.range vs.length)->p.Pairwise (fun i j=>ltP (xs j) (xs i)=false)->(∀ b o,b≠D->s.heap.get? b=some o->hF.get? b=some o)->hF.get? D=some (seqObj "list" (List.toArray (p.map fun i=>vs.getD i Value.none)) c)->P (.done (.ret .none)) { s with heap:=hF }) :
  wpAny (model prog w) A (Builtin.«list.sort» ⟨[.ref D],[]⟩) P E s:=by
 by_cases h2:vs.length<2
 ·refine zcd0 ho h2 ?_
  obtain⟨c,hc⟩:=zaw5 (vs:=vs) (out:=vs.toArray) ho
  refine h (List.range vs.length) c _ (List.Perm.refl _) ?_ (fun b o ne e=>zan5 ne e) ?_
  ·have:vs.length=0∨vs.length=1:=by omega
   rcases this with e|e<;>rw[e]
   ·exact List.Pairwise.nil
   ·exact List.pairwise_singleton _ _
  ·rw[hc]
   have e:(List.range vs.length).map (fun i=>vs.getD i Value.none)=vs:=by
    apply zdg3 (by simp)
    intro i h1 h2
    simp at h1 h2
    simp[h2]
   rw[e]
 ·have old:∀ v,v∈vs->∃ i,i<vs.length/\vs.getD i Value.none=v:=fun v hv=>by
   obtain⟨i,hi,e⟩:=zdg2.mp hv
   exact⟨i,hi,by simp[hi,e]⟩
  have nD:∀ {v:Value}{x:Int×Int},TupI s.heap v x->TupI (midH s.heap D vs) v x:=fun {v x} z=>by
   obtain⟨a,o,t,u,n,e,e1,e2,e3⟩:=z
   refine⟨a,o,t,u,n,e,zbv3 (fun q=>?_) e1,e2,e3⟩
   rw[q,ho] at e1
   cases e1
   have e2':Value.type "list"=Value.type "tuple":=e2
   exact absurd e2' (by decide)
  refine zcm5 (κ:=tuples' true) (lt:=fun i j=>ltP (xs i) (xs j)) ho (by omega) h64 (fun Q q=>zbq8 (s:={ s with heap:=midH s.heap D vs }) (fun v hv=>?_) (by omega) q) (fun i j C li lj q=>zcq0 (s:={ s with heap:=midH s.heap D vs }) (nD (H i li)) (nD (H j lj)) q) (zcq9 (ord_P xs) (by omega)) fun p pz pR=>?_
  ·obtain⟨i,hi,rfl⟩:=old v hv
   exact⟨_,nD (H i hi)⟩
  ·obtain⟨c,hc⟩:=zaw5 (vs:=vs) (out:=List.toArray (p.toList.map fun i=>vs.getD i Value.none)) ho
   refine h p.toList c _ pR.1 ?_ (fun b o ne e=>zan5 ne e) hc
   rw[List.pairwise_iff_getElem]
   intro i j hi hj hij
   rw[Array.length_toList] at hi hj
   have:=pR.2 i j (Nat.le_of_lt hij) (by omega)
   unfold gp at this
   simpa [Array.getD,hi,hj] using this
theorem zbe1 {d:Addr}{es:Array DictEntry}{ep:Nat}{xs:Nat->Int×Int}{Q:Value->Shared->Prop}(lo:(d==sysModules)=false) (hh:A.handled=none) (x:RawD s.heap d es ep) (h64:es.size<64)
  (H:∀ i e,es[i]?=some e->TupI s.heap e.key (xs i))
  (h:∀ (h1 hF:Heap) (tk c:Nat) (p:List Nat) (vs:List Value),(∀ b o,s.heap.get? b=some o->h1.get? b=some o)->(∀ b o,h1.get? b=some o->hF.get? b=some o)->p.Perm (List.range es.size)->p.Pairwise (fun i j=>ltP (xs j) (xs i)=false)->vs=es.toList.map (·.key) ->
   hF.get? h1.objs.size=some (seqObj "list" (List.toArray (p.map fun i=>vs.getD i Value.none)) c)->Q (.ref h1.objs.size) { s with heap:=hF,toks:=tk }) :
  wpAny (model prog w) A (call (.builtin "sorted") [.ref d]) Q E s:=by
 have zl:es.size<=sizeLine:=by rw[sizeLine_eq];omega
 refine Calls.call_function_entry kind_sorted plain_sorted entry_sorted (args_sorted1 _) ?_
 unfold Builtin.«sorted»
 refine wpAny_bind (m:=checkCount "sorted" 1 1 _) (wpAny_pure (wpAny_bind (kdu_collect (A:=A.in1) (zco0 lo) hh x zl fun h1 tk acc k1 it=>?_)))
 have len:acc.toList.length=es.size:=by rw[Array.length_toList];exact it.1
 have ev:acc.toList=es.toList.map (·.key):=by
  apply zdg3 (by rw[len,zcy0,Array.length_toList])
  intro i a1 a2
  rw[Array.length_toList] at a1
  obtain⟨e,e1,e2⟩:=it.2 i acc[i] (by simp[a1])
  simp only[Array.getElem_toList,zdg4]
  rw[e2]
  obtain⟨q1,q2⟩:=Array.getElem?_eq_some_iff.mp e1
  rw[← q2]
 refine wpAny_bind (wpAny_newList ?_ (by rw[len];exact zl))
 have hD:(h1.push (seqObj "list" acc.toList.toArray 0)).get? h1.objs.size=some (seqObj "list" acc.toList.toArray 0):=zcz9 _ rfl
 show wpAny (model prog w) _ _ _ _ { s with heap:=h1.push (seqObj "list" acc.toList.toArray 0),toks:=tk }
 refine wpAny_bind (wpAny_holding (wpAny_call_entry slot_list_sort ⟨_,hD,rfl⟩ entry_list_sort (zbw6 (xs:=xs) (s:={ s with heap:=h1.push (seqObj "list" acc.toList.toArray 0),toks:=tk }) hD (by rw[len];exact h64) (fun i hi=>?_) fun p c hF pp po kF eF=>⟨_,rfl,?_⟩) (args_list_sort _)))
 ·rw[len] at hi
  have z:=(H i es[i] (by simp[hi])).to k1
  have e:acc.toList.getD i Value.none=es[i].key:=by rw[ev];simp[hi]
  rw[e]
  exact z.to fun b o q=>zcy5 _ q
 ·refine wpAny_pure ⟨_,rfl,h h1 hF tk c p acc.toList k1 (fun b o e=>kF b o (zda8 (zcz7 e)) (zcy5 _ e)) (by rw[← len];exact pp) po ev eF⟩
end
section
variable {X:Cx}{K:zcy1}
def OrdK (ks:List (Int×Int)):Prop:=ks.Nodup/\ks.Pairwise (fun x y=>ltP x y=true)
@[irreducible] def rSoO (a:Addr) (H:Hp) (Q:VK):Prop:=∃ kvs:List ((Int×Int)×V),H a=some (.dT (kvs.map fun z=>(pK z.1,z.2)))/\kvs.length<64 /\
 ∀ p H' (bs:List Addr) (ks:List (Int×Int)),H p=none->Same H H'->ks.Perm (kvs.map (·.1))->OrdK ks->Paired (fun b x=>H' b=some (.tup [.int x.1,.int x.2])) bs ks->H' p=some (.lst (bs.map V.ref))->Q (.ref p) H'
def rSoOM:List V->Hp->VK->Prop:=fun xs H Q=>match xs with
 | [.ref p]=>rSoO p H Q
 | _=>False
theorem soO_rd {a:Addr}{H:Hp}{Q:VK}{kvs:List ((Int×Int)×V)}(h:H a=some (.dT (kvs.map fun z=>(pK z.1,z.2)))) (hl:kvs.length<64)
  (q:∀ p H' (bs:List Addr) (ks:List (Int×Int)),H p=none->Same H H'->ks.Perm (kvs.map (·.1))->OrdK ks->Paired (fun b x=>H' b=some (.tup [.int x.1,.int x.2])) bs ks->H' p=some (.lst (bs.map V.ref))->Q (.ref p) H'):rSoO a H Q:=by unfold rSoO;exact⟨kvs,h,hl,q⟩
theorem zcm4 {ks:List (Int×Int)}(nd:ks.Nodup) (h:ks.Pairwise (fun x y=>ltP y x=false)):OrdK ks:=by
 refine⟨nd,?_⟩
 refine List.Pairwise.imp (fun {x y} z=>?_) (List.Pairwise.and nd h)
 have z2:=zaj5.mp z.2
 refine zar8.mpr ?_
 have ne:¬ (x.1=y.1/\x.2=y.2):=fun w=>z.1 (Prod.ext w.1 w.2)
 omega
theorem cSortO (hc:X.calm=true):zp4 X (.builtin "sorted") rSoOM:=fun pins s σ H xs us Q I r h=>by
 unfold rSoOM at h
 split at h
 ·rename_i p
  unfold rSoO at h
  obtain⟨kvs,h1,h2,h3⟩:=h
  obtain⟨u1,rfl,rx⟩:=zaa0 r
  cases rx
  obtain⟨zl,lo,ys,kt,o,es,ep,e1,e2,e3,e4,e5⟩:=dt_of I.hok h1
  have lk:ys.length=kvs.length:=by have:=Paired.length kt;rw[zcy0] at this;exact this.symm
  have le:es.size=kvs.length:=by rw[← Array.length_toList,e4,zcy0,lk]
  have at_:∀ i,(hi:i<kvs.length)->∃ b v,ys[i]?=some (pK kvs[i].1,b,v)/\H b=some (.tup [.int kvs[i].1.1,.int kvs[i].1.2]):=fun i hi=>by
   have hy:i<ys.length:=lk▸hi
   have z:=zav3 kt i (pK kvs[i].1,kvs[i].2) ys[i] (by simp[hi]) (by simp[hy])
   refine⟨ys[i].2.1,ys[i].2.2,?_,z.2.1⟩
   rw[zcx9 hy]
   have z1:pK kvs[i].1=ys[i].1:=z.1
   rw[z1]
  have ke:∀ i e,es[i]?=some e->∃ hi:i<kvs.length,∃ b v,ys[i]?=some (pK kvs[i].1,b,v)/\e.key=.ref b/\H b=some (.tup [.int kvs[i].1.1,.int kvs[i].1.2]):=fun i e q=>by
   obtain⟨q1,q2⟩:=Array.getElem?_eq_some_iff.mp q
   have hi:i<kvs.length:=le▸q1
   obtain⟨b,v,y1,y2⟩:=at_ i hi
   refine⟨hi,b,v,y1,?_,y2⟩
   rw[← Array.getElem?_toList,e4,zcy2,y1] at q
   simp only[Option.map_some,Option.some.injEq] at q
   rw[← q];rfl
  refine zbe1 (xs:=fun i=>((kvs.map (·.1))[i]?).getD (0,0)) lo (I.ok.hd hc) (d:=p) (es:=es) (ep:=ep) ⟨o,e1,e2,e3⟩ (by omega) (fun i e q=>?_) fun h' hF tk c pm vs k1 kF pp po ev eF=>?_
  ·obtain⟨hi,b,v,_,q2,q3⟩:=ke i e q
   obtain⟨_,its,rv,ob,b1,b2,n,b3⟩:=(show zg6 X.prog X.w H s.heap b (.tup [.int kvs[i].1.1,.int kvs[i].1.2]) from I.hok b _ q3)
   obtain⟨v1,v2,rfl,w1,w2⟩:=zbn2 rv
   obtain⟨t1,rfl⟩:=w1
   obtain⟨t2,rfl⟩:=w2
   have ex:((kvs.map (·.1))[i]?).getD (0,0)=kvs[i].1:=by simp[hi]
   rw[ex,q2]
   exact⟨b,ob,t1,t2,n,rfl,b1,b2,b3⟩
  ·have hp:p<s.heap.objs.size:=zcz7 e1
   have I1:Inv X pins σ H { s with heap:=h',toks:=tk }:=I.kept k1
   have fr:H h'.objs.size=none:=I1.fresh
   let as:List Addr:=pm.map fun i=>((ys[i]?).map (·.2.1)).getD 0
   have mem:∀ i,i∈pm->i<kvs.length:=fun i hi=>by have:=zdc0.mp (pp.mem_iff.mp hi);omega
   have vals:(pm.map fun i=>vs.getD i Value.none)=as.map Value.ref:=by
    rw[zda5]
    refine zda4 fun i hi=>?_
    have hi':=mem i hi
    have hes:i<es.size:=by omega
    obtain⟨_,b,v,y1,y2,_⟩:=ke i es[i] (by simp[hes])
    rw[ev]
    simp[hes,y1,y2]
   have rl:Vals (as.map V.ref) (as.map Value.ref):=by
    generalize as=l
    induction l with
    | nil=>exact .nil
    | cons a l ih=>exact .cons rfl ih
   have lz:as.length<=sizeLine:=by
    show (pm.map _).length<=_
    rw[zcy0,pp.length_eq,zda2,sizeLine_eq];omega
   refine⟨.ref _,_,I1.laid (h':=hF) (t':=tk) (o:=.lst (as.map V.ref)) kF (zcz6 _) ?_,rfl,h3 _ _ as (pm.map fun i=>((kvs.map (·.1))[i]?).getD (0,0)) fr (Same.upd fr) ?_ (zcm4 ?_ ?_) ?_ zc4⟩
   ·exact⟨by rw[zcy0];exact lz,as.map Value.ref,c,rl,by rw[eF,vals]⟩
   ·have e:(List.range kvs.length).map (fun i=>((kvs.map (·.1))[i]?).getD (0,0))=kvs.map (·.1):=by
     apply zdg3 (by simp)
     intro i a1 a2
     simp at a1
     simp[a1]
    have q:=(show pm.Perm (List.range kvs.length) from le▸pp).map fun i=>((kvs.map (·.1))[i]?).getD (0,0)
    rw[e] at q
    exact q
   ·have e:(List.range kvs.length).map (fun i=>((kvs.map (·.1))[i]?).getD (0,0))=kvs.map (·.1):=by
     apply zdg3 (by simp)
     intro i a1 a2
     simp at a1
     simp[a1]
    have q:=(show pm.Perm (List.range kvs.length) from le▸pp).map fun i=>((kvs.map (·.1))[i]?).getD (0,0)
    rw[e] at q
    refine q.nodup_iff.mpr ?_
    have nk:((kvs.map fun z=>(pK z.1,z.2)).map (·.1)).Nodup:=by
     have:(kvs.map fun z=>(pK z.1,z.2)).map (·.1)=ys.map (·.1):=by
      apply zdg3 (by rw[zcy0,zcy0,zcy0,lk])
      intro i a1 a2
      rw[zcy0,zcy0] at a1
      obtain⟨b,v,y1,_⟩:=at_ i a1
      have hy:i<ys.length:=lk▸a1
      rw[zcx9 hy] at y1
      simp only[zdg4]
      rw[Option.some.inj y1]
     rw[this];exact e5.2
    rw[zda5] at nk
    have:(kvs.map (Prod.fst∘fun z=>(pK z.1,z.2)))=(kvs.map (·.1)).map pK:=by rw[zda5];rfl
    rw[this] at nk
    exact List.Pairwise.of_map pK (fun a b h e=>h (by rw[e])) nk
   ·rw[List.pairwise_map]
    exact po
   ·refine zaw8 (by rw[zcy0,zcy0]) fun i a x q1 q2=>?_
    rw[zcy2] at q1 q2
    obtain⟨j,j1,j2⟩:=zcy6.mp q1
    rw[j1] at q2
    have hj:=mem j (zcy7 j1)
    obtain⟨b,v,y1,y2⟩:=at_ j hj
    rw[y1] at j2
    have j3:b=a:=j2
    have ex:kvs[j].1=x:=by simpa [hj] using q2
    rw[← j3,← ex]
    exact (Same.upd fr) b _ y2
 ·exact h.elim
end
end L2
set_option maxHeartbeats 4000000
namespace L2
open PySem PySem.Spec PyProof.Rows
section
variable {X:Cx}{K:zcy1}{H:Hp}{Q:VK}
def ExA (H:Hp) (e D:Addr):Prop:=H e=some (excO e (.ref D) none)∨∃ d fs,H e=some (excO e (.ref D) (some d))/\H d=some (.xd fs)
theorem ExA.same {H H':Hp}{e D:Addr}(x:ExA H e D) (s:Same H H'):ExA H' e D:=by
 rcases x with x|⟨d,fs,x,y⟩
 ·exact .inl (s _ _ x)
 ·exact .inr ⟨d,fs,s _ _ x,s _ _ y⟩
end
section
variable {X:Cx}{pins:List (Addr×Obj)}{σ:St}{H:Hp}{s:Shared}
end
end L2
set_option maxHeartbeats 4000000
namespace L2
open PySem PySem.Spec PyProof.Rows
mutual
inductive ShV (H:Hp):V->PyData->Prop
 | non:ShV H .non .none
 | bl (b:Bool):ShV H (.bl b) (.bool b)
 | int (i:Int):ShV H (.int i) (.int i)
 | str (x:Str):ShV H (.str x) (.str x)
 | lst {a:Addr}{xs:List V}{ds:List PyData}:H a=some (.lst xs)->ShL H xs ds->ShV H (.ref a) (.list ds)
 | tup {a:Addr}{xs:List V}{ds:List PyData}:H a=some (.tup xs)->ShL H xs ds->ShV H (.ref a) (.tuple ds)
inductive ShL (H:Hp):List V->List PyData->Prop
 | nil:ShL H [] []
 | cons {x:V}{d:PyData}{xs:List V}{ds:List PyData}:ShV H x d->ShL H xs ds->ShL H (x :: xs) (d :: ds)
end
section
variable {X:Cx}{pins:List (Addr×Obj)}{σ:St}{H H':Hp}{s:Shared}{Q:VK}
mutual
theorem ShV.same {v:V}{d:PyData}(h:ShV H v d) (k:Same H H'):ShV H' v d:=match h with
 | .non=>.non
 | .bl b=>.bl b
 | .int i=>.int i
 | .str x=>.str x
 | .lst e l=>.lst (k _ _ e) (l.same k)
 | .tup e l=>.tup (k _ _ e) (l.same k)
theorem ShL.same {xs:List V}{ds:List PyData}(h:ShL H xs ds) (k:Same H H'):ShL H' xs ds:=match h with
 | .nil=>.nil
 | .cons a b=>.cons (a.same k) (b.same k)
end
theorem ShL.len {xs:List V}{ds:List PyData}(h:ShL H xs ds):xs.length=ds.length:=match h with
 | .nil=>rfl
 | .cons _ b=>by rw[zdb6,zdb6,b.len]
mutual
theorem ShV.reads (I:Inv X pins σ H s) {v:V}{d:PyData}{u:Value}(h:ShV H v d) (r:RelV v u):∃ as,Reads s.heap u d as:=match h with
 | .non=>by cases (show u=Value.none from r);exact⟨_,.none⟩
 | .bl b=>by cases (show u=Value.bool b from r);exact⟨_,.bool b⟩
 | .int i=>by obtain⟨t,q⟩:=(show ∃ t,u=Value.int i t from r);cases q;exact⟨_,.int i t⟩
 | .str x=>by obtain⟨t,q⟩:=(show ∃ t,u=Value.str x t from r);cases q;exact⟨_,.str x t⟩
 | .lst (a:=a) (xs:=xs) e l=>by
  cases (show u=Value.ref a from r)
  obtain⟨_,us,n,rv,h1⟩:=(show zg6 X.prog X.w H s.heap a (.lst xs) from I.hok a _ e)
  obtain⟨as,ra⟩:=l.reads I rv
  exact⟨_,.list h1 rfl rfl (by simpa using ra)⟩
 | .tup (a:=a) (xs:=xs) e l=>by
  cases (show u=Value.ref a from r)
  obtain⟨_,us,rv,o,h1,h2,n,h3⟩:=(show zg6 X.prog X.w H s.heap a (.tup xs) from I.hok a _ e)
  obtain⟨as,ra⟩:=l.reads I rv
  exact⟨_,.tuple h1 h2 h3 (by simpa using ra)⟩
theorem ShL.reads (I:Inv X pins σ H s) {xs:List V}{ds:List PyData}{us:List Value}(h:ShL H xs ds) (r:Vals xs us):∃ as,ReadsAll s.heap us ds as:=match h,r with
 | .nil,.nil=>⟨_,.nil⟩
 | .cons a b,.cons r1 r2=>by
  obtain⟨as,ra⟩:=a.reads I r1
  obtain⟨bs,rb⟩:=b.reads I r2
  exact⟨_,.cons ra rb⟩
end
structure zu8 (d:PyData) (k m:Nat):Prop where
 ok:d.showable=true
 nd:d.hasDict=false
 dp:d.depth<=k
 ln:d.shown.length<=m
theorem zu8.up {d:PyData}{k m k' m':Nat}(h:zu8 d k m) (h1:k<=k') (h2:m<=m'):zu8 d k' m':=⟨h.ok,h.nd,zdb4 h.dp h1,zdb4 h.ln h2⟩
theorem zat3 {k m:Nat}:∀ {ds:List PyData},(∀ d∈ds,zu8 d k m)->PyData.showableAll ds=true/\PyData.hasDictAll ds=false/\PyData.depthAll ds<=k/\piled (PyData.shownAll ds)<=ds.length*(m+2)
 | [],_=>⟨rfl,rfl,zda6 _,by simp[PyData.shownAll,piled]⟩
 | d :: ds,h=>by
  have h0:=h d (.head _)
  obtain⟨a1,a2,a3,a4⟩:=zat3 (ds:=ds) fun x hx=>h x (.tail _ hx)
  refine⟨by simp[PyData.showableAll,h0.ok,a1],by simp[PyData.hasDictAll,h0.nd,a2],?_,?_⟩
  ·have:=h0.dp
   simp only[PyData.depthAll]
   omega
  ·have:=h0.ln
   simp only[PyData.shownAll,piled_cons,zdb6,Nat.succ_mul]
   omega
theorem zak0:∀ (ts:List Str) (k:Nat) (acc:Str),(textFrom k acc ts).length<=acc.length+piled ts
 | [],_,acc=>by simp[textFrom,piled]
 | t :: ts,k,acc=>by
  have ih:=zak0 ts (k+1) (acc++(if k>0 then ", " else "":String)++t)
  have e:(acc++(if k>0 then ", " else "":String)++t).length=acc.length+(if k>0 then 2 else 0)+t.length:=by
   rw[strLen_append,strLen_append]
   congr 2
   split<;>rfl
  rw[piled_cons]
  show (textFrom (k+1) _ ts).length<=_
  rw[e] at ih
  have e2:(if k>0 then 2 else 0)<=2:=by split<;>omega
  omega
theorem zu8.list {ds:List PyData}{k m:Nat}(h:∀ d∈ds,zu8 d k m):zu8 (.list ds) (k+1) (ds.length*(m+2)+2):=by
 obtain⟨a1,a2,a3,a4⟩:=zat3 h
 refine⟨by simpa [PyData.showable] using a1,by simpa [PyData.hasDict] using a2,by simp only[PyData.depth];omega,?_⟩
 have:=zak0 (PyData.shownAll ds) 0 "["
 have e1:((("[":String):Str)).length=1:=rfl
 have e2:((("]":String):Str)).length=1:=rfl
 simp only[PyData.shown,listText,strLen_append]
 omega
theorem zu8.tuple {ds:List PyData}{k m:Nat}(h:∀ d∈ds,zu8 d k m):zu8 (.tuple ds) (k+1) (ds.length*(m+2)+4):=by
 obtain⟨a1,a2,a3,a4⟩:=zat3 h
 refine⟨by simpa [PyData.showable] using a1,by simpa [PyData.hasDict] using a2,by simp only[PyData.depth];omega,?_⟩
 have e1:((("(":String):Str)).length=1:=rfl
 have e3:((if (PyData.shownAll ds).length==1 then ",)" else ")":String):Str).length<=2:=by split<;>decide
 have e4:(Str.join ", " (PyData.shownAll ds)).length<=piled (PyData.shownAll ds):=by
  by_cases z:PyData.shownAll ds=[]
  ·rw[z];decide
  ·have:=join_length_add _ z;omega
 simp only[PyData.shown,tupleText,strLen_append]
 omega
theorem zu8.int {i:Int}(h:-(10 ^ 100)<=i) (h':i<=10 ^ 100):zu8 (.int i) 0 1921:=by
 have hl:i.natAbs.log2<1920:=by
  by_cases z:i.natAbs=0
  ·rw[z];decide
  ·rw[Nat.log2_lt z]
   have h1:i.natAbs<=10 ^ 100:=by omega
   exact Nat.lt_of_le_of_lt h1 (by decide +kernel)
 exact⟨by simpa [PyData.showable] using hl,rfl,by simp[PyData.depth],by simpa only [PyData.shown] using PyProof.Rows.int_text_len_1921 hl⟩
theorem zu8.non:zu8 .none 0 4:=⟨rfl,rfl,by simp[PyData.depth],by decide⟩
theorem ShL.of {xs:List V}(f:V->PyData) (h:∀ x∈xs,ShV H x (f x)):ShL H xs (xs.map f):=by
 induction xs with
 | nil=>exact .nil
 | cons x xs ih=>exact .cons (h x (.head _)) (ih fun y hy=>h y (.tail _ hy))
end
end L2
set_option maxHeartbeats 4000000
namespace L2
open PySem PySem.Spec PyProof.Rows
mutual
def sml:PyData->Bool
 | .none | .bool _ | .int _ | .str _=>true
 | .list xs | .tuple xs=>decide (xs.length<=1000)&&zan3 xs
 | .dict _=>false
def zan3:List PyData->Bool
 | []=>true
 | x :: xs=>sml x&&zan3 xs
end
theorem zy7:∀ {ds:List PyData},(∀ d∈ds,sml d=true)->zan3 ds=true
 | [],_=>rfl
 | d :: ds,h=>by simp[zan3,h d (.head _),zy7 fun x hx=>h x (.tail _ hx)]
theorem zaf8:∀ {ds:List PyData},zan3 ds=true->∀ d∈ds,sml d=true
 | [],_,d,h=>by cases h
 | x :: ds,h,d,hd=>by
  simp only[zan3,zdb3] at h
  rcases zcz5.mp hd with rfl|hd
  ·exact h.1
  ·exact zaf8 h.2 d hd
section
variable {H H':Hp}{K:zcy1}{Q:VK}
theorem ShL.idx:∀ {xs:List V}{ds:List PyData},xs.length=ds.length->(∀ (i:Nat) x d,xs[i]?=some x->ds[i]?=some d->ShV H x d)->ShL H xs ds
 | [],[],_,_=>.nil
 | [],_ :: _,h,_=>by simp at h
 | _ :: _,[],h,_=>by simp at h
 | x :: xs,d :: ds,h,k=>.cons (k 0 x d rfl rfl) (ShL.idx (by simpa using h) fun i y e h1 h2=>k (i+1) y e (by simpa using h1) (by simpa using h2))
theorem ShL.get:∀ {xs:List V}{ds:List PyData}(_:ShL H xs ds) (i:Nat) (x:V),xs[i]?=some x->∃ d,ds[i]?=some d/\ShV H x d
 | _,_,.nil,i,x,e=>by simp at e
 | _,_,.cons a b,0,x,e=>by cases (show some _=some x from e);exact⟨_,rfl,a⟩
 | _,_,.cons a b,i+1,x,e=>by
  obtain⟨d,e1,e2⟩:=ShL.get b i x (by simpa using e)
  exact⟨d,by simpa using e1,e2⟩
theorem ShL.ex {P:PyData->Prop}:∀ {xs:List V},(∀ x∈xs,∃ d,ShV H x d/\P d)->∃ ds,ShL H xs ds/\∀ d∈ds,P d
 | [],_=>⟨[],.nil,fun _ h=>by cases h⟩
 | x :: xs,h=>by
  obtain⟨d,h1,h2⟩:=h x (.head _)
  obtain⟨ds,h3,h4⟩:=ShL.ex (xs:=xs) fun y hy=>h y (.tail _ hy)
  refine⟨d :: ds,.cons h1 h3,fun e he=>?_⟩
  rcases zcz5.mp he with rfl|he
  ·exact h2
  ·exact h4 e he
def Rda (H:Hp) (v:V) (k m:Nat):Prop:=∃ d,ShV H v d/\sml d=true/\zu8 d k m
theorem Rda.same {v:V}{k m:Nat}(h:Rda H v k m) (s:Same H H'):Rda H' v k m:=by obtain⟨d,h1,h2,h3⟩:=h;exact⟨d,h1.same s,h2,h3⟩
theorem Rda.up {v:V}{k m k' m':Nat}(h:Rda H v k m) (h1:k<=k':=by omega) (h2:m<=m':=by omega):Rda H v k' m':=by obtain⟨d,a,b,c⟩:=h;exact⟨d,a,b,c.up h1 h2⟩
theorem Rda.int {i:Int}(h:-(10 ^ 100)<=i) (h':i<=10 ^ 100):Rda H (.int i) 0 1921:=⟨_,.int i,rfl,zu8.int h h'⟩
theorem Rda.non:Rda H .non 0 1921:=⟨_,.non,rfl,zu8.non.up (by omega) (by omega)⟩
theorem Rda.lst {a:Addr}{xs:List V}{k m:Nat}(e:H a=some (.lst xs)) (l:xs.length<=1000) (h:∀ x∈xs,Rda H x k m):Rda H (.ref a) (k+1) (xs.length*(m+2)+4):=by
 obtain⟨ds,h1,h2⟩:=ShL.ex (P:=fun d=>sml d=true/\zu8 d k m) h
 have hl:=h1.len
 refine⟨.list ds,.lst e h1,?_,?_⟩
 ·simp only[sml,zdb3,decide_eq_true_eq]
  exact⟨by omega,zy7 fun d hd=>(h2 d hd).1⟩
 ·have:=zu8.list (ds:=ds) (k:=k) (m:=m) fun d hd=>(h2 d hd).2
  rw[hl]
  exact this.up (zcz6 _) (by omega)
theorem Rda.tup {a:Addr}{xs:List V}{k m:Nat}(e:H a=some (.tup xs)) (l:xs.length<=1000) (h:∀ x∈xs,Rda H x k m):Rda H (.ref a) (k+1) (xs.length*(m+2)+4):=by
 obtain⟨ds,h1,h2⟩:=ShL.ex (P:=fun d=>sml d=true/\zu8 d k m) h
 have hl:=h1.len
 refine⟨.tuple ds,.tup e h1,?_,?_⟩
 ·simp only[sml,zdb3,decide_eq_true_eq]
  exact⟨by omega,zy7 fun d hd=>(h2 d hd).1⟩
 ·have:=zu8.tuple (ds:=ds) (k:=k) (m:=m) fun d hd=>(h2 d hd).2
  rw[hl]
  exact this
def isD (n:String):PyData->Bool
 | .none=>false
 | .bool _=>n=="bool" || n=="int"
 | .int _=>n=="int"
 | .str _=>n=="str"
 | .list _=>n=="list"
 | .tuple _=>n=="tuple"
 | .dict _=>n=="dict"
theorem zz4 {v:V}{d:PyData}{n:String}(h:ShV H v d) (hn:n="int"∨n="bool"∨n="list"∨n="tuple") (q:Q (.bl (isD n d)) H):zab5 K v (.ty n) H Q:=by
 rcases hn with rfl|rfl|rfl|rfl<;>cases h
 all_goals first
  | exact zbs3 q (by rfl)
  | exact zap6 q (by rfl)
  | exact zar5 q (by rfl)
  | exact zbz2 q (by rfl)
  | (rename_i e l;exact zy8 e q (by rfl))
  | (rename_i e l;exact zx4 e q (by rfl))
end
theorem zv7 {X:Cx}{e:Expr}{te:TE}(h:PE X e te):PEI X e te:=by unfold PEI;exact h
end L2
set_option maxHeartbeats 4000000
namespace L2
open PySem PySem.Spec PyProof.Rows
section
variable {X:Cx}{K:zcy1}{H:Hp}{Q:VK}
@[irreducible] def rInA (K:zcy1) (neg:Bool) (x:V) (p:Addr) (H:Hp) (Q:VK):Prop:=∃ xs,(SqL K H p xs∨SqT K H p xs)/\zu0 x=true/\xs.all zu0=true/\Q (.bl (if neg then !inV x xs else inV x xs)) H
def rInM (K:zcy1) (neg:Bool):R2:=fun x y H Q=>match y with
 | .ref p=>rInA K neg x p H Q
 | _=>False
theorem zcq1 (hK:X.K=K):OpR X (compareOp .NotIn) (rInM K true):=by
 subst hK
 intro pins s σ H x y v u Q I rx ry h
 unfold rInM at h
 split at h
 ·unfold rInA at h
  obtain⟨xs,h1,h2,h3,h4⟩:=h
  exact zax2 pins s σ H _ _ v u Q I rx ry ⟨_,xs,rfl,h1,h2,h3,h4⟩
 ·exact h.elim
theorem zca6 {x:V}{p:Addr}{xs:List V}(h:SqT K H p xs) (h1:zu0 x=true) (h2:xs.all zu0=true) (q:Q (.bl (!inV x xs)) H):rInA K true x p H Q:=by unfold rInA;exact⟨xs,.inr h,h1,h2,q⟩
end
end L2
set_option maxHeartbeats 4000000
namespace L2
open PySem PySem.Spec PyProof.Rows PySem.W
section
variable {X:Cx}{K:zcy1}{H:Hp}{Q:VK}
@[irreducible] def rDNE (H:Hp) (Q:VK):Prop:=(∀ p H',H p=none->Same H H'->H' p=some (.dT [])->Q (.ref p) H')∨∀ p H',H p=none->Same H H'->H' p=some (.dK [])->Q (.ref p) H'
def tDNE:TE:=fun _ H Q=>rDNE H Q
theorem zbt4 {pos:Pos}:PE X (.Dict [] [] pos) tDNE:=fun pins s σ H Q I h=>by
 unfold tDNE rDNE at h
 rcases h with h|h
 ·exact zcb8 (pos:=pos) pins s σ H Q I fun p hp=>h p _ hp (Same.upd hp) zc4
 ·exact zce5 (pos:=pos) pins s σ H Q I fun p hp=>h p _ hp (Same.upd hp) zc4
theorem zck6 (q:∀ p H',H p=none->Same H H'->H' p=some (.dT [])->Q (.ref p) H'):rDNE H Q:=by unfold rDNE;exact .inl q
theorem dnK_rd (q:∀ p H',H p=none->Same H H'->H' p=some (.dK [])->Q (.ref p) H'):rDNE H Q:=by unfold rDNE;exact .inr q
theorem zcp3 {a:Addr}{P:Prop}{kvs:List (Key×V)}(e:H a=some (.dK kvs)) (p:P):rIsD a H P:=by unfold rIsD;exact⟨.inl ⟨kvs,.inl e⟩,p⟩
theorem zcq2 {a:Addr}{i:Int}{z:V}{kvs:List (Key×V)}(e:H a=some (.dK kvs)) (q:Q ((valV kvs (.inl i)).getD z) H):rDG2 a (.int i) z H Q:=by
 unfold rDG2
 exact⟨_,DGet.k (k:=.inl i) e,q⟩
theorem dpK_rd {a:Addr}{i:Int}{v:V}{N:Hp->Prop}{kvs:List (Key×V)}(e:H a=some (.dK kvs)) (hl:kvs.length<sizeLine) (q:∀ H',Chg a H H'->H' a=some (.dK (putK kvs (.inl i) v))->N H'):rDP a (.int i) v H N:=by
 unfold rDP
 exact⟨_,DPut.k (k:=.inl i) e hl,q _ Chg.upd zc4⟩
def dI (kv:List (Int×Int)):List (Key×V):=kv.map fun z=>(.inl z.1,.int z.2)
def valI (kv:List (Int×Int)) (i:Int):Option Int:=(kv.find? fun z=>decide (z.1=i)).map (·.2)
theorem zbx0 (i:Int):∀ kv:List (Int×Int),valV (dI kv) (.inl i)=(valI kv i).map V.int
 | []=>rfl
 | z :: kv=>by
  by_cases e:z.1=i
  ·show valV (((.inl z.1:Key),V.int z.2) :: dI kv) (.inl i)=_
   rw[zac5 (by exact congrArg Sum.inl e)]
   unfold valI
   rw[zdd6,decide_eq_true e];rfl
  ·show valV (((.inl z.1:Key),V.int z.2) :: dI kv) (.inl i)=_
   rw[zac3 (by exact fun q=>e (Sum.inl.inj q)),zbx0 i kv]
   unfold valI
   rw[zdd6,decide_eq_false e]
def eqDI (ka kb:List (Int×Int)):Bool:=ka.length==kb.length&&ka.all fun z=>valI kb z.1==some z.2
theorem zbe5 {A:Around}{s:Shared}{kb:List (Int×Int)}{ws:List (Key×Value)}(rb:KV (dI kb) ws):∀ {ka:List (Int×Int)}{vs:List (Key×Value)},KV (dI ka) vs->KeqHits A s ws vs (ka.all fun z=>valI kb z.1==some z.2)
 | [],vs,r=>by
  unfold KV dI at r
  cases r
  exact .nil
 | z :: ka,vs,r=>by
  unfold KV dI at r
  rw[zda7] at r
  cases r with
  | @cons p q ps qs h t=>
   obtain⟨h1,h2⟩:=h
   obtain⟨k,v⟩:=q
   cases (show (Sum.inl z.1:Key)=k from h1)
   have val:=rb.val (.inl z.1)
   rw[zbx0] at val
   rw[List.all_cons]
   cases e:valI kb z.1 with
   | none=>
    rw[e] at val
    have:valueAt ws (.inl z.1)=none:=by
     cases w:valueAt ws (.inl z.1) with
     | none=>rfl
     | some y=>rw[w] at val;exact val.elim
    have f:((none:Option Int)==some z.2)=false:=rfl
    rw[f,Bool.false_and]
    exact .miss this
   | some n=>
    rw[e] at val
    obtain⟨y,ey,ry⟩:∃ y,valueAt ws (.inl z.1)=some y/\RelV (.int n) y:=by
     cases w:valueAt ws (.inl z.1) with
     | none=>rw[w] at val;exact val.elim
     | some y=>rw[w] at val;exact⟨y,rfl,val⟩
    have q:=zbx6 (A:=A) (s:=s) (show RelV (.int z.2) v from h2) ry rfl rfl
    have e2:eqV (.int z.2) (.int n)=(some n==some z.2):=by
     by_cases d:z.2=n
     ·subst d;simp[eqV]
     ·have d':¬ n=z.2:=fun x=>d x.symm
      show (z.2==n)=(some n==some z.2)
      rw[beq_eq_false_iff_ne.mpr d]
      exact (beq_eq_false_iff_ne.mpr fun x=>d' (Option.some.inj x)).symm
    rw[e2] at q
    exact .hit ey q (zbe5 rb t)
@[irreducible] def rEqX (K:zcy1) (x y:V) (H:Hp) (Q:VK):Prop:=
 (∃ a b n c,x=.ref a/\y=.ref b/\n<=40/\EqR K H n (.ref a) (.ref b) c/\Q (.bl c) H) ∨
 (∃ a b ka kb,x=.ref a/\y=.ref b/\H a=some (.dK (dI ka))/\H b=some (.dK (dI kb))/\Q (.bl (eqDI ka kb)) H) ∨
 ∃ d e,ShV H x d/\ShV H y e/\d.canLay0=true/\e.canLay0=true/\d.depth<=40/\Q (.bl (PyData.eqv d e)) H
def zbm7 (K:zcy1):R2:=fun x y H Q=>match x,y with
 | .int i,.int j=>Q (.bl (decide (i=j))) H
 | .bl i,.bl j=>Q (.bl (decide (i=j))) H
 | .str i,.str j=>Q (.bl (decide (i=j))) H
 | x,y=>rEqX K x y H Q
def zca4 (K:zcy1):R2:=fun x y H Q=>zbm7 K x y H fun v H'=>match v with
 | .bl b=>Q (.bl (!b)) H'
 | _=>False
theorem oEqX (hu:X.A.units+40<cLine):OpR X (compareOp .Eq) (zbm7 X.K):=by
 intro pins s σ H x y v u Q I rx ry h
 unfold zbm7 at h
 split at h
 ·exact zbf5 pins s σ H _ _ v u Q I rx ry ⟨rfl,by rw[zr3 (f:=V.int) fun a b e=>V.int.inj e];exact h⟩
 ·exact zbf5 pins s σ H _ _ v u Q I rx ry ⟨rfl,by rw[zr3 (f:=V.bl) fun a b e=>V.bl.inj e];exact h⟩
 ·exact zbf5 pins s σ H _ _ v u Q I rx ry ⟨rfl,by rw[zr3 (f:=V.str) fun a b e=>V.str.inj e];exact h⟩
 ·unfold rEqX at h
  rcases h with ⟨a,b,n,c,rfl,rfl,hn,h1,h2⟩|⟨a,b,ka,kb,rfl,rfl,ea,eb,h⟩|⟨d,e,hd,he,cd,ce,dd,h⟩
  ·cases rx
   cases ry
   exact EqR.rc I h1 (A:=X.A) (by omega) _ _ _ _ ⟨.bl c,H,I,rfl,h2⟩
  ·cases rx
   cases ry
   obtain⟨_,sa,vs,ra,da⟩:=zbr5 I.hok ea
   obtain⟨_,sb,ws,rb,db⟩:=zbr5 I.hok eb
   refine keq_eq sa sb da db (by omega) (fun _=>zbe5 rb ra) ⟨.bl (eqDI ka kb),H,I,?_,h⟩
   have la:vs.length=ka.length:=by rw[← ra.length];unfold dI;rw[zcy0]
   have lb:ws.length=kb.length:=by rw[← rb.length];unfold dI;rw[zcy0]
   rw[la,lb]
   rfl
  ·obtain⟨as,r1⟩:=hd.reads I rx
   obtain⟨bs,r2⟩:=he.reads I ry
   exact SeqAt.compareEq_reads r1 r2 cd ce (by have:=Nat.min_le_left d.depth e.depth;omega) ⟨.bl (PyData.eqv d e),H,I,rfl,h⟩
theorem oNeX (hu:X.A.units+40<cLine):OpR X (compareOp .NotEq) (zca4 X.K):=by
 intro pins s σ H x y v u Q I rx ry h
 unfold zca4 zbm7 at h
 split at h
 ·exact zba6 pins s σ H _ _ v u Q I rx ry ⟨rfl,by rw[zr3 (f:=V.int) fun a b e=>V.int.inj e];exact h⟩
 ·exact zba6 pins s σ H _ _ v u Q I rx ry ⟨rfl,by rw[zr3 (f:=V.bl) fun a b e=>V.bl.inj e];exact h⟩
 ·exact zba6 pins s σ H _ _ v u Q I rx ry ⟨rfl,by rw[zr3 (f:=V.str) fun a b e=>V.str.inj e];exact h⟩
 ·unfold rEqX at h
  rcases h with ⟨a,b,n,c,rfl,rfl,hn,h1,h2⟩|⟨a,b,ka,kb,rfl,rfl,ea,eb,h⟩|⟨d,e,hd,he,cd,ce,dd,h⟩
  ·cases rx
   cases ry
   exact EqR.rcNe I h1 (A:=X.A) (by omega) _ _ _ _ ⟨.bl (!c),H,I,rfl,h2⟩
  ·cases rx
   cases ry
   obtain⟨_,sa,vs,ra,da⟩:=zbr5 I.hok ea
   obtain⟨_,sb,ws,rb,db⟩:=zbr5 I.hok eb
   refine keq_ne sa sb da db (by omega) (fun _=>zbe5 rb ra) ⟨.bl (!eqDI ka kb),H,I,?_,h⟩
   have la:vs.length=ka.length:=by rw[← ra.length];unfold dI;rw[zcy0]
   have lb:ws.length=kb.length:=by rw[← rb.length];unfold dI;rw[zcy0]
   rw[la,lb]
   rfl
  ·obtain⟨as,r1⟩:=hd.reads I rx
   obtain⟨bs,r2⟩:=he.reads I ry
   exact SeqAt.compareNe_reads r1 r2 cd ce (by have:=Nat.min_le_left d.depth e.depth;omega) ⟨.bl (!PyData.eqv d e),H,I,rfl,h⟩
theorem zbo8 {a b:Addr}{n:Nat}{c:Bool}(h:EqR K H n (.ref a) (.ref b) c) (q:Q (.bl c) H) (hn:n<=40:=by decide):rEqX K (.ref a) (.ref b) H Q:=by unfold rEqX;exact .inl ⟨a,b,n,c,rfl,rfl,hn,h,q⟩
theorem eqD_rd {a b:Addr}{ka kb:List (Int×Int)}(ea:H a=some (.dK (dI ka))) (eb:H b=some (.dK (dI kb))) (q:Q (.bl (eqDI ka kb)) H):rEqX K (.ref a) (.ref b) H Q:=by unfold rEqX;exact .inr (.inl ⟨a,b,ka,kb,rfl,rfl,ea,eb,q⟩)
theorem zbp7 {x y:V}{d e:PyData}(hd:ShV H x d) (he:ShV H y e) (cd:d.canLay0=true) (ce:e.canLay0=true) (dd:d.depth<=40) (q:Q (.bl (PyData.eqv d e)) H):rEqX K x y H Q:=by unfold rEqX;exact .inr (.inr ⟨d,e,hd,he,cd,ce,dd,q⟩)
end
end L2
set_option maxHeartbeats 4000000
namespace L2
open PySem PySem.Spec PyProof.Rows PySem.W
theorem zbr6 (l b:Addr) (x y:Int×Int) (t u t' u':Tok) (n n2:Nat) (dd dd2:Option Addr) (sl sl2:Array (Option Value)) :
  Meets (Builtin.«tuple.__lt__» ⟨[.ref l,.ref b],[]⟩)
   (fun A R s=>s.heap.get? l=some { cls:=.type "tuple",dict:=dd,data:=.seq #[.int x.1 t,.int x.2 u] n,slots:=sl }/\s.heap.get? b=some { cls:=.type "tuple",dict:=dd2,data:=.seq #[.int y.1 t',.int y.2 u'] n2,slots:=sl2 } /\
    R (.ok (.ret (.bool (ltP x y)))) s):=
 .of_wp fun prog w A R s h=>by
  obtain⟨hp,g,d,tk,os⟩:=s;obtain⟨hl,hb,h⟩:=h
  have f2:=AutoSeq1.sub_tuple_tuple
  wp_walk using wpAny_loadPart' hl,wpAny_loadPart' hb,wpAny_forIn_list _ (fun rest b s'=>b.1=none/\s'=⟨hp,g,d,tk,os⟩/\(rest=[(.int x.1 t,.int y.1 t'),(.int x.2 u,.int y.2 u')]∨(x.1=y.1/\rest=[(.int x.2 u,.int y.2 u')])∨(x.1=y.1/\x.2=y.2/\rest=[]))) _
  case turn=>
   rintro⟨p,q⟩ rest b s' ⟨hb',rfl,hz⟩
   rcases hz with hz|⟨e0,hz⟩|⟨_,_,hz⟩
   ·cases hz
    refine wpAny_bind (wpAny_eqBool_int ?_)
    cases e:(x.1==y.1)
    ·have h':R (Except.ok (Flow.ret (Value.bool (decide (x.1<y.1))))) ⟨hp,g,d,tk,os⟩:=by
      unfold ltP at h
      rw[if_neg (by rw[e];exact zcz0)] at h
      exact h
     simp only[Bool.not_false,if_true]
     refine wpAny_bind (wpAny_rule ?_)
     refine wpAny_bind ((lt_int (Q:=_) ?_:wpAny _ _ (compareOp .Lt _ _) _ _ _))
     wp_walk
     exact⟨_,rfl,h'⟩
    ·wp_walk
     exact⟨rfl,rfl,.inr (.inl ⟨by simpa using e,rfl⟩)⟩
   ·cases hz
    refine wpAny_bind (wpAny_eqBool_int ?_)
    cases e:(x.2==y.2)
    ·have h':R (Except.ok (Flow.ret (Value.bool (decide (x.2<y.2))))) ⟨hp,g,d,tk,os⟩:=by
      unfold ltP at h
      rw[if_pos (by rw[e0];exact beq_self_eq_true _),if_neg (by rw[e];exact zcz0)] at h
      exact h
     simp only[Bool.not_false,if_true]
     refine wpAny_bind (wpAny_rule ?_)
     refine wpAny_bind ((lt_int (Q:=_) ?_:wpAny _ _ (compareOp .Lt _ _) _ _ _))
     wp_walk
     exact⟨_,rfl,h'⟩
    ·wp_walk
     exact⟨rfl,rfl,.inr (.inr ⟨e0,by simpa using e,rfl⟩)⟩
   ·cases hz
  case fin=>
   rintro⟨b1,b2⟩ s' ⟨hb',rfl,hz⟩
   simp only at hb'
   subst hb'
   rcases hz with hz|⟨e0,hz⟩|⟨e0,e1,hz⟩
   ·cases hz
   ·cases hz
   ·have h':R (Except.ok (Flow.ret (Value.bool false))) ⟨hp,g,d,tk,os⟩:=by
     unfold ltP at h
     rw[if_pos (by rw[e0];exact beq_self_eq_true _),if_pos (by rw[e1];exact beq_self_eq_true _)] at h
     exact h
    wp_walk
    exact⟨_,rfl,h'⟩
  exact⟨rfl,rfl,.inl rfl⟩
section
variable {prog:Program}{w:World}{A:Around}{E:Value->Shared->Prop}{s:Shared}
theorem zch1 {v v':Value}{x y:Int×Int}{Q:Value->Shared->Prop}(ha:TupI s.heap v x) (hb:TupI s.heap v' y) (hu:A.units<cLine) (h:Q (.bool (ltP x y)) s):wpAny (model prog w) A (compareOp .Lt v v') Q E s:=by
 obtain⟨a,⟨cls,dd,data,sl⟩,t,u,n,rfl,ho,hc,hd⟩:=ha
 obtain⟨b,⟨cls2,dd2,data2,sl2⟩,t',u',n2,rfl,ho2,hc2,hd2⟩:=hb
 simp only at hc hd hc2 hd2
 subst hc hd hc2 hd2
 exact richCompare_meets_room (op:=.Lt) ⟨_,ho,rfl⟩ ⟨_,ho2,rfl⟩ F.slot_tuple_lt F.entry_tuple_lt (F.args_tuple_lt_2 _ _) (zbr6 a b x y t u t' u' n n2 dd dd2 sl sl2)
  ⟨ho,ho2,show Value.bool (ltP x y)≠Value.notImplemented/\Q (.bool (ltP x y)) s from ⟨(fun x=>nomatch x),h⟩⟩ hu
end
section
variable {X:Cx}{K:zcy1}{H:Hp}{Q:VK}
def pV (x:Int×Int):List V:=[.int x.1,.int x.2]
@[irreducible] def rLtA (a b:Addr) (H:Hp) (Q:VK):Prop:=∃ x y:Int×Int,H a=some (.tup (pV x))/\H b=some (.tup (pV y))/\Q (.bl (ltP x y)) H
def rLtXM:R2:=fun x y H Q=>match x,y with
 | .int i,.int j=>Q (.bl (decide (i<j))) H
 | .ref a,.ref b=>rLtA a b H Q
 | _,_=>False
theorem zbu1 {pins:List (Addr×Obj)}{σ:St}{H:Hp}{s:Shared}{a:Addr}{x:Int×Int}(I:Inv X pins σ H s) (h:H a=some (.tup (pV x))):TupI s.heap (.ref a) x:=by
 obtain⟨_,its,rv,o,h1,h2,n,h3⟩:=(show zg6 X.prog X.w H s.heap a (.tup (pV x)) from I.hok a _ h)
 unfold pV at rv
 cases rv with
 | cons r1 rv=>
  cases rv with
  | cons r2 rv=>
   cases rv
   obtain⟨t,rfl⟩:=r1
   obtain⟨u,rfl⟩:=r2
   exact⟨a,o,t,u,n,rfl,h1,h2,h3⟩
theorem oLtX (hu:X.A.units+40<cLine):OpR X (compareOp .Lt) rLtXM:=by
 intro pins s σ H x y v u Q I rx ry h
 unfold rLtXM at h
 split at h
 ·exact op_lt pins s σ H _ _ v u Q I rx ry ⟨_,_,rfl,rfl,h⟩
 ·unfold rLtA at h
  obtain⟨x,y,ea,eb,h⟩:=h
  cases rx
  cases ry
  exact zch1 (zbu1 I ea) (zbu1 I eb) (by omega) ⟨.bl (ltP x y),H,I,rfl,h⟩
 ·exact h.elim
theorem ltP_rd {a b:Addr}{x y:Int×Int}(ha:H a=some (.tup (pV x))) (hb:H b=some (.tup (pV y))) (q:Q (.bl (ltP x y)) H):rLtA a b H Q:=by unfold rLtA;exact⟨x,y,ha,hb,q⟩
@[irreducible] def rSlX (K:zcy1) (a:Addr) (lo hi:Option Int) (H:Hp) (Q:VK):Prop:=(∃ xs,SqL K H a xs/\∀ p H',H p=none->Same H H'->H' p=some (.lst (cutV xs lo hi))->Q (.ref p) H') ∨
 ∃ xs,SqT K H a xs/\¬ (HT.sIx xs.length 0 lo=0/\HT.sIx xs.length xs.length hi=xs.length)/\∀ p H',H p=none->Same H H'->H' p=some (.tup (cutV xs lo hi))->Q (.ref p) H'
def rSlXM (K:zcy1):V->Option Int->Option Int->Hp->VK->Prop:=fun x lo hi H Q=>match x with
 | .ref a=>rSlX K a lo hi H Q
 | _=>False
theorem slX:SlR X (rSlXM X.K):=by
 intro pins s σ H x v vl vu lo hi sl Q I rx hs pl pu h
 unfold rSlXM at h
 split at h
 ·unfold rSlX at h
  rcases h with ⟨xs,h1,q⟩|⟨xs,h1,h2,q⟩
  ·exact zcr6 pins s σ H _ v vl vu lo hi sl Q I rx hs pl pu ⟨_,xs,rfl,h1,fun p hp=>q p _ hp (Same.upd hp) zc4⟩
  ·exact sl_tup pins s σ H _ v vl vu lo hi sl Q I rx hs pl pu ⟨_,xs,rfl,h1,h2,fun p hp=>q p _ hp (Same.upd hp) zc4⟩
 ·exact h.elim
theorem zaj7 {a:Addr}{xs:List V}{lo hi:Option Int}(h:SqL K H a xs) (q:∀ p H',H p=none->Same H H'->H' p=some (.lst (cutV xs lo hi))->Q (.ref p) H'):rSlX K a lo hi H Q:=by unfold rSlX;exact .inl ⟨xs,h,q⟩
theorem zck7 {a:Addr}{x y z:V}(h:H a=some (.tup [x,y,z])) (q:∀ p H',H p=none->Same H H'->H' p=some (.tup [x,y])->Q (.ref p) H'):rSlX K a none (some 2) H Q:=by
 unfold rSlX
 exact .inr ⟨[x,y,z],SqT.of h,(by decide:¬ (HT.sIx 3 0 none=0/\HT.sIx 3 3 (some 2)=3)),q⟩
theorem zaf3 (hK:X.K=K) (hu:X.A.units+40<cLine):OpR X (compareOp .Eq) (zbm7 K):=by subst hK;exact oEqX hu
theorem zae5 (hK:X.K=K) (hu:X.A.units+40<cLine):OpR X (compareOp .NotEq) (zca4 K):=by subst hK;exact oNeX hu
theorem slXK (hK:X.K=K):SlR X (rSlXM K):=by subst hK;exact slX
def rIsXM:R2:=fun x y H Q=>match x,y with
 | .bl i,.bl j=>Q (.bl (decide (i=j))) H
 | x,.non=>Q (.bl (decide (x=.non))) H
 | _,_=>False
def zbh4:R2:=fun x y H Q=>match x,y with
 | .bl i,.bl j=>Q (.bl (!decide (i=j))) H
 | x,.non=>Q (.bl (!decide (x=.non))) H
 | _,_=>False
theorem zao5 (i j:Bool):isSame (.bool i) (.bool j)=pure (decide (i=j)):=by cases i<;>cases j<;>rfl
theorem oIsX:OpR X (compareOp .Is) rIsXM:=by
 intro pins s σ H x y v u Q I rx ry h
 unfold rIsXM at h
 split at h
 ·rename_i i j
  cases (show v=Value.bool i from rx)
  cases (show u=Value.bool j from ry)
  show wpAny _ _ (isSame (.bool i) (.bool j) >>= fun b=>pure (Value.bool b)) _ _ s
  rw[zao5]
  exact wpAny_bind (wpAny_pure (wpAny_pure ⟨.bl (decide (i=j)),H,I,rfl,h⟩))
 ·exact op_isN pins s σ H _ _ v u Q I rx ry ⟨rfl,h⟩
 ·exact h.elim
theorem zco5:OpR X (compareOp .IsNot) zbh4:=by
 intro pins s σ H x y v u Q I rx ry h
 unfold zbh4 at h
 split at h
 ·rename_i i j
  cases (show v=Value.bool i from rx)
  cases (show u=Value.bool j from ry)
  show wpAny _ _ (isSame (.bool i) (.bool j) >>= fun b=>pure (Value.bool (!b))) _ _ s
  rw[zao5]
  exact wpAny_bind (wpAny_pure (wpAny_pure ⟨.bl (!decide (i=j)),H,I,rfl,h⟩))
 ·exact zco1 pins s σ H _ _ v u Q I rx ry ⟨rfl,h⟩
 ·exact h.elim
theorem Wk.zipN {a b:Addr}{xs ys:List V}{n:Nat}{H1:Hp}(h:SqL K H1 a xs) (h':SqL K H1 b ys) (hx:n<=xs.length) (hy:n<=ys.length) (hn:xs.length=n∨ys.length=n):Wk (Itz K a b) n H1 fun i v H=>∃ p x y,v=.ref p/\H p=some (.tup [x,y])/\xs[i]?=some x/\ys[i]?=some y:=
 ⟨fun i H s hi=>⟨xs,ys,xs[i],ys[i],s.seq h,s.seq h',by simp,by simp⟩,fun H s=>⟨xs,ys,s.seq h,s.seq h',by omega⟩,fun i H v H' s _ y=>by
  obtain⟨p,x,y,rfl,y1,y2,y3,y4,y5⟩:=y
  exact⟨y2,p,x,y,rfl,y3,y4 xs (s.seq h),y5 ys (s.seq h')⟩⟩
end
end L2
set_option maxHeartbeats 4000000
namespace L2
open PySem PySem.Spec PyProof.Rows PySem.W
section
variable {X:Cx}
end
section
variable {X:Cx}{K:zcy1}{H:Hp}{Q:VK}
end
end L2
set_option maxHeartbeats 2000000
namespace L2
open PySem PySem.Spec PyProof.Rows
section
variable {X:Cx}{K:zcy1}
end
end L2
set_option maxHeartbeats 4000000
namespace L2
open PySem PySem.Spec PyProof.Rows PySem.W
section
variable {prog:Program}{w:World}{A:Around}{E:Value->Shared->Prop}{s:Shared}
end
section
variable {X:Cx}{K:zcy1}{H:Hp}{Q:VK}
end
end L2
namespace L2
end L2
set_option maxHeartbeats 2000000
namespace L2
open PySem PySem.Spec PyProof.Rows PySem.W
section
variable {X:Cx}{K:zcy1}
@[irreducible] def rMaxL (K:zcy1) (p:Addr) (H:Hp) (Q:VK):Prop:=∃ ns:List Int,SqL K H p (ns.map V.int)/\0<ns.length/\∀ M:Int,M∈ns->(∀ a∈ns,a<=M)->Q (.int M) H
def zck0 (K:zcy1):List V->Hp->VK->Prop:=fun xs H Q=>match xs with
 | [.ref p]=>rMaxL K p H Q
 | [.int i,.int j]=>Q (.int (if j>i then j else i)) H
 | _=>False
theorem cMaxK (hK:X.K=K) (hc:X.calm=true):zp4 X (.builtin "max") (zck0 K):=by
 subst hK
 intro pins s σ H xs us Q I r h
 unfold zck0 at h
 split at h
 ·unfold rMaxL at h
  obtain⟨ns,h1,h2,h3⟩:=h
  obtain⟨u,rfl,rx⟩:=zaa0 r
  cases rx
  obtain⟨its,r',pl,hz⟩:=I.list h1
  have hi:=zag3 r'
  obtain⟨ys,hx⟩:=hi.allInts.items
  have e1:ns=ys.toList.map (·.1):=by
   rw[← nums_intItems,← hx]
   exact (show numsOf its.toArray.toList=ns from hi.numsOf).symm
  have hs:0<ys.size:=by
   have z:ns.length=ys.size:=by
    conv=>lhs;rw[e1]
    rw[zcy0,Array.length_toList]
   omega
  have hl':s.heap.IsList _ (intItems ys):=hx▸pl.isList
  refine max_intList (I.ok.hd hc) hl' hs fun v h' tk hv hk=>?_
  obtain⟨t,rfl⟩:=intItems_at hv
  have best:=argBest_gt (numAt ys) (ys.size - 1)
  refine⟨.int _,H,I.kept hk,⟨t,rfl⟩,h3 _ ?_ fun a ha=>?_⟩
  ·rw[e1,numAt_eq]
   exact getD_mem (by rw[zcy0,Array.length_toList];omega)
  ·rw[e1] at ha
   obtain⟨j,hj,rfl⟩:=mem_getD ha
   rw[zcy0,Array.length_toList] at hj
   rw[← numAt_eq]
   exact best.2 j (by omega)
 ·exact zcb2 hc pins s σ H _ us Q I r ⟨_,_,rfl,h⟩
 ·exact h.elim
theorem zbb0 {p:Addr}{H:Hp}{Q:VK}{ns:List Int}(h:SqL K H p (ns.map V.int)) (h0:0<ns.length) (q:∀ M:Int,M∈ns->(∀ a∈ns,a<=M)->Q (.int M) H):rMaxL K p H Q:=by unfold rMaxL;exact⟨ns,h,h0,q⟩
end
section
variable {prog:Program}{w:World}{A:Around}{E:Value->Shared->Prop}{s:Shared}
end
section
variable {X:Cx}{K:zcy1}{tg:Expr}
end
end L2
set_option maxHeartbeats 2000000
namespace L2
open PySem PySem.Spec PyProof.Rows PySem.W
section
variable {X:Cx}{K:zcy1}
end
section
variable {K:zcy1}{g:TG}{tt:TT}{te:TE}{σ0:St}{H1:Hp}{Q:VK}
end
end L2
set_option maxHeartbeats 2000000
namespace L2
open PySem PySem.Spec PyProof.Rows PySem.W
def Itv (K:zcy1) (a:Addr) (n:Nat):It:=
 ⟨fun i H=>i<n/\∃ xs,SqL K H a xs/\xs.length=n,fun i H x H'=>H'=H/\∀ xs,SqL K H a xs->xs[n - 1 - i]?=some x,fun i H=>n<=i⟩
theorem zch8 {P:Program}{w:World}{K:zcy1}{tg:Expr}(a it:Addr) (n:Nat):Turn P w K tg (Itv K a n) [it] it (fun i h=>i<=n/\h.IsRevIter it a ((n:Int) - 1 - (i:Nat))) where
 mem:=by simp
 obj:=fun i h st b hb=>by
  have e:b=it:=by simpa using hb
  subst e
  obtain⟨o,e,c,d⟩:=st.2
  exact⟨o,e,fun v z=>by rw[d] at z;cases z⟩
 keep:=fun i h h' st k=>⟨st.1,st.2.at fun o e=>k it (by simp) o e⟩
 item:=by
  intro X hP hw hK hc i pins s σ H E I hf st hg
  subst hP hw hK
  obtain⟨hi,xs,hq,hl⟩:=hg
  obtain⟨x,hx⟩:∃ x,xs[n - 1 - i]?=some x:=⟨_,zcx9 (by omega)⟩
  obtain⟨its,rv,p,hz⟩:=I.list hq
  obtain⟨u,hu,ru⟩:=rv.get hx
  obtain⟨f0,f1,f2,f3,f4,f5⟩:=hf it (by simp)
  have st2:s.heap.IsRevIter it a ((n - 1 - i:Nat):Int):=by
   have:=st.2
   rwa [show (n:Int) - 1 - (i:Nat)=((n - 1 - i:Nat):Int) by omega] at this
  refine wpAny_pyNext_rev_item st2 p.isList (x:=u) (by simpa using hu) fun h' st' sb=>?_
  have I1:Inv X pins σ H { s with heap:=h' }:=I.turned (t':=s.toks) (fun b o hb e=>(sb.2 b hb).trans e) f0 f1 f3 f4 f5
  obtain⟨o,e,c,d⟩:=id st'
  exact⟨u,rfl,go_of (s:={ s with heap:=h' }) e c d (by decide) ⟨x,H,I1,ru,⟨rfl,fun ys hy=>by rw[I.list_inj hy hq];exact hx⟩,⟨by omega,by rw[show (n:Int) - 1 - ((i+1:Nat):Int)=((n - 1 - i:Nat):Int) - 1 by omega];exact st'⟩,fun b hb=>(hf b hb).1⟩⟩
 done:=by
  intro X hP hw hK hc i pins s σ H E I hf st hg
  subst hP hw hK
  have hg:n<=i:=hg
  obtain⟨f0,f1,f2,f3,f4,f5⟩:=hf it (by simp)
  have st2:s.heap.IsRevIter it a (-1):=by
   have:=st.2
   have h1:=st.1
   rwa [show (n:Int) - 1 - (i:Nat)=-1 by omega] at this
  exact wpAny_pyNext_rev_end (I.ok.hd hc) st2 fun h' eb=>⟨rfl,I.turned (t':=s.toks) (fun b o hb e=>eb b o hb e) f0 f1 f3 f4 f5⟩
 self:=fun _ _ _ _ _ st h=>wpAny_pyIter_revIter st.2 h
section
variable {X:Cx}{K:zcy1}{tg:Expr}
@[irreducible] def rRevL (K:zcy1) (a:Addr) (H:Hp) (R:It->Hp->Prop):Prop:=∃ xs,SqL K H a xs/\R (Itv K a xs.length) H
def qiRevL (K:zcy1) (ta:TA):TI:=fun σ H R=>ta σ H fun vs H1=>match vs with
 | [.ref a]=>rRevL K a H1 R
 | _=>False
theorem piRevL {e:Expr}{ta:TA}{p pos:Pos}(hK:X.K=K) (hl:X.mg "reversed"=none) (ha:PA X [e] ta) (hg:Gl X "reversed":=by rfl) (hs:starEach [e] X.env=[(false,eval e X.env)]:=by rfl) :
  PI X tg (.Call (.Name "reversed" p) [e] [] pos) (qiRevL K ta):=by
 subst hK
 intro pins s σ H R I h
 refine Call_ (zx1 I hg hl boot_reversed (PyProof.Rows.callWith_type1 (thn (ha pos pins s σ H _ I h) fun us s1 ⟨vs,H1,I1,r1,q1⟩=>?_) hs rfl))
 dsimp only at q1
 split at q1
 ·rename_i a
  unfold rRevL at q1
  obtain⟨xs,hq,q⟩:=q1
  obtain⟨u,rfl,rx⟩:=zaa0 r1
  cases rx
  obtain⟨its,rv,pl,hz⟩:=I1.list hq
  have hl:=rv.length
  refine call_reversed_list pl.isList ?_
  have I2:Inv X pins σ H1 { s1 with heap:=s1.heap.push (revObj a ((its.toArray.size:Int) - 1)) }:=I1.kept (t':=s1.toks) fun b o e=>zcy5 _ e
  have st:(s1.heap.push (revObj a ((its.toArray.size:Int) - 1))).IsRevIter s1.heap.objs.size a ((its.toArray.size:Int) - 1):=⟨_,zcz9 _ rfl,rfl,rfl⟩
  refine wpAny_pyIter_revIter st ?_
  refine⟨s1.heap.objs.size,[s1.heap.objs.size],_,_,H1,rfl,I2,zch8 a _ xs.length,⟨zda6 _,?_⟩,fun b hb=>?_,q⟩
  ·rw[show ((xs.length:Nat):Int) - 1 - ((0:Nat):Int)=(its.toArray.size:Int) - 1 by rw[zcy8];omega]
   exact st
  ·have e:b=s1.heap.objs.size:=by simpa using hb
   subst e
   exact I1.fpOk (zcz6 _) (I1.hok.fresh (zcz6 _))
 ·exact q1.elim
theorem zcm1 {a:Addr}{xs:List V}{H:Hp}{R:It->Hp->Prop}(h:SqL K H a xs) (q:R (Itv K a xs.length) H):rRevL K a H R:=by unfold rRevL;exact⟨xs,h,q⟩
end
section
variable {K:zcy1}{g:TG}{tb:TS}{D:Ends}{σ:St}{H:Hp}
theorem zcd8 {a:Addr}{xs:List V}(Pv:Nat->St->Hp->Prop) (h0:Pv 0 σ H) (hl:∀ i σ H,i<=xs.length->Pv i σ H->SqL K H a xs)
  (hs:∀ i x σ H,i<xs.length->xs[xs.length - 1 - i]?=some x->Pv i σ H->g x σ H fun σ2 H2=>tb { D with nx:=Pv (i+1),ct:=Pv (i+1),bk:=D.nx } σ2 H2) (hd:∀ σ H,Pv xs.length σ H->D.nx σ H):zac7 (Itv K a xs.length) g tb D σ H:=by
 unfold zac7
 refine⟨fun i m σ H=>m=xs.length - i/\i<=xs.length/\Pv i σ H,⟨xs.length,by simp,zda6 _,h0⟩,?_⟩
 rintro i m σ H ⟨rfl,hi',p⟩
 by_cases hlt:i<xs.length
 ·refine .inr ⟨⟨hlt,xs,hl i σ H hi' p,rfl⟩,Pv (i+1),fun σ' H' p'=>⟨xs.length - (i+1),by omega,rfl,hlt,p'⟩,fun x H' y=>?_⟩
  obtain⟨e,y⟩:=y
  subst e
  exact hs i x σ _ hlt (y xs (hl i σ _ hi' p)) p
 ·have e:i=xs.length:=by omega
  subst e
  exact .inl ⟨zcz6 _,hd σ H p⟩
end
end L2
set_option maxHeartbeats 2000000
namespace L2
open PySem PySem.Spec PyProof.Rows PySem.W
theorem zbw9:typeLookup (.type "list_reverseiterator") "__len__"=pure none:=by rw[typeLookup_type,builtinLookup_eq_fast];kernel_rfl
theorem zch3:typeLookup (.type "list_reverseiterator") "__length_hint__"=pure (some (.builtin "list_reverseiterator.__length_hint__")):=by rw[typeLookup_type,builtinLookup_eq_fast];kernel_rfl
section
variable {prog:Program}{w:World}{A:Around}{E:Value->Shared->Prop}{s:Shared}
theorem zbm0 {R:Result->Shared->Prop}{I l S:Addr}{items:Array Value}(hh:A.handled=none) (hit:s.heap.IsRevIter I l ((items.size:Int) - 1)) (hl:s.heap.IsList l items) (hne:l≠I) (hSI:S≠I) (hSl:S≠l) (res:Value) (c₀:Nat) (hS:s.heap.get? S=some { cls:=.type "list",data:=.seq #[] c₀ }) (hn:items.size<=sizeLine)
  (hR:∀ h' tk acc' c',(∀ b o,b≠S->b≠I->s.heap.get? b=some o->h'.get? b=some o)->h'.get? S=some { cls:=.type "list",dict:=none,data:=.seq acc' c',slots:=#[] }->ItemsOf (fun i v=>items[items.size - 1 - i]?=some v) acc' items.size->R (.ok (.ret res)) { s with heap:=h',toks:=tk }) :
  wpAny (model prog w) A.in1 (Builtin.List.listExtendWith (.ref S) (.ref I) res)
   (fun fin s'=>match fin with|.done f=>R (.ok f) s' | .again c'=>c'.quiet=true/\codeAny (model prog w) A c' R s') (fun e s'=>R (.error e) s') s:=by
 have W:=(Walks.listRev (prog:=prog) (w:=w) (A:=A.in1) hh I l hne items).toS
 have hSf:S ∉ [I,l]:=fun hm=>by
  rcases zcz5.mp hm with e|hm
  ·exact hSI e
  ·exact hSl (zdb2.mp hm)
 have h1:Builtin.List.listSameRef (.ref S) (.ref I)=false:=by simp[Builtin.List.listSameRef,hSI]
 unfold Builtin.List.listExtendWith
 refine wpAny_bind (wpAny_typeOf hit.typeIs ?_)
 rw[if_neg (by rw[h1];decide)]
 refine wpAny_bind (wpAny_pyIter_revIter hit ?_)
 refine wpAny_bind (wpAny_holding ?_)
 unfold Builtin.List.listLengthHint
 refine wpAny_bind (wpAny_specialOf hit.typeIs zbw9 ?_)
 show wpAny _ A.in1 (specialOf (Value.ref I) (Str.ofString "__length_hint__") >>= _) _ _ _
 refine wpAny_bind (wpAny_specialOf hit.typeIs zch3 ?_)
 (generalize hid:("list_reverseiterator.__length_hint__":String)=id0;(fail_if_success (clear hid id0));wp_delta;rw[show splitId id0=some ("list_reverseiterator","__length_hint__") from by subst hid;decide +kernel];subst hid)
 refine wpAny_bind (wpAny_isInstance (b:=true) hit.typeIs (by rw[isSubtype_type];kernel_rfl) ?_)
 refine wpAny_pure ?_
 rw[if_neg (by decide)]
 refine wpAny_pure ⟨plainId_quiet F.plain_extend_loop _,codeAny_extend_loopS W hn S hSf res items.size 0 _ _ _ rfl (zda6 _) ⟨zda6 _,?_,hl⟩ hS (ItemsOf.nil _) fun s' acc' c' hm hS' hacc=>?_⟩
 ·show s.heap.IsRevIter I l ((items.size:Int) - 1 - ((0:Nat):Int))
  rw[show (items.size:Int) - 1 - ((0:Nat):Int)=(items.size:Int) - 1 by omega]
  exact hit
 ·rw[Moved.eq_with hm]
  refine hR s'.heap s'.toks acc' c' (fun b o hb hb2 e=>hm.heap b o (fun hmem=>?_) e) hS' hacc
  rcases zcz5.mp hmem with e' | hmem
  ·exact hb e'
  ·exact hb2 (zdb2.mp hmem)
theorem zas4 {R:Result->Shared->Prop}{I l S:Addr}{items:Array Value}(hh:A.handled=none) (hit:s.heap.IsRevIter I l ((items.size:Int) - 1)) (hl:s.heap.IsList l items) (hne:l≠I) (hSI:S≠I) (hSl:S≠l) (hS:s.heap.get? S=some { cls:=.type "list",data:=.seq #[] }) (hn:items.size<=sizeLine)
  (hR:∀ h' tk acc' c',(∀ b o,b≠S->b≠I->s.heap.get? b=some o->h'.get? b=some o)->h'.get? S=some { cls:=.type "list",dict:=none,data:=.seq acc' c',slots:=#[] }->ItemsOf (fun i v=>items[items.size - 1 - i]?=some v) acc' items.size->R (.ok (.ret .none)) { s with heap:=h',toks:=tk }) :
  wpAny (model prog w) A.in1 (Builtin.«list.__init__» ⟨[.ref S,.ref I],[]⟩)
   (fun fin s'=>match fin with|.done f=>R (.ok f) s' | .again c'=>c'.quiet=true/\codeAny (model prog w) A c' R s') (fun e s'=>R (.error e) s') s:=by
 show wpAny _ _ (do let old ← Builtin.List.listItems (.ref S);Builtin.List.listUpdate (.ref S) (fun _=>#[]);letGo old.toList.reverse;Builtin.List.listExtendWith (.ref S) (.ref I) .none) _ _ s
 refine wpAny_bind ?_
 unfold Builtin.List.listItems
 refine wpAny_bind (wpAny_seqItems hS rfl (wpAny_pure ?_))
 show wpAny _ _ (updateSeq S (fun _=>#[]) >>= fun _=>letGo (#[]:Array Value).toList.reverse >>= fun _=>Builtin.List.listExtendWith (.ref S) (.ref I) .none) _ _ s
 refine wpAny_bind (wpAny_updateSeq hS rfl ?_)
 have hS₂:=Heap.get?_update_self (Obj.mapSeq (fun _=>(#[]:Array Value))) hS rfl
 have oth:∀ b o,b≠S->s.heap.get? b=some o->(s.heap.update S (Obj.mapSeq (fun _=>(#[]:Array Value)))).get? b=some o:=
  fun b o hb e=>(Heap.get?_update_other _ _ (Ne.symm hb)).trans e
 refine wpAny_bind (wpAny_letGo ?_)
 refine zbm0 hh (hit.at fun o e=>oth I o (Ne.symm hSI) e) (hl.at fun o e=>oth l o (Ne.symm hSl) e) hne hSI hSl .none _ hS₂ hn fun h' tk acc' c' hk hS' hacc=>?_
 exact hR h' tk acc' c' (fun b o hb hb2 e=>hk b o hb hb2 (oth b o hb e)) hS' hacc
theorem zas3 {I l:Addr}{items:Array Value}{Q:Value->Shared->Prop}(hh:A.handled=none) (hit:s.heap.IsRevIter I l ((items.size:Int) - 1)) (hl:s.heap.IsList l items) (hne:l≠I) (hn:items.size<=sizeLine)
  (hQ:∀ h' tk acc' c',(∀ b o,b≠I->s.heap.get? b=some o->h'.get? b=some o)->h'.get? s.heap.objs.size=some { cls:=.type "list",dict:=none,data:=.seq acc' c',slots:=#[] }->ItemsOf (fun i v=>items[items.size - 1 - i]?=some v) acc' items.size->Q (.ref s.heap.objs.size) { s with heap:=h',toks:=tk }) :
  wpAny (model prog w) A (call (.type "list") [.ref I]) Q E s:=by
 obtain⟨oI,hI,_⟩:=id hit
 obtain⟨ol,hol,_⟩:=id hl
 refine callType_codes (Q₁:=fun obj s₁=>obj=.ref s.heap.objs.size/\s₁={ s with heap:=s.heap.push { cls:=.type "list",data:=.seq #[] } }) F.called_list (F.typeCall_list_1 _) F.entry_list_init
  (code_list_new _ ⟨rfl,rfl⟩) fun obj s₁ h₁=>?_
 obtain⟨rfl,rfl⟩:=h₁
 have hS:(s.heap.push { cls:=.type "list",data:=.seq #[] }).get? s.heap.objs.size=some { cls:=.type "list",data:=.seq #[] }:=zcz9 _ rfl
 refine⟨⟨_,hS,rfl⟩,F.args_list_init_2 _ _,zas4 (A:=A.in1) hh (hit.at fun o e=>zcy5 _ e) (hl.at fun o e=>zcy5 _ e) hne (Ne.symm (zda8 (zcz7 hI))) (Ne.symm (zda8 (zcz7 hol))) hS hn fun h' tk acc' c' hk hS' hacc=>?_⟩
 exact⟨rfl,hQ h' tk acc' c' (fun b o hb e=>hk b o (zda8 (zcz7 e)) hb (zcy5 _ e)) hS' hacc⟩
end
section
variable {X:Cx}{K:zcy1}
@[irreducible] def rLRev (K:zcy1) (a:Addr) (H:Hp) (Q:VK):Prop:=∃ xs,SqL K H a xs/\∀ l H',H l=none->Same H H'->H' l=some (.lst xs.reverse)->Q (.ref l) H'
def qLRev (K:zcy1) (ta:TA):TE:=fun σ H Q=>ta σ H fun vs H1=>match vs with
 | [.ref a]=>rLRev K a H1 Q
 | _=>False
theorem peLRev {e:Expr}{ta:TA}{p p2 pos pos2:Pos}(hK:X.K=K) (hl:X.mg "list"=none) (hm:X.mg "reversed"=none) (ha:PA X [e] ta) (hc:X.calm=true:=by rfl) (hg:Gl X "reversed":=by rfl) (hg2:Gl X "list":=by rfl) (hs:starEach [e] X.env=[(false,eval e X.env)]:=by rfl)
  (he:starEach [.Call (.Name "reversed" p2) [e] [] pos2] X.env=[(false,eval (.Call (.Name "reversed" p2) [e] [] pos2) X.env)]:=by rfl) :
  PE X (.Call (.Name "list" p) [.Call (.Name "reversed" p2) [e] [] pos2] [] pos) (qLRev K ta):=by
 subst hK
 intro pins s σ H Q I h
 refine wpAny_Call_Name_kw (zx1 I hg2 hl zk6 ?_)
 refine PyProof.Rows.callWith_type1 ?_ (by rw[he];rfl) rfl
 rw[he]
 show wpAny _ _ (spliced ((false,eval (.Call (.Name "reversed" p2) [e] [] pos2) X.env) :: [])) _ _ s
 refine Calls.spliced_cons ?_
 refine Call_ (zx1 I hg hm boot_reversed (PyProof.Rows.callWith_type1 (thn (ha pos2 pins s σ H _ I h) fun us s1 ⟨vs,H1,I1,r1,q1⟩=>?_) hs rfl))
 dsimp only at q1
 split at q1
 ·rename_i a
  unfold rLRev at q1
  obtain⟨xs,hq,q⟩:=q1
  obtain⟨u,rfl,rx⟩:=zaa0 r1
  cases rx
  obtain⟨its,rv,pl,hz⟩:=I1.list hq
  have hlen:=rv.length
  obtain⟨ol,hol,_⟩:=id pl.isList
  refine call_reversed_list pl.isList (Calls.spliced_nil ?_)
  have st:(s1.heap.push (revObj a ((its.toArray.size:Int) - 1))).IsRevIter s1.heap.objs.size a ((its.toArray.size:Int) - 1):=⟨_,zcz9 _ rfl,rfl,rfl⟩
  refine zas3 (I1.ok.hd hc) st (pl.isList.at fun o e=>zcy5 _ e) (zda8 (zcz7 hol)) (by rw[zcy8];omega) fun h' tk acc' c' hk hS hacc=>?_
  have hk1:∀ b o,s1.heap.get? b=some o->h'.get? b=some o:=fun b o e=>hk b o (zda8 (zcz7 e)) (zcy5 _ e)
  have sz:s1.heap.objs.size<=(s1.heap.push (revObj a ((its.toArray.size:Int) - 1))).objs.size:=by
   show s1.heap.objs.size<=(s1.heap.objs.push _).size
   rw[Array.size_push];omega
  have vs:Vals xs.reverse acc'.toList:=zab9 (by
   have h1:acc'.size=its.length:=by simpa using hacc.1
   have h2:acc'.toList.length=acc'.size:=by simp
   rw[zdd4]
   omega) fun i x u hx hu=>by
   have hi:i<xs.length:=by have:=(zcy4.mp hx).1;rwa [zdd4] at this
   rw[zdf8 hi] at hx
   have h2:=hacc.2 i u (by simpa using hu)
   obtain⟨u',hu',ru⟩:=rv.get hx
   rw[zcy8,← hlen] at h2
   have h2:its[xs.length - 1 - i]?=some u:=by simpa using h2
   rw[h2] at hu'
   cases hu'
   exact ru
  have fr:H1 (s1.heap.push (revObj a ((its.toArray.size:Int) - 1))).objs.size=none:=I1.hok.fresh sz
  exact⟨.ref _,_,I1.laid (t':=tk) hk1 sz (show zg6 X.prog X.w _ h' _ (.lst _) from ⟨by rw[zdd4];omega,acc'.toList,c',vs,by simpa using hS⟩),rfl,q _ _ fr (Same.upd fr) zc4⟩
 ·exact q1.elim
theorem zcp4 {a:Addr}{xs:List V}{H:Hp}{Q:VK}(h:H a=some (.lst xs)) (q:∀ l H',H l=none->Same H H'->H' l=some (.lst xs.reverse)->Q (.ref l) H'):rLRev K a H Q:=by unfold rLRev;exact⟨xs,SqL.of h,q⟩
end
end L2
set_option maxHeartbeats 4000000
namespace L2
open PySem PySem.Spec PyProof.Rows
section
variable {X:Cx}{K:zcy1}{H:Hp}{Q:VK}
@[irreducible] def rInR (K:zcy1) (neg:Bool) (a p:Addr) (H:Hp) (Q:VK):Prop:=∃ (rs:List Addr) (c:Addr->Bool) (n:Nat),SqL K H p (rs.map V.ref)/\n<=38/\(∀ r∈rs,EqR K H n (.ref r) (.ref a) (c r))/\Q (.bl (if neg then !(rs.any c) else rs.any c)) H
def zbo9 (K:zcy1) (neg:Bool):R2:=fun x y H Q=>match x,y with
 | .ref a,.ref p=>rInR K neg a p H Q
 | _,_=>False
def eRef (c:Addr->Bool):Value->Bool
 | .ref a=>c a
 | _=>false
theorem zak2:∀ {rs:List Addr}{us:List Value},Vals (rs.map V.ref) us->us=rs.map Value.ref
 | [],us,h=>by cases h;rfl
 | r :: rs,us,h=>by
  cases h with
  | cons h1 h2=>
   have h1:_=Value.ref r:=h1
   rw[zda7,← zak2 h2,h1]
theorem oInR (hu:X.A.units+40<cLine):OpR X (compareOp .In) (zbo9 X.K false):=by
 intro pins s σ H x y v u Q I rx ry h
 unfold zbo9 at h
 split at h
 ·unfold rInR at h
  obtain⟨rs,c,n,h1,h2,h3,h4⟩:=h
  cases rx
  cases ry
  obtain⟨its,r,pl,hz⟩:=I.list h1
  have e:=zak2 r
  subst e
  refine SeqAt.in_listAt (eRef c) pl.isList (fun w hw=>?_) ⟨.bl _,H,I,rfl,?_⟩
  ·obtain⟨q,hq,rfl⟩:=zda1.mp (by simpa using hw)
   exact EqR.at I (h3 q hq) rfl rfl (by rw[zt6];omega)
  ·have e2:(rs.map Value.ref).toArray.any (eRef c)=rs.any c:=by
    rw[List.any_toArray,List.any_map];rfl
   rw[e2]
   exact h4
 ·exact h.elim
theorem zco8 (hu:X.A.units+40<cLine):OpR X (compareOp .NotIn) (zbo9 X.K true):=by
 intro pins s σ H x y v u Q I rx ry h
 unfold zbo9 at h
 split at h
 ·unfold rInR at h
  obtain⟨rs,c,n,h1,h2,h3,h4⟩:=h
  cases rx
  cases ry
  obtain⟨its,r,pl,hz⟩:=I.list h1
  have e:=zak2 r
  subst e
  refine SeqAt.notIn_listAt (eRef c) pl.isList (fun w hw=>?_) ⟨.bl _,H,I,rfl,?_⟩
  ·obtain⟨q,hq,rfl⟩:=zda1.mp (by simpa using hw)
   exact EqR.at I (h3 q hq) rfl rfl (by rw[zt6];omega)
  ·have e2:(rs.map Value.ref).toArray.any (eRef c)=rs.any c:=by
    rw[List.any_toArray,List.any_map];rfl
   rw[e2]
   exact h4
 ·exact h.elim
theorem zcc6 (hK:X.K=K) (hu:X.A.units+40<cLine):OpR X (compareOp .NotIn) (zbo9 K true):=by subst hK;exact zco8 hu
def intsO:Option HO->List Int
 | some (.lst xs)=>xs.filterMap fun v=>match v with
  | .int i=>some i
  | _=>none
 | _=>[]
theorem zbg3 (ns:List Int):intsO (some (.lst (ns.map V.int)))=ns:=by
 show (ns.map V.int).filterMap _=ns
 rw[List.filterMap_map]
 induction ns with
 | nil=>rfl
 | cons n ns ih=>exact congrArg (n :: ·) ih
theorem inR_rd {neg:Bool}{a p:Addr}{rs:List Addr}{ns:List Int}(hp:H p=some (.lst (rs.map V.ref))) (hr:∀ r∈rs,∃ z:List Int,H r=some (.lst (z.map V.int))) (ha:H a=some (.lst (ns.map V.int))) (q:Q (.bl (if neg then !(rs.any fun r=>decide (intsO (H r)=ns)) else rs.any fun r=>decide (intsO (H r)=ns))) H):rInR K neg a p H Q:=by
 unfold rInR
 refine⟨rs,_,1,SqL.of hp,by decide,fun r h=>?_,q⟩
 obtain⟨z,hz⟩:=hr r h
 rw[hz,zbg3]
 exact EqR.intL (SqL.of hz) (SqL.of ha)
end
section
variable {K:zcy1}{g:TG}{tb:TS}{D:Ends}{σ:St}{H:Hp}{R:It->Hp->Prop}
theorem zbq2 {a b c:Addr}{xs ys us:List V}(n:Nat) (hx:xs.length=n) (hy:ys.length=n) (hu:us.length=n) (Pv:Nat->St->Hp->Prop) (h0:Pv 0 σ H) (hl:∀ i σ H,i<=n->Pv i σ H->SqL K H a xs/\SqL K H b ys/\SqL K H c us)
  (hs:∀ i x y u σ H p H',xs[i]?=some x->ys[i]?=some y->us[i]?=some u->Pv i σ H->H p=none->Same H H'->H' p=some (.tup [x,y,u])->g (.ref p) σ H' fun σ2 H2=>tb { D with nx:=Pv (i+1),ct:=Pv (i+1),bk:=D.nx } σ2 H2) (hd:∀ σ H,Pv n σ H->D.nx σ H):zac7 (Itz3 K a b c) g tb D σ H:=by
 unfold zac7
 refine⟨fun i m σ H=>m=n - i/\i<=n/\Pv i σ H,⟨n,by simp,zda6 _,h0⟩,?_⟩
 rintro i m σ H ⟨rfl,hi,p⟩
 obtain⟨q1,q2,q3⟩:=hl i σ H hi p
 by_cases hlt:i<n
 ·refine .inr ⟨⟨xs,ys,us,xs[i],ys[i],us[i],q1,q2,q3,by simp,by simp,by simp⟩,Pv (i+1),fun σ' H' p'=>⟨n - (i+1),by omega,rfl,hlt,p'⟩,fun x H' y=>?_⟩
  obtain⟨pp,x1,y1,u1,rfl,w1,w2,w3,w4,w5,w6⟩:=y
  exact hs i x1 y1 u1 σ H pp H' (w4 xs q1) (w5 ys q2) (w6 us q3) p w1 w2 w3
 ·have e:i=n:=by omega
  subst e
  exact .inl ⟨⟨xs,q1,Nat.le_of_eq hx⟩,hd σ H p⟩
end
end L2
set_option maxHeartbeats 1000000
namespace G
open PySem L2
def top (i:Nat):Stmt:=PySem.Challenge.pw_hostfields_k50_whole_answers.main.body.getD i (.Pass ⟨0,0,0,0⟩)
abbrev zs4:Stmt:=top 7
theorem zbd9:zb3 ["thing"] ["thing"] (za4 zs4):=⟨rfl,rfl,rfl,by decide +kernel,rfl,by decide +kernel,by decide +kernel⟩
abbrev zv4:Stmt:=top 8
theorem zbm6:zb3 ["thing","least"] ["thing","least"] (za4 zv4):=⟨rfl,rfl,rfl,by decide +kernel,rfl,by decide +kernel,by decide +kernel⟩
abbrev zo9:Stmt:=top 9
theorem zar4:zb3 ["thing","least","most"] ["thing","least","most"] (za4 zo9):=⟨rfl,rfl,rfl,by decide +kernel,rfl,by decide +kernel,by decide +kernel⟩
abbrev zl5:Stmt:=top 13
theorem zv1:zb3 ["battle","number","field"] ["battle"] (za4 zl5):=⟨rfl,rfl,rfl,by decide +kernel,rfl,by decide +kernel,by decide +kernel⟩
abbrev zs9:Stmt:=top 14
theorem zbd6:zb3 ["battle"] ["battle"] (za4 zs9):=⟨rfl,rfl,rfl,by decide +kernel,rfl,by decide +kernel,by decide +kernel⟩
abbrev zq3:Stmt:=top 15
theorem zau9:zb3 ["first","second"] ["first","second"] (za4 zq3):=⟨rfl,rfl,rfl,by decide +kernel,rfl,by decide +kernel,by decide +kernel⟩
abbrev zs8:Stmt:=top 16
theorem zbc0:zb3 ["first","second","field"] ["first","second","field"] (za4 zs8):=⟨rfl,rfl,rfl,by decide +kernel,rfl,by decide +kernel,by decide +kernel⟩
abbrev zt1:Stmt:=top 17
theorem zbd3:zb3 ["many_rows","many_numbers","rows"] ["many_rows","many_numbers","rows"] (za4 zt1):=⟨rfl,rfl,rfl,by decide +kernel,rfl,by decide +kernel,by decide +kernel⟩
abbrev zj5:Stmt:=top 18
theorem zak1:zb3 ["many_numbers","row"] ["many_numbers","row"] (za4 zj5):=⟨rfl,rfl,rfl,by decide +kernel,rfl,by decide +kernel,by decide +kernel⟩
abbrev zbn5:Stmt:=top 19
theorem sc_won:zb3 ["field","x","y"] ["field","x","y"] (za4 zbn5):=⟨rfl,rfl,rfl,by decide +kernel,rfl,by decide +kernel,by decide +kernel⟩
abbrev zq2:Stmt:=top 21
theorem zy9:zb3 ["hosts","fields","stream","comes_full","goes_empty"] ["hosts","fields","stream"] (za4 zq2):=⟨rfl,rfl,rfl,by decide +kernel,rfl,by decide +kernel,by decide +kernel⟩
abbrev zz7:Stmt:=top 22
theorem zbv8:zb3 ["stream"] ["stream"] (za4 zz7):=⟨rfl,rfl,rfl,by decide +kernel,rfl,by decide +kernel,by decide +kernel⟩
abbrev zz1:Stmt:=top 23
theorem zbu9:zb3 ["row"] ["row"] (za4 zz1):=⟨rfl,rfl,rfl,by decide +kernel,rfl,by decide +kernel,by decide +kernel⟩
abbrev zv5:Stmt:=top 24
theorem zbm9:zb3 ["thing"] ["thing"] (za4 zv5):=⟨rfl,rfl,rfl,by decide +kernel,rfl,by decide +kernel,by decide +kernel⟩
abbrev zaf9:Stmt:=top 25
theorem zbl1:zb3 ["ahead","row","leaving"] ["ahead","row"] (za4 zaf9):=⟨rfl,rfl,rfl,by decide +kernel,rfl,by decide +kernel,by decide +kernel⟩
abbrev zz5:Stmt:=top 26
theorem zad2:zb3 ["pairs","sums","key","amount"] ["pairs"] (za4 zz5):=⟨rfl,rfl,rfl,by decide +kernel,rfl,by decide +kernel,by decide +kernel⟩
abbrev zs1:Stmt:=top 27
theorem zbg0:zb3 ["stream"] ["stream"] (za4 zs1):=⟨rfl,rfl,rfl,by decide +kernel,rfl,by decide +kernel,by decide +kernel⟩
abbrev zaf2:Stmt:=top 29
theorem zar7:zb3 ["top","bottom","divisor"] ["top","bottom"] (za4 zaf2):=⟨rfl,rfl,rfl,by decide +kernel,rfl,by decide +kernel,by decide +kernel⟩
abbrev zg2:Stmt:=top 30
theorem zm3:zb3 ["one","other","rest"] ["one","other"] (za4 zg2):=⟨rfl,rfl,rfl,by decide +kernel,rfl,by decide +kernel,by decide +kernel⟩
abbrev zp9:Stmt:=top 32
theorem zav4:zb3 ["side"] ["side"] (za4 zp9):=⟨rfl,rfl,rfl,by decide +kernel,rfl,by decide +kernel,by decide +kernel⟩
abbrev zq4:Stmt:=top 33
theorem zaw6:zb3 ["battle","side"] ["battle","side"] (za4 zq4):=⟨rfl,rfl,rfl,by decide +kernel,rfl,by decide +kernel,by decide +kernel⟩
abbrev zm1:Stmt:=top 34
theorem zal6:zb3 ["battle","side"] ["battle","side"] (za4 zm1):=⟨rfl,rfl,rfl,by decide +kernel,rfl,by decide +kernel,by decide +kernel⟩
abbrev zan8:Stmt:=top 35
theorem zbt8:zb3 ["battle","side","stream","most"] ["battle","side","stream"] (za4 zan8):=⟨rfl,rfl,rfl,by decide +kernel,rfl,by decide +kernel,by decide +kernel⟩
abbrev zs7:Stmt:=top 36
theorem zbf8:zb3 ["field","side","row","most"] ["field","side","row","most"] (za4 zs7):=⟨rfl,rfl,rfl,by decide +kernel,rfl,by decide +kernel,by decide +kernel⟩
abbrev zbm4:Stmt:=top 37
theorem sc_due:zb3 ["field","side","row","count"] ["field","side","row","count"] (za4 zbm4):=⟨rfl,rfl,rfl,by decide +kernel,rfl,by decide +kernel,by decide +kernel⟩
abbrev zz0:Stmt:=top 38
theorem zbv4:zb3 ["field_dues","behind","count"] ["field_dues","behind","count"] (za4 zz0):=⟨rfl,rfl,rfl,by decide +kernel,rfl,by decide +kernel,by decide +kernel⟩
abbrev zj9:Stmt:=top 40
theorem zaj2:zb3 ["battle","side","stream"] ["battle","side","stream"] (za4 zj9):=⟨rfl,rfl,rfl,by decide +kernel,rfl,by decide +kernel,by decide +kernel⟩
abbrev zaf5:Stmt:=top 41
theorem zcd1:zb3 ["battle","side","stream"] ["battle","side","stream"] (za4 zaf5):=⟨rfl,rfl,rfl,by decide +kernel,rfl,by decide +kernel,by decide +kernel⟩
abbrev zl8:Stmt:=top 42
theorem zam0:zb3 ["battle","side","stream"] ["battle","side","stream"] (za4 zl8):=⟨rfl,rfl,rfl,by decide +kernel,rfl,by decide +kernel,by decide +kernel⟩
abbrev zf4:Stmt:=top 43
theorem zad1:zb3 ["battle","side","stream"] ["battle","side","stream"] (za4 zf4):=⟨rfl,rfl,rfl,by decide +kernel,rfl,by decide +kernel,by decide +kernel⟩
abbrev zq1:Stmt:=top 44
theorem zy3:zb3 ["battle","side","stream","all_dues","table"] ["battle","side","stream"] (za4 zq1):=⟨rfl,rfl,rfl,by decide +kernel,rfl,by decide +kernel,by decide +kernel⟩
abbrev zg3:Stmt:=top 45
theorem zh5:zb3 ["side","all_dues","rows","behind","field_dues"] ["side","all_dues"] (za4 zg3):=⟨rfl,rfl,rfl,by decide +kernel,rfl,by decide +kernel,by decide +kernel⟩
abbrev zt0:Stmt:=top 46
theorem zbd2:zb3 ["side","numbers"] ["side","numbers"] (za4 zt0):=⟨rfl,rfl,rfl,by decide +kernel,rfl,by decide +kernel,by decide +kernel⟩
abbrev zo7:Stmt:=top 47
theorem zl6:zb3 ["all_dues","table","plan","left","field","sent"] ["all_dues","table"] (za4 zo7):=⟨rfl,rfl,rfl,by decide +kernel,rfl,by decide +kernel,by decide +kernel⟩
abbrev zs6:Stmt:=top 48
theorem zbd0:zb3 ["table","stream"] ["table","stream"] (za4 zs6):=⟨rfl,rfl,rfl,by decide +kernel,rfl,by decide +kernel,by decide +kernel⟩
abbrev zz3:Stmt:=top 50
theorem zac9:zb3 ["battle","side","worth","paper","wrong"] ["battle","side","worth","paper"] (za4 zz3):=⟨rfl,rfl,rfl,by decide +kernel,rfl,by decide +kernel,by decide +kernel⟩
abbrev zp1:Stmt:=top 51
theorem zad9:zb3 ["battle","side","paper","fields"] ["battle","side","paper"] (za4 zp1):=⟨rfl,rfl,rfl,by decide +kernel,rfl,by decide +kernel,by decide +kernel⟩
abbrev zj3:Stmt:=top 52
theorem zf9:zb3 ["battle","side","paper","table","field","field_dues","behind","count","number"] ["battle","side","paper"] (za4 zj3):=⟨rfl,rfl,rfl,by decide +kernel,rfl,by decide +kernel,by decide +kernel⟩
abbrev zae6:Stmt:=top 53
theorem zcd9:zb3 ["side","number","bound"] ["side","number","bound"] (za4 zae6):=⟨rfl,rfl,rfl,by decide +kernel,rfl,by decide +kernel,by decide +kernel⟩
abbrev zm5:Stmt:=top 54
theorem zaa1:zb3 ["battle","side","worth","paper","shown"] ["battle","side","worth","paper"] (za4 zm5):=⟨rfl,rfl,rfl,by decide +kernel,rfl,by decide +kernel,by decide +kernel⟩
abbrev zo6:Stmt:=top 56
theorem zaq6:zb3 ["_law_found"] ["_law_found"] (za4 zo6):=⟨rfl,rfl,rfl,by decide +kernel,rfl,by decide +kernel,by decide +kernel⟩
abbrev zo5:Stmt:=top 57
theorem zd9:zb3 ["_law_script","_law_many","_law_found","_law_k","_law_cell","_law_j","_law_number"] ["_law_script","_law_many"] (za4 zo5):=⟨rfl,rfl,rfl,by decide +kernel,rfl,by decide +kernel,by decide +kernel⟩
abbrev zo0:Stmt:=top 58
theorem zm0:zb3 ["_law_draws_here","_law_first","_law_second","_law_k","_law_rows","_law_x","_law_row","_law_y","_law_number"] ["_law_draws_here","_law_first","_law_second","_law_k"] (za4 zo0):=⟨rfl,rfl,rfl,by decide +kernel,rfl,by decide +kernel,by decide +kernel⟩
abbrev zn8:Stmt:=top 59
theorem zr6:zb3 ["_law_draws_here","_law_first","_law_second","_law_k","_law_number","_law_worth","_law_far"] ["_law_draws_here","_law_first","_law_second","_law_k"] (za4 zn8):=⟨rfl,rfl,rfl,by decide +kernel,rfl,by decide +kernel,by decide +kernel⟩
abbrev zm6:Stmt:=top 60
theorem zq7:zb3 ["_law_draws_here","_law_hosts_here","_law_fields","_law_first","_law_second","_law_many"] ["_law_draws_here","_law_hosts_here","_law_fields"] (za4 zm6):=⟨rfl,rfl,rfl,by decide +kernel,rfl,by decide +kernel,by decide +kernel⟩
abbrev zq6:Stmt:=top 61
theorem zay5:zb3 ["_law_field_here","_law_x","_law_y"] ["_law_field_here","_law_x","_law_y"] (za4 zq6):=⟨rfl,rfl,rfl,by decide +kernel,rfl,by decide +kernel,by decide +kernel⟩
abbrev zn9:Stmt:=top 62
theorem zp3:zb3 ["_law_hosts_here","_law_many","_law_found","_law_sent"] ["_law_hosts_here","_law_many"] (za4 zn9):=⟨rfl,rfl,rfl,by decide +kernel,rfl,by decide +kernel,by decide +kernel⟩
abbrev zs0:Stmt:=top 63
theorem zw3:zb3 ["_law_draws_here","_law_at","_law_plans_here","_law_found","_law_k","_law_plan"] ["_law_draws_here","_law_at","_law_plans_here"] (za4 zs0):=⟨rfl,rfl,rfl,by decide +kernel,rfl,by decide +kernel,by decide +kernel⟩
abbrev zm2:Stmt:=top 64
theorem zh3:zb3 ["_law_mix_here","_law_found","_law_k","_law_flows","_law_plan","_law_weight","_law_key"] ["_law_mix_here"] (za4 zm2):=⟨rfl,rfl,rfl,by decide +kernel,rfl,by decide +kernel,by decide +kernel⟩
abbrev zs3:Stmt:=top 65
theorem zg8:zb3 ["_law_battle_here","_law_side","_law_stream_here","_law_plan","_law_found","_law_field_here","_law_flows","_law_other","_law_left","_law_sent","_law_flow"] ["_law_battle_here","_law_side","_law_stream_here","_law_plan"] (za4 zs3):=⟨rfl,rfl,rfl,by decide +kernel,rfl,by decide +kernel,by decide +kernel⟩
abbrev zo8:Stmt:=top 66
theorem zar9:zb3 ["_law_battle_here","_law_side"] ["_law_battle_here","_law_side"] (za4 zo8):=⟨rfl,rfl,rfl,by decide +kernel,rfl,by decide +kernel,by decide +kernel⟩
abbrev zm4:Stmt:=top 67
theorem zaa7:zb3 ["_law_thing"] ["_law_thing"] (za4 zm4):=⟨rfl,rfl,rfl,by decide +kernel,rfl,by decide +kernel,by decide +kernel⟩
abbrev zl9:Stmt:=top 68
theorem zv2:zb3 ["_law_top","_law_bottom","_law_one","_law_other"] ["_law_top","_law_bottom"] (za4 zl9):=⟨rfl,rfl,rfl,by decide +kernel,rfl,by decide +kernel,by decide +kernel⟩
abbrev zs2:Stmt:=top 69
theorem zab7:zb3 ["_law_battle_here","_law_side","_law_stream_here","_law_k","_law_left","_law_rest","_law_some"] ["_law_battle_here","_law_side","_law_stream_here","_law_k","_law_left"] (za4 zs2):=⟨rfl,rfl,rfl,by decide +kernel,rfl,by decide +kernel,by decide +kernel⟩
abbrev zj4:Stmt:=top 70
theorem zc6:zb3 ["_law_battle_here","_law_side","_law_stream_here","_law_hosts_here","_law_found","_law_k","_law_rest","_law_here","_law_row","_law_left","_law_some"] ["_law_battle_here","_law_side","_law_stream_here"] (za4 zj4):=⟨rfl,rfl,rfl,by decide +kernel,rfl,by decide +kernel,by decide +kernel⟩
abbrev ze5:Stmt:=top 71
theorem zf7:zb3 ["_law_battle_here","_law_side","_law_stream_here","_law_table_here","_law_hosts_here","_law_k","_law_left","_law_due_here"] ["_law_battle_here","_law_side","_law_stream_here","_law_table_here"] (za4 ze5):=⟨rfl,rfl,rfl,by decide +kernel,rfl,by decide +kernel,by decide +kernel⟩
abbrev zl7:Stmt:=top 72
theorem zv3:zb3 ["_law_thing","_law_part"] ["_law_thing"] (za4 zl7):=⟨rfl,rfl,rfl,by decide +kernel,rfl,by decide +kernel,by decide +kernel⟩
abbrev zq0:Stmt:=top 73
theorem zx6:zb3 ["_law_thing","_law_part"] ["_law_thing"] (za4 zq0):=⟨rfl,rfl,rfl,by decide +kernel,rfl,by decide +kernel,by decide +kernel⟩
abbrev ze4:Stmt:=top 74
theorem zn1:zb3 ["_law_battle_here","_law_side","_law_draws_here","_law_own","_law_more"] ["_law_battle_here","_law_side","_law_draws_here"] (za4 ze4):=⟨rfl,rfl,rfl,by decide +kernel,rfl,by decide +kernel,by decide +kernel⟩
abbrev zas8:Stmt:=top 75
theorem zt5:zb3 ["_law_script","_law_draws_here","_law_great","_law_battle_here","_law_side","_law_own","_law_other","_law_stream_here","_law_handed","_law_table_here","_law_whole_here","_law_worth","_law_plan","_law_more","_law_kept"] ["_law_script"] (za4 zas8):=⟨rfl,rfl,rfl,by decide +kernel,rfl,by decide +kernel,by decide +kernel⟩
theorem nb_0:(["number"]:List Str).Nodup:=by decide +kernel
theorem nb_1:(["row","many_numbers"]:List Str).Nodup:=by decide +kernel
theorem nb_2:(["thing"]:List Str).Nodup:=by decide +kernel
theorem nb_3:(["one","other"]:List Str).Nodup:=by decide +kernel
theorem nb_4:(["left","sent","flow"]:List Str).Nodup:=by decide +kernel
theorem nb_5:(["row"]:List Str).Nodup:=by decide +kernel
theorem nb_6:(["left","sent","flow","hosts"]:List Str).Nodup:=by decide +kernel
theorem nb_7:(["left","sent","flow"]:List Str).Nodup:=by decide +kernel
theorem nb_8:(["ahead","row"]:List Str).Nodup:=by decide +kernel
theorem nb_9:(["left","sent","flow"]:List Str).Nodup:=by decide +kernel
theorem zbm3:(["left","sent","flow","field","count"]:List Str).Nodup:=by decide +kernel
theorem nb_11:(["count","field","side","row"]:List Str).Nodup:=by decide +kernel
theorem nb_12:(["field","row","side","most"]:List Str).Nodup:=by decide +kernel
theorem nb_13:(["sent","field_dues","behind","count"]:List Str).Nodup:=by decide +kernel
theorem nb_14:(["count","side","field_dues","behind"]:List Str).Nodup:=by decide +kernel
theorem nb_15:(["bound","side","number"]:List Str).Nodup:=by decide +kernel
theorem nb_16:(["_law_k","_law_draws_here","_law_first","_law_second"]:List Str).Nodup:=by decide +kernel
theorem nb_17:(["_law_rest","_law_sent"]:List Str).Nodup:=by decide +kernel
theorem nb_18:(["_law_left","_law_sent","_law_flows"]:List Str).Nodup:=by decide +kernel
theorem nb_19:(["_law_part"]:List Str).Nodup:=by decide +kernel
theorem nb_20:(["_law_plan","_law_rest","_law_side","_law_stream_here","_law_k"]:List Str).Nodup:=by decide +kernel
theorem nb_21:(["_law_y","_law_rest","_law_side","_law_stream_here","_law_k"]:List Str).Nodup:=by decide +kernel
theorem nb_22:(["_law_y","_law_here","_law_found","_law_left"]:List Str).Nodup:=by decide +kernel
theorem nb_23:(["_law_left","_law_sent","_law_flow"]:List Str).Nodup:=by decide +kernel
structure Nm (mg:Str->Option Value):Prop where
 abs_:mg "abs"=none
 all_:mg "all"=none
 bool_:mg "bool"=none
 enumerate_:mg "enumerate"=none
 int_:mg "int"=none
 isinstance_:mg "isinstance"=none
 len_:mg "len"=none
 list_:mg "list"=none
 max_:mg "max"=none
 min_:mg "min"=none
 range_:mg "range"=none
 reversed_:mg "reversed"=none
 sorted_:mg "sorted"=none
 sum_:mg "sum"=none
 tuple_:mg "tuple"=none
 zip_:mg "zip"=none
local macro_rules | `(tactic| walk_at "hp")=>`(tactic| first|assumption|(refine Same.at (H:=?H) ?s ?e;(case s=>assumption);(case e=>walk_at "hp"))|(refine Chg.at (a:=?a) (H:=?H) ?c ?e ?n;(case c=>assumption);(case n=>walk_at "ne");(case e=>walk_at "hp"))|fail "hp")
local macro_rules | `(tactic| walk_at "ne")=>`(tactic| first|assumption|(apply Ne.symm;assumption)|fail "ne")
local macro_rules | `(tactic| walk_at "wh")=>`(tactic| (conv=>whnf))
local macro_rules | `(tactic| walk_at "st")=>`(tactic| (conv=>whnf);first
 | refine zba9 (by omega) (by omega) ?_
 | refine zh6 (by omega) (by omega) ?_
 | refine zh0 (by omega) (fun r h0 h1=>?_)
 | refine zx7 (by omega) (by omega) ?_
 | (refine zck1 ⟨by decide,by decide,by decide⟩ ?_;simp only[Int.reduceToNat,Int.reducePow])
 | (refine za9 (xs:=?xs) (v:=?v) ?hp ?ev ?_;(case hp=>walk_at "hp");(case ev=>rfl))
 | (refine zb9 (xs:=?xs) (v:=?v) ?hp ?ev ?_;(case hp=>walk_at "hp");(case ev=>rfl))
 | refine zc7 (fun p H' hf hs ha=>?_)
 | refine ze6 (fun p H' hf hs ha=>?_)
 | refine zar5 ?_
 | (refine zx4 (xs:=?xs) ?hp ?_;(case hp=>walk_at "hp"))
 | (refine zy8 (xs:=?xs) ?hp ?_;(case hp=>walk_at "hp"))
 | (refine zw5 (xs:=?xs) ?hp ?_;(case hp=>walk_at "hp"))
 | (refine ze8 (xs:=?xs) ?hp ?_;(case hp=>walk_at "hp"))
 | refine zap6 ?_
 | refine br_T ?_
 | refine br_F ?_
 | refine zl3 (by omega) ?_
 | refine zw6 (by omega) ?_
 | fail "st")
def g0 (f t:Nat):Int:=if f=0/\t=0 then 1 else 0
theorem zam8 {xs:List Nat}(x:Nat) (h:x∈xs):x<=xs.sum:=by
 induction xs with
 | nil=>cases h
 | cons y ys ih=>
  rw[zdc7]
  cases h with
  | head=>omega
  | tail _ h=>have:=ih h;omega
def pl (ns:List Nat):List V:=ns.map fun (n:Nat)=>V.int (n:Int)
def il (ns:List Nat):List Int:=ns.map fun (n:Nat)=>(n:Int)
theorem pl_il (ns:List Nat):pl ns=(il ns).map V.int:=by unfold pl il;rw[zda5];rfl
theorem pl_len (ns:List Nat):(pl ns).length=ns.length:=by unfold pl;simp
theorem il_sum (ns:List Nat):(il ns).sum=(ns.sum:Int):=by
 induction ns with
 | nil=>rfl
 | cons n ns ih=>
  have:il (n :: ns)=(n:Int) :: il ns:=rfl
  rw[this,zdc7,ih,zdc7];push_cast;rfl
theorem pl_of {ns:List Nat}{i:Nat}{x:V}(h:(pl ns)[i]?=some x):∃ n:Nat,x=.int n/\ns[i]?=some n:=by
 unfold pl at h
 rw[zcy2] at h
 obtain⟨n,e,rfl⟩:=zcy6.mp h
 exact⟨n,rfl,e⟩
local macro_rules | `(tactic| walk_at "om")=>`(tactic| first|decide|omega)
section
variable {P:Program}{w:World}{K:zcy1}{mg:Str->Option Value}{base:Heap}
def isW:PyData->Bool
 | .int _=>true
 | _=>false
def zah0 (l:Int):PyData->Bool
 | .int i=>decide (l<=i)
 | _=>false
def zap0 (l m:Int):PyData->Bool
 | .int i=>decide (l<=i/\i<=m)
 | _=>false
theorem zbi6 {p q:Prop}[Decidable p] [Decidable q] (h:p):decide (p/\q)=decide q:=by simp[h]
theorem zbk2 {p q:Prop}[Decidable p] [Decidable q] (h:¬ p):decide (p/\q)=false:=by simp[h]
@[irreducible] def zh2:Sp:=fun vs H Q _=>∃ (v:V) (d:PyData),vs=[v]/\ShV H v d/\Q (.bl (isW d)) H
theorem zbz8 {H:Hp}{v:V}{d:PyData}{Q:VK}{E:XK}(h:ShV H v d) (q:Q (.bl (isW d)) H):zh2 [v] H Q E:=by unfold zh2;exact⟨v,d,rfl,h,q⟩
theorem zcj0 {H:Hp}{i:Int}{Q:VK}{E:XK}(q:Q (.bl true) H):zh2 [.int i] H Q E:=zbz8 (.int i) q
theorem zbc1 {f:Addr}{fd:FuncData}(F:Fun K "is_whole" "is_whole" zs4 f fd) (N:Nm mg):FnOk P w K mg base CX0 1 f fd ["thing"] zh2:=by
 refine F.ok zbd9 (fun vs H Q E h=>by unfold zh2 at h;obtain⟨_,_,rfl,_⟩:=h;rfl) (fun cdv A outer s H vs Q E hr h=>?_)
 unfold zh2 at h
 obtain⟨v,d,rfl,h,q⟩:=h
 refine⟨_,(za5 (za8 (zy0 (pB (zy1 (K:=K) rfl) N.isinstance_ zb8 (za0 (pq 0) (za0 (pTy N.int_ zaj6) za1))) (zw8 (peNot (pB (zy1 (K:=K) rfl) N.isinstance_ zb8 (za0 (pq 0) (za0 (pTy N.bool_ zbu5) za1)))))))),?_⟩
 refine zz4 h (.inl rfl) ?_
 cases h
 case int i=>
  refine br_T ?_
  refine zar5 ?_
  walk_at "wh"
  exact q
 case bl b=>
  refine br_T ?_
  refine zap6 ?_
  walk_at "wh"
  exact q
 all_goals (walk_at "wh";refine br_F ?_;walk_at "wh";exact q)
@[irreducible] def zj6:Sp:=fun vs H Q _=>∃ (v:V) (d:PyData) (l:Int),vs=[v,.int l]/\ShV H v d/\Q (.bl (zah0 l d)) H
theorem zar6 {H:Hp}{v:V}{d:PyData}{l:Int}{Q:VK}{E:XK}(h:ShV H v d) (q:Q (.bl (zah0 l d)) H):zj6 [v,.int l] H Q E:=by unfold zj6;exact⟨v,d,l,rfl,h,q⟩
theorem zcj2 {H:Hp}{i l:Int}{Q:VK}{E:XK}(q:Q (.bl (decide (l<=i))) H):zj6 [.int i,.int l] H Q E:=zar6 (.int i) q
theorem zbo0 {f:Addr}{fd:FuncData}(F:Fun K "is_from" "is_from" zv4 f fd) (N:Nm mg) (zcs8:Def P w K mg base CX0 1 "is_whole" ["thing"] zh2):FnOk P w K mg base CX0 2 f fd ["thing","least"] zj6:=by
 refine F.ok zbm6 (fun vs H Q E h=>by unfold zj6 at h;obtain⟨_,_,_,rfl,_⟩:=h;rfl) (fun cdv A outer s H vs Q E hr h=>?_)
 unfold zj6 at h
 obtain⟨v,d,l,rfl,h,q⟩:=h
 refine⟨_,(za5 (za8 (zy0 (pD zcs8 hr zb5 (za0 (pq 0) za1)) (zw8 (peC oLe (pq 1) (pq 0)))))),?_⟩
 refine zbz8 h ?_
 cases h
 case int i=>
  refine br_T ?_
  walk_at "wh"
  exact q
 all_goals (walk_at "wh";refine br_F ?_;walk_at "wh";exact q)
@[irreducible] def ze1:Sp:=fun vs H Q _=>∃ (v:V) (d:PyData) (l m:Int),vs=[v,.int l,.int m]/\ShV H v d/\Q (.bl (zap0 l m d)) H
theorem zbu3 {H:Hp}{v:V}{d:PyData}{l m:Int}{Q:VK}{E:XK}(h:ShV H v d) (q:Q (.bl (zap0 l m d)) H):ze1 [v,.int l,.int m] H Q E:=by unfold ze1;exact⟨v,d,l,m,rfl,h,q⟩
theorem zbt0 {H:Hp}{i l m:Int}{Q:VK}{E:XK}(q:Q (.bl (decide (l<=i/\i<=m))) H):ze1 [.int i,.int l,.int m] H Q E:=zbu3 (.int i) q
theorem zar2 {f:Addr}{fd:FuncData}(F:Fun K "is_between" "is_between" zo9 f fd) (N:Nm mg) (zcs7:Def P w K mg base CX0 2 "is_from" ["thing","least"] zj6):FnOk P w K mg base CX0 3 f fd ["thing","least","most"] ze1:=by
 refine F.ok zar4 (fun vs H Q E h=>by unfold ze1 at h;obtain⟨_,_,_,_,rfl,_⟩:=h;rfl) (fun cdv A outer s H vs Q E hr h=>?_)
 unfold ze1 at h
 obtain⟨v,d,l,m,rfl,h,q⟩:=h
 refine⟨_,(za5 (za8 (zy0 (pD zcs7 hr zb5 (za0 (pq 0) (za0 (pq 1) za1))) (zw8 (peC oLe (pq 0) (pq 2)))))),?_⟩
 refine zar6 h ?_
 cases h
 case int i=>
  have q:Q (.bl (decide (l<=i/\i<=m))) H:=q
  refine zp5 (fun h=>?_) (fun h=>?_)
  ·walk_at "wh"
   rw[zbi6 h] at q
   exact q
  ·walk_at "wh"
   rw[zbk2 h] at q
   exact q
 all_goals (walk_at "wh";refine br_F ?_;walk_at "wh";exact q)
def zp6:PyData->List PyData
 | .list ds=>ds
 | _=>[]
def intD:PyData->Int
 | .int i=>i
 | _=>0
theorem zaj0 {l:Int}{d:PyData}(h:zah0 l d=true):∃ i:Int,d=.int i/\l<=i:=by
 cases d with
 | int i=>exact⟨i,rfl,of_decide_eq_true h⟩
 | _=>simp[zah0] at h
theorem zab1 {ds:List PyData}(h:sml (.list ds)=true):ds.length<=1000/\∀ d∈ds,sml d=true:=by
 simp only[sml,zdb3,decide_eq_true_eq] at h
 exact⟨h.1,zaf8 h.2⟩
theorem zce4 {ds:List PyData}(h:sml (.tuple ds)=true):ds.length<=1000/\∀ d∈ds,sml d=true:=by
 simp only[sml,zdb3,decide_eq_true_eq] at h
 exact⟨h.1,zaf8 h.2⟩
theorem zao0 {ds:List PyData}(g:PyData->Bool):(List.range ds.length).map (fun i=>V.bl (g (ds.getD i .none)))=(ds.map g).map V.bl:=by
 apply zdd0
 intro i
 rw[zcy2,zcy2,zcy2]
 by_cases h:i<ds.length
 ·rw[zdb0 h,zcx9 h]
  simp[h]
 ·rw[zda0 (by simp;omega),zda0 (by walk_at "om")]
  rfl
theorem zbh0 {ds:List PyData}(g:PyData->Bool):(ds.map g).all id=ds.all g:=by rw[zde8];rfl
theorem zcm0 {H:Hp}{xs:List V}{ds:List PyData}(l:ShL H xs ds) (e:xs.length=2):∃ x y a b,xs=[x,y]/\ds=[a,b]/\ShV H x a/\ShV H y b:=by
 cases l with
 | nil=>simp at e
 | cons h1 l=>
  cases l with
  | nil=>simp at e
  | cons h2 l=>
   cases l with
   | nil=>exact⟨_,_,_,_,rfl,rfl,h1,h2⟩
   | cons _ _=>simp at e
theorem getD_some {ds:List PyData}{i:Nat}{d:PyData}(h:ds[i]?=some d):ds.getD i .none=d:=by rw[zcy3,h];rfl
structure zaf7 (H:Hp) (m:Addr) (ts:List (Addr×Addr)) (ms:List (List Int×Int)):Prop where
 out:H m=some (.lst (ts.map fun t=>V.ref t.1))
 len:ts.length=ms.length
 part:∀ (i:Nat) t x,ts[i]?=some t->ms[i]?=some x->H t.1=some (.tup [.ref t.2,.int x.2])/\H t.2=some (.lst (x.1.map V.int))
theorem zaf7.same {H H':Hp}{m:Addr}{ts:List (Addr×Addr)}{ms:List (List Int×Int)}(M:zaf7 H m ts ms) (s:Same H H'):zaf7 H' m ts ms:=⟨s _ _ M.out,M.len,fun i t x h1 h2=>⟨s _ _ (M.part i t x h1 h2).1,s _ _ (M.part i t x h1 h2).2⟩⟩
theorem zaf7.get {H:Hp}{m:Addr}{ts:List (Addr×Addr)}{ms:List (List Int×Int)}(M:zaf7 H m ts ms) {i:Nat}(hi:i<ms.length):∃ t x,ts[i]?=some t/\ms[i]?=some x/\H t.1=some (.tup [.ref t.2,.int x.2])/\H t.2=some (.lst (x.1.map V.int)):=
 ⟨_,_,zcx9 (by have:=M.len;omega),zcx9 hi,M.part i _ _ (zcx9 (by have:=M.len;omega)) (zcx9 hi)⟩
theorem zaf7.elt {H:Hp}{m:Addr}{ts:List (Addr×Addr)}{ms:List (List Int×Int)}(M:zaf7 H m ts ms) {i:Nat}{v:V}(e:(ts.map fun t=>V.ref t.1)[i]?=some v):∃ t x,v=.ref t.1/\ts[i]?=some t/\ms[i]?=some x/\H t.1=some (.tup [.ref t.2,.int x.2])/\H t.2=some (.lst (x.1.map V.int)):=by
 rw[zcy2] at e
 obtain⟨t,et,rfl⟩:=zcy6.mp e
 obtain⟨t',x,h1,h2,h3⟩:=M.get (i:=i) (by have:=(zcy4.mp et).1;have:=M.len;omega)
 rw[et] at h1
 cases h1
 exact⟨t,x,rfl,et,h2,h3⟩
theorem zaf7.ix {H:Hp}{m:Addr}{ts:List (Addr×Addr)}{ms:List (List Int×Int)}(M:zaf7 H m ts ms) {k:Nat}{x:List Int×Int}(e:ms[k]?=some x):∃ t,ts[k]?=some t/\atI (ts.map fun t=>V.ref t.1) (k:Int)=some (.ref t.1)/\H t.1=some (.tup [.ref t.2,.int x.2])/\H t.2=some (.lst (x.1.map V.int)):=by
 obtain⟨t,x',h1,h2,h3⟩:=M.get (i:=k) ((zcy4.mp e).1)
 rw[e] at h2
 cases h2
 exact⟨t,h1,zc5 (by rw[zcy2,h1];rfl),h3⟩
def rm (p:Addr) (H:Hp):Hp:=fun b=>if b=p then none else H b
def nw (H H':Hp):Hp:=fun b=>match H b with
 | none=>H' b
 | some _=>none
theorem zag1 {p b:Addr}{H:Hp}{o:HO}(n:b≠p) (h:H b=some o):rm p H b=some o:=by unfold rm;rw[if_neg n];exact h
theorem zz8 {p b:Addr}{H:Hp}{o:HO}(h:rm p H b=some o):b≠p/\H b=some o:=by
 unfold rm at h
 by_cases e:b=p
 ·rw[if_pos e] at h;cases h
 ·rw[if_neg e] at h;exact⟨e,h⟩
theorem zp7 {b:Addr}{H H':Hp}{o:HO}(n:H b=none) (h:H' b=some o):nw H H' b=some o:=by unfold nw;rw[n];exact h
theorem zx2 {b:Addr}{H H':Hp}{o:HO}(h:nw H H' b=some o):H b=none/\H' b=some o:=by
 unfold nw at h
 cases e:H b with
 | none=>rw[e] at h;exact⟨rfl,h⟩
 | some v=>rw[e] at h;cases h
theorem zap9 (p:Addr) (H:Hp):Same (rm p H) H:=fun b o h=>(zz8 h).2
theorem zr4 (H H':Hp):Same (nw H H') H':=fun b o h=>(zx2 h).2
theorem Same.rm {p:Addr}{H H':Hp}(s:Same H H'):Same (rm p H) (G.rm p H'):=fun b o h=>zag1 (zz8 h).1 (s _ _ (zz8 h).2)
theorem Chg.rm {p:Addr}{H H':Hp}(s:Chg p H H'):Same (rm p H) (G.rm p H'):=fun b o h=>zag1 (zz8 h).1 (s _ _ (zz8 h).1 (zz8 h).2)
theorem zbc3 {H H' H'':Hp}(s:Same H' H''):Same (nw H H') (nw H H''):=fun b o h=>zp7 (zx2 h).1 (s _ _ (zx2 h).2)
theorem zaj8 {H0 H H':Hp}(s:Same H0 H):Same (nw H H') (nw H0 H'):=fun b o h=>zp7 (s.free (zx2 h).1) (zx2 h).2
def zaa9:PyData->Bool
 | .tuple [a,b,c]=>zah0 0 a&&zap0 0 (intD a) b&&zah0 1 c
 | _=>false
theorem zbg9 {ds:List PyData}(h:ds.length≠3):zaa9 (.tuple ds)=false:=by
 match ds,h with
 | [],_=>rfl
 | [_],_=>rfl
 | [_,_],_=>rfl
 | [_,_,_],h=>simp at h
 | _ :: _ :: _ :: _ :: _,_=>rfl
theorem zaz1 {H:Hp}{xs:List V}{ds:List PyData}(l:ShL H xs ds) (e:xs.length=3):∃ x y z a b c,xs=[x,y,z]/\ds=[a,b,c]/\ShV H x a/\ShV H y b/\ShV H z c:=by
 cases l with
 | nil=>simp at e
 | cons h1 l=>
  obtain⟨y,z,b,c,rfl,rfl,h2,h3⟩:=zcm0 l (by simpa using e)
  exact⟨_,_,_,_,_,_,rfl,rfl,h1,h2,h3⟩
@[irreducible] def zq5:Sp:=fun vs H Q _=>∃ (v:V) (d:PyData),vs=[v]/\ShV H v d/\Q (.bl (zaa9 d)) H
theorem zch4 {H:Hp}{v:V}{d:PyData}{Q:VK}{E:XK}(h:ShV H v d) (q:Q (.bl (zaa9 d)) H):zq5 [v] H Q E:=by unfold zq5;exact⟨v,d,rfl,h,q⟩
theorem zbn0 {f:Addr}{fd:FuncData}(F:Fun K "is_flow" "is_flow" zv5 f fd) (N:Nm mg) (zcs2:Def P w K mg base CX0 3 "is_between" ["thing","least","most"] ze1) (zcs7:Def P w K mg base CX0 2 "is_from" ["thing","least"] zj6):FnOk P w K mg base CX0 4 f fd ["thing"] zq5:=by
 refine F.ok zbm9 (fun vs H Q E h=>by unfold zq5 at h;obtain⟨_,_,rfl,_⟩:=h;rfl) (fun cdv A outer s H vs Q E hr h=>?_)
 unfold zq5 at h
 obtain⟨v,d,rfl,h,q⟩:=h
 have hu:=hu40 hr
 refine⟨_,(za2 (psIf (ptW (pwOr (zm9 (ptV (pB (zy1 (K:=K) rfl) N.isinstance_ zb8 (za0 (pq 0) (za0 (pTy N.tuple_ zw0) za1))))) (zac6 (ptC (zae5 (K:=K) rfl (by exact hu)) (pB (zp2 (K:=K) rfl) N.len_ zg0 (za0 (pq 0) za1)) za3)))) (za5 (za8 zu4)) zb6)
   (za5 (za8 (zy0 (pD zcs7 hr zb5 (za0 (za7 (K:=K) rfl (pq 0) za3) (za0 za3 za1))) (zy0 (pD zcs2 hr zb5 (za0 (za7 (K:=K) rfl (pq 0) za3) (za0 za3 (za0 (za7 (K:=K) rfl (pq 0) za3) za1)))) (zw8 (pD zcs7 hr zb5 (za0 (za7 (K:=K) rfl (pq 0) za3) (za0 za3 za1))))))))),?_⟩
 refine zz4 h (.inr (.inr (.inr rfl))) ?_
 cases h
 case tup t xs ds e l=>
  have ll:=l.len
  refine zd2 (br_T ?_)
  refine zw5 e ?_
  refine zd2 (zp5 (fun h3=>?_) (fun h3=>?_))
  ·obtain⟨x,y,z,a,b,c,rfl,rfl,ha,hb,hc⟩:=zaz1 l (by walk_at "om")
   have q:Q (.bl (zah0 0 a&&zap0 0 (intD a) b&&zah0 1 c)) H:=q
   refine za9 (v:=x) e rfl ?_
   refine zar6 ha ?_
   cases e1:zah0 0 a
   ·rw[e1] at q
    refine br_F ?_
    walk_at "wh"
    exact q
   ·rw[e1,zde0] at q
    obtain⟨i,rfl,hi⟩:=zaj0 e1
    cases ha
    refine br_T ?_
    refine za9 (v:=y) e rfl ?_
    refine za9 (v:=.int i) e rfl ?_
    refine zbu3 hb ?_
    have q:Q (.bl (zap0 0 i b&&zah0 1 c)) H:=q
    cases e2:zap0 0 i b
    ·rw[e2] at q
     refine br_F ?_
     walk_at "wh"
     exact q
    ·rw[e2,zde0] at q
     refine br_T ?_
     refine za9 (v:=z) e rfl ?_
     refine zar6 hc ?_
     walk_at "wh"
     exact q
  ·rw[zbg9 (by walk_at "om")] at q
   walk_at "wh"
   exact q
 all_goals (walk_at "wh";refine zd2 (br_F ?_);walk_at "wh";refine br_T ?_;walk_at "wh";exact q)
theorem zbv6 {l m:Int}{d:PyData}(h:zap0 l m d=true):∃ i,d=.int i/\l<=i/\i<=m:=by
 cases d with
 | int i=>have:=of_decide_eq_true h;exact⟨i,rfl,this⟩
 | _=>simp[zap0] at h
theorem zbd8 {H:Hp}{v:V}{d:PyData}(h:ShV H v d) (e:zaa9 d=true):∃ (t:Addr) (i j w:Int),v=.ref t/\H t=some (.tup [.int i,.int j,.int w])/\d=.tuple [.int i,.int j,.int w]/\0<=j/\j<=i/\1<=w:=by
 cases h
 case tup t xs ds e1 l=>
  have l3:ds.length=3:=Classical.byContradiction fun z=>by rw[zbg9 z] at e;cases e
  obtain⟨x,y,z,a,b,c,rfl,rfl,ha,hb,hc⟩:=zaz1 l (by rw[l.len];exact l3)
  have e:(zah0 0 a&&zap0 0 (intD a) b&&zah0 1 c)=true:=e
  rw[zdb3,zdb3] at e
  obtain⟨i,rfl,hi⟩:=zaj0 e.1.1
  obtain⟨j,rfl,hj1,hj2⟩:=zbv6 e.1.2
  obtain⟨w,rfl,hw⟩:=zaj0 e.2
  cases ha
  cases hb
  cases hc
  exact⟨t,i,j,w,rfl,e1,rfl,hj1,hj2,hw⟩
 all_goals simp[zaa9] at e
def keyD:PyData->Int×Int
 | .tuple (a :: b :: _)=>(intD a,intD b)
 | _=>(0,0)
def incD (ds:List PyData):Bool:=(List.range (ds.length - 1)).all fun i=>ltP (keyD (ds.getD i .none)) (keyD (ds.getD (i+1) .none))
def rowD:PyData->Bool
 | .list ds=>ds.all zaa9&&incD ds
 | _=>false
@[irreducible] def zr1:Sp:=fun vs H Q _=>∃ (v:V) (d:PyData),vs=[v]/\ShV H v d/\sml d=true/\∀ H',Same H H'->Q (.bl (rowD d)) H'
theorem zbq6 {H:Hp}{v:V}{d:PyData}{Q:VK}{E:XK}(h:ShV H v d) (hs:sml d=true) (q:∀ H',Same H H'->Q (.bl (rowD d)) H'):zr1 [v] H Q E:=by unfold zr1;exact⟨v,d,rfl,h,hs,q⟩
theorem zbv9 {f:Addr}{fd:FuncData}(F:Fun K "is_row" "is_row" zz1 f fd) (N:Nm mg) (zcx1:Def P w K mg base CX0 4 "is_flow" ["thing"] zq5):FnOk P w K mg base CX0 5 f fd ["row"] zr1:=by
 refine F.ok zbu9 (fun vs H Q E h=>by unfold zr1 at h;obtain⟨_,_,rfl,_⟩:=h;rfl) (fun cdv A outer s H vs Q E hr h=>?_)
 unfold zr1 at h
 obtain⟨v,d,rfl,h,hs,q⟩:=h
 have hu:=hu40 hr
 refine⟨_,(za2 (psIf (ptW (pwOr (zm9 (ptV (pB (zy1 (K:=K) rfl) N.isinstance_ zb8 (za0 (pq 0) (za0 (pTy N.list_ zk6) za1))))) (zac6 (zm9 (ptV (pB (zap7 (K:=K) rfl rfl) N.all_ zad0 (za0 (zj2 (N:=["thing"]) (ks:=[none]) (zk2 (K:=K) rfl (pq 0)) (fun cl C s3 H3 fp=>(za6 (i:=0) nb_2 rfl (by first|exact Or.inl rfl|exact Or.inr rfl))) (fun cl C s3 H3 fp=>zd5) (fun cl C s3 H3 fp=>(pD zcx1 hr zb5 (za0 (pq 0) za1))) (.skip .nil)) za1))))))) (za5 (za8 zu4)) zb6)
   (za5 (za8 (pB (zap7 (K:=K) rfl rfl) N.all_ zad0 (za0 (zj2 (N:=["one","other"]) (ks:=[none,none]) (zbr2 (K:=K) rfl N.zip_ (za0 (pq 0) (za0 (zr7 (slXK (K:=K) rfl) (pq 0) (zy2 za3) zab3) za1))) (fun cl C s3 H3 fp=>(zp0 (K:=K) (n:=2) rfl rfl (zb7 (za6 (i:=0) nb_3 rfl (by first|exact Or.inl rfl|exact Or.inr rfl)) (zb7 (za6 (i:=1) nb_3 rfl (by first|exact Or.inl rfl|exact Or.inr rfl)) zo3)))) (fun cl C s3 H3 fp=>zd5) (fun cl C s3 H3 fp=>(peC (oLtX (by exact hu)) (zr7 (slXK (K:=K) rfl) (pq 0) zab3 (zy2 za3)) (zr7 (slXK (K:=K) rfl) (pq 1) zab3 (zy2 za3)))) (.skip (.skip .nil))) za1))))),?_⟩
 refine zz4 h (.inr (.inr (.inl rfl))) ?_
 cases h
 case lst a xs ds e l=>
  have ll:=l.len
  obtain⟨dl,dm⟩:=zab1 hs
  refine zd2 (br_T ?_)
  refine zc8 e ?_
  refine zo4 (Wk.list (SqL.of e)) (by rw[sizeLine_eq];omega) (fun i=>.bl (zaa9 (ds.getD i .none))) (fun _=>true) (fun j σ=>∃ t:Option V,σ=[t]) ⟨none,rfl⟩ ?_ ?_
  ·rintro j x σ H1 R S hj s1 hx ⟨t,rfl⟩ k _
   obtain⟨d,ed,hd⟩:=l.get j x hx
   refine br_T ?_
   refine zch4 (hd.same s1) ?_
   walk_at "wh"
   rw[← getD_some ed]
   exact k rfl _ _ (Same.refl _) ⟨_,rfl⟩
  intro acc H1 f1 s1 h1
  rw[ze3,ll,zao0 zaa9] at h1
  refine zaa2 h1 ?_
  rw[zbh0]
  cases ea:ds.all zaa9
  ·walk_at "wh"
   refine zd2 (br_F ?_)
   walk_at "wh"
   have q:Q (.bl (ds.all zaa9&&incD ds)) H1:=q _ s1
   rw[ea] at q
   exact q
  have ea':∀ d∈ds,zaa9 d=true:=zda9.mp ea
  refine zd2 (br_T ?_)
  have e1:=s1 _ _ e
  refine zaj7 (SqL.of e1) (fun p2 H2 f2 s2 h2=>?_)
  rw[zae1 (by walk_at "om")] at h2
  refine zbr0 (SqL.of (s2 _ _ e1)) (SqL.of h2) ?_
  refine zo4 (Wk.zipN (n:=ds.length - 1) (SqL.of (s2 _ _ e1)) (SqL.of h2) (by walk_at "om") (by rw[zdc2];show _<=_ - 1;omega) (.inr (by rw[zdc2,ll];rfl))) (by rw[sizeLine_eq];omega) (fun i=>.bl (ltP (keyD (ds.getD i .none)) (keyD (ds.getD (i+1) .none)))) (fun _=>true) (fun j σ=>∃ t u:Option V,σ=[t,u]) ⟨none,none,rfl⟩ ?_ ?_
  ·rintro j v σ H3 R S hj s3 ⟨p,x,y,rfl,hp,hx,hy⟩ ⟨t,u,rfl⟩ k _
   rw[zde5,show (1:Int).toNat+j=j+1 by show 1+j=j+1;omega] at hy
   obtain⟨d,ed,hd⟩:=l.get j x hx
   obtain⟨d',ed',hd'⟩:=l.get (j+1) y hy
   have s03:=(s1.trans s2).trans s3
   obtain⟨t1,i1,j1,w1,rfl,ht1,rfl,_⟩:=zbd8 (hd.same s03) (ea' d (zcy7 ed))
   obtain⟨t2,i2,j2,w2,rfl,ht2,rfl,_⟩:=zbd8 (hd'.same s03) (ea' d' (zcy7 ed'))
   rw[getD_some ed,getD_some ed'] at k
   refine zg1 hp ?_
   refine br_T ?_
   refine zck7 ht1 (fun p4 H4 f4 s4 h4=>?_)
   refine zck7 (s4 _ _ ht2) (fun p5 H5 f5 s5 h5=>?_)
   refine ltP_rd (x:=(i1,j1)) (y:=(i2,j2)) (s5 _ _ h4) h5 ?_
   walk_at "wh"
   exact k rfl _ _ (s4.trans s5) ⟨_,_,rfl⟩
  intro acc2 H3 f3 s3 h3
  rw[ze3] at h3
  have h3:H3 acc2=some (.lst (((List.range (ds.length - 1)).map fun i=>ltP (keyD (ds.getD i .none)) (keyD (ds.getD (i+1) .none))).map V.bl)):=by rw[h3,zda5];rfl
  refine zaa2 h3 ?_
  have q:Q (.bl (ds.all zaa9&&incD ds)) H3:=q _ ((s1.trans s2).trans s3)
  rw[ea,zde0] at q
  rw[zde8]
  exact q
 all_goals (walk_at "wh";refine zd2 (br_F ?_);walk_at "wh";refine br_T ?_;walk_at "wh";exact q _ (Same.refl _))
def valG {κ:Type}[DecidableEq κ] (kv:List (κ×Int)) (k:κ):Option Int:=(kv.find? fun z=>decide (z.1=k)).map (·.2)
def putG {κ:Type}[DecidableEq κ] (kv:List (κ×Int)) (k:κ) (n:Int):List (κ×Int):=if (kv.any fun z=>decide (z.1=k))=true then kv.map (fun z=>if z.1=k then (z.1,n) else z) else kv++[(k,n)]
def addG {κ:Type}[DecidableEq κ] (s:List (κ×Int)) (z:κ×Int):List (κ×Int):=putG s z.1 ((valG s z.1).getD 0+z.2)
def sumG {κ:Type}[DecidableEq κ] (zs:List (κ×Int)):List (κ×Int):=zs.foldl addG []
def dF {κ κ':Type}(f:κ->κ') (kv:List (κ×Int)):List (κ'×V):=kv.map fun z=>(f z.1,V.int z.2)
section
variable {κ κ':Type}[DecidableEq κ] [DecidableEq κ']
theorem zr8 {z:κ×Int}{kv:List (κ×Int)}{k:κ}(e:z.1=k):valG (z :: kv) k=some z.2:=by unfold valG;rw[zdd6,decide_eq_true e];rfl
theorem zr5 {z:κ×Int}{kv:List (κ×Int)}{k:κ}(e:¬ z.1=k):valG (z :: kv) k=valG kv k:=by unfold valG;rw[zdd6,decide_eq_false e]
theorem zak9 {f:κ->κ'}(hf:∀ a b,f a=f b->a=b) (k:κ):∀ kv:List (κ×Int),valV (dF f kv) (f k)=(valG kv k).map V.int
 | []=>rfl
 | z :: kv=>by
  show valV ((f z.1,V.int z.2) :: dF f kv) (f k)=_
  by_cases e:z.1=k
  ·rw[zac5 (p:=(f z.1,V.int z.2)) (congrArg f e),zr8 e];rfl
  ·rw[zac3 (p:=(f z.1,V.int z.2)) (fun q=>e (hf _ _ q)),zak9 hf k kv,zr5 e]
theorem zbb8 {f:κ->κ'}(hf:∀ a b,f a=f b->a=b) (kv:List (κ×Int)) (k:κ) (n:Int):putK (dF f kv) (f k) (.int n)=dF f (putG kv k n):=by
 unfold putK putG dF
 have e1:((kv.map fun z=>(f z.1,V.int z.2)).any fun kv=>decide (kv.1=f k))=kv.any fun z=>decide (z.1=k):=by
  rw[List.any_map]
  congr 1;funext z
  exact decide_eq_decide.mpr ⟨hf _ _,congrArg f⟩
 rw[e1]
 split
 ·rw[zda5,zda5]
  refine zda4 fun z _=>?_
  show (if f z.1=f k then (f z.1,V.int n) else (f z.1,V.int z.2))=(f (if z.1=k then (z.1,n) else z).1,V.int (if z.1=k then (z.1,n) else z).2)
  by_cases e:z.1=k
  ·rw[if_pos (congrArg f e),if_pos e]
  ·rw[if_neg (fun q=>e (hf _ _ q)),if_neg e]
 ·rw[zda3];rfl
theorem zce8 (kv:List (κ×Int)) (k:κ) (n:Int):(putG kv k n).length<=kv.length+1:=by
 unfold putG
 split
 ·rw[zcy0];omega
 ·rw[zcz8];exact zcz6 _
theorem zad4 (zs:List (κ×Int)) (z:κ×Int):sumG (zs++[z])=addG (sumG zs) z:=by unfold sumG;rw[List.foldl_append];rfl
theorem zat7 (zs:List (κ×Int)):(sumG zs).length<=zs.length:=by
 have:∀ (zs s:List (κ×Int)),(zs.foldl addG s).length<=s.length+zs.length:=fun zs=>by
  induction zs with
  | nil=>exact fun s=>zcz6 _
  | cons z zs ih=>
   intro s
   have h1:=ih (addG s z)
   have h2:(addG s z).length<=s.length+1:=zce8 _ _ _
   rw[List.foldl_cons,zdb6]
   omega
 have:=this zs []
 unfold sumG
 simpa using this
theorem zav1 {zs:List (κ×Int)}{i:Nat}{z:κ×Int}(h:zs[i]?=some z):sumG (zs.take (i+1))=addG (sumG (zs.take i)) z:=by
 rw[zdg5,h];exact zad4 _ _
end
theorem zbi7 (a b:Int) (h:(Sum.inl a:Key)=Sum.inl b):a=b:=Sum.inl.inj h
theorem zal3 (a b:Int×Int) (h:pK a=pK b):a=b:=by
 unfold pK at h
 simp only[List.cons.injEq,Sum.inl.injEq,and_true] at h
 exact Prod.ext h.1 h.2
@[irreducible] def zt8:Sp:=fun vs H Q _=>
 (∃ (p:Addr) (ts:List Addr) (zs:List (Int×Int)),vs=[.ref p]/\H p=some (.lst (ts.map V.ref))/\ts.length=zs.length/\zs.length<=2000/\(∀ (i:Nat) t z,ts[i]?=some t->zs[i]?=some z->H t=some (.tup [.int z.1,.int z.2]))/\∀ r H',H r=none->Same H H'->H' r=some (.dK (dF Sum.inl (sumG zs)))->Q (.ref r) H') ∨
 ∃ (p:Addr) (ts:List (Addr×Addr)) (zs:List ((Int×Int)×Int)),vs=[.ref p]/\H p=some (.lst (ts.map fun t=>V.ref t.1))/\ts.length=zs.length/\zs.length<=2000/\(∀ (i:Nat) t z,ts[i]?=some t->zs[i]?=some z->H t.1=some (.tup [.ref t.2,.int z.2])/\H t.2=some (.tup (pV z.1)))/\∀ r H',H r=none->Same H H'->H' r=some (.dT (dF pK (sumG zs)))->Q (.ref r) H'
theorem zan6 {H:Hp}{p:Addr}{ts:List Addr}{zs:List (Int×Int)}{Q:VK}{E:XK}(hp:H p=some (.lst (ts.map V.ref))) (hl:ts.length=zs.length) (hz:zs.length<=2000) (ht:∀ (i:Nat) t z,ts[i]?=some t->zs[i]?=some z->H t=some (.tup [.int z.1,.int z.2])) (q:∀ r H',H r=none->Same H H'->H' r=some (.dK (dF Sum.inl (sumG zs)))->Q (.ref r) H'):zt8 [.ref p] H Q E:=by
 unfold zt8;exact .inl ⟨p,ts,zs,rfl,hp,hl,hz,ht,q⟩
theorem zbz6 {f:Addr}{fd:FuncData}(F:Fun K "summed" "summed" zz5 f fd) (N:Nm mg):FnOk P w K mg base CX0 1 f fd ["pairs"] zt8:=by
 refine F.ok zad2 (fun vs H Q E h=>by unfold zt8 at h;rcases h with ⟨_,_,_,rfl,_⟩|⟨_,_,_,rfl,_⟩<;>rfl) (fun cdv A outer s H vs Q E hr h=>?_)
 unfold zt8 at h
 have hu:=hu40 hr
 refine⟨_,(za2 (psS (i:=1) zad2.nd zbt4)
   (za2 (zu5 PassesOwn.never rfl (zk2 (K:=K) rfl (pq 0)) (zp0 (K:=K) (n:=2) rfl rfl (zb7 (za6 (i:=2) zad2.nd rfl (by first|exact Or.inl rfl|exact Or.inr rfl)) (zb7 (za6 (i:=3) zad2.nd rfl (by first|exact Or.inl rfl|exact Or.inr rfl)) zo3))) (za5 (zcl1 (by exact hu) (pq 1) (pq 2) (zb4 oAdd (zbl0 (by exact hu) (pq 1) (pq 2) za3) (pq 3)))))
   (za5 (za8 (pq 1))))),?_⟩
 rcases h with ⟨p,ts,zs,rfl,hp,hl,hz,ht,q⟩|⟨p,ts,zs,rfl,hp,hl,hz,ht,q⟩
 ·walk_at "wh"
  refine dnK_rd (fun r H1 f1 s1 h1=>?_)
  have npr:p≠r:=zb2 hp f1
  refine zc8 (s1 _ _ hp) ?_
  refine zt4 (xs:=ts.map V.ref) (fun i σ I=>∃ t u:Option V,σ=[some (.ref p),some (.ref r),t,u]/\Chg r H1 I/\I r=some (.dK (dF Sum.inl (sumG (zs.take i))))) ?_ ?_ ?_ ?_
  ·exact⟨_,_,rfl,Chg.refl _ _,h1⟩
  ·rintro i σ I _ ⟨_,_,_,c,_⟩
   exact SqL.of (c _ _ npr (s1 _ _ hp))
  ·rintro i v σ I hi ⟨t',u',rfl,c,hr'⟩
   rw[zcy2] at hi
   obtain⟨t,et,rfl⟩:=zcy6.mp hi
   obtain⟨z,ez⟩:∃ z,zs[i]?=some z:=⟨_,zcx9 (by have:=(zcy4.mp et).1;omega)⟩
   have e0:=ht i t z et ez
   have e1:=c _ _ (zb2 e0 f1) (s1 _ _ e0)
   refine zg1 e1 ?_
   refine zcp3 hr' ?_
   refine zcq2 hr' ?_
   have ev:(valV (dF Sum.inl (sumG (zs.take i))) (Sum.inl z.1:Key)).getD (V.int 0)=.int ((valG (sumG (zs.take i)) z.1).getD 0):=by
    rw[zak9 zbi7]
    cases valG (sumG (zs.take i)) z.1<;>rfl
   rw[ev]
   refine dpK_rd hr' (by unfold dF;rw[zcy0,sizeLine_eq];have:=zat7 (zs.take i);rw[zdf4] at this;omega) (fun I2 c2 h2=>?_)
   rw[zbb8 zbi7] at h2
   walk_at "wh"
   exact⟨_,_,rfl,c.trans c2,by rw[zav1 ez];exact h2⟩
  ·rintro σ I ⟨t',u',rfl,c,hr'⟩
   rw[zcy0,hl,zde6] at hr'
   walk_at "wh"
   exact q r I f1 (s1.chg f1 c) hr'
 ·walk_at "wh"
  refine zck6 (fun r H1 f1 s1 h1=>?_)
  have npr:p≠r:=zb2 hp f1
  refine zc8 (s1 _ _ hp) ?_
  refine zt4 (xs:=ts.map fun t=>V.ref t.1) (fun i σ I=>∃ t u:Option V,σ=[some (.ref p),some (.ref r),t,u]/\Chg r H1 I/\I r=some (.dT (dF pK (sumG (zs.take i))))) ?_ ?_ ?_ ?_
  ·exact⟨_,_,rfl,Chg.refl _ _,h1⟩
  ·rintro i σ I _ ⟨_,_,_,c,_⟩
   exact SqL.of (c _ _ npr (s1 _ _ hp))
  ·rintro i v σ I hi ⟨t',u',rfl,c,hr'⟩
   rw[zcy2] at hi
   obtain⟨t,et,rfl⟩:=zcy6.mp hi
   obtain⟨z,ez⟩:∃ z,zs[i]?=some z:=⟨_,zcx9 (by have:=(zcy4.mp et).1;omega)⟩
   obtain⟨e0,e0'⟩:=ht i t z et ez
   have e1:=c _ _ (zb2 e0 f1) (s1 _ _ e0)
   have e2:=c _ _ (zb2 e0' f1) (s1 _ _ e0')
   refine zg1 e1 ?_
   refine zby2 hr' ?_
   refine zbx8 hr' (k:=pK z.1) e2 ?_
   have ev:(valV (dF pK (sumG (zs.take i))) (pK z.1)).getD (V.int 0)=.int ((valG (sumG (zs.take i)) z.1).getD 0):=by
    rw[zak9 zal3]
    cases valG (sumG (zs.take i)) z.1<;>rfl
   rw[ev]
   refine zck5 hr' (k:=pK z.1) e2 (by unfold dF;rw[zcy0,sizeLine_eq];have:=zat7 (zs.take i);rw[zdf4] at this;omega) (fun I2 c2 h2=>?_)
   rw[zbb8 zal3] at h2
   walk_at "wh"
   exact⟨_,_,rfl,c.trans c2,by rw[zav1 ez];exact h2⟩
  ·rintro σ I ⟨t',u',rfl,c,hr'⟩
   rw[zcy0,hl,zde6] at hr'
   walk_at "wh"
   exact q r I f1 (s1.chg f1 c) hr'
def triD:PyData->Int×Int×Int
 | .tuple [a,b,c]=>(intD a,intD b,intD c)
 | _=>(0,0,0)
def rowF (d:PyData):List (Int×Int×Int):=(zp6 d).map triD
def zae9:PyData->Bool
 | .list ds=>decide (0<ds.length)&&rowD (ds.getD 0 .none)&&decide (0<(zp6 (ds.getD 0 .none)).length)
 | _=>false
theorem zaz0 {H:Hp}{v:V}{d:PyData}(h:ShV H v d) (e:rowD d=true):∃ (a:Addr) (ts:List Addr) (ds:List PyData),v=.ref a/\d=.list ds/\H a=some (.lst (ts.map V.ref))/\ts.length=ds.length/\(∀ (i:Nat) t x,ts[i]?=some t->(rowF d)[i]?=some x->H t=some (.tup [.int x.1,.int x.2.1,.int x.2.2]))/\∀ x∈rowF d,0<=x.2.1/\x.2.1<=x.1/\1<=x.2.2:=by
 cases h
 case lst a xs ds e1 l=>
  have e:(ds.all zaa9&&incD ds)=true:=e
  have ea:=zda9.mp (Bool.and_eq_true_iff.mp e).1
  have key:∀ {xs:List V}{ds:List PyData},ShL H xs ds->(∀ d∈ds,zaa9 d=true)->∃ ts:List Addr,xs=ts.map V.ref/\(∀ (i:Nat) t x,ts[i]?=some t->(ds.map triD)[i]?=some x->H t=some (.tup [.int x.1,.int x.2.1,.int x.2.2]))/\∀ x∈ds.map triD,0<=x.2.1/\x.2.1<=x.1/\1<=x.2.2:=fun {xs ds} l ea=>by
   induction ds generalizing xs with
   | nil=>cases l;exact⟨[],rfl,fun i t x h=>by simp at h,fun x h=>by cases h⟩
   | cons d ds ih=>
    cases l with
    | cons h1 l=>
     obtain⟨ts,rfl,k1,k2⟩:=ih l fun d hd=>ea d (.tail _ hd)
     obtain⟨t,i,j,w,rfl,ht,rfl,hj1,hj2,hw⟩:=zbd8 h1 (ea _ (.head _))
     refine⟨t :: ts,rfl,fun n t' x g1 g2=>?_,fun x hx=>?_⟩
     ·match n with
      | 0=>cases g1;cases g2;exact ht
      | n+1=>exact k1 n t' x g1 g2
     ·rcases zcz5.mp hx with rfl|hx
      ·exact⟨hj1,hj2,hw⟩
      ·exact k2 x hx
  obtain⟨ts,rfl,k1,k2⟩:=key l ea
  exact⟨a,ts,ds,rfl,rfl,e1,by have:=l.len;rwa [zcy0] at this,k1,k2⟩
 all_goals simp[rowD] at e
theorem zq9 (ds:List PyData):(rowF (.list ds)).length=ds.length:=by unfold rowF;rw[zcy0];rfl
@[irreducible] def zu1:Sp:=fun vs H Q _=>∃ (v:V) (d:PyData),vs=[v]/\ShV H v d/\sml d=true/\∀ H',Same H H'->Q (.bl (zae9 d)) H'
theorem zbn9 {H:Hp}{v:V}{d:PyData}{Q:VK}{E:XK}(h:ShV H v d) (hs:sml d=true) (q:∀ H',Same H H'->Q (.bl (zae9 d)) H'):zu1 [v] H Q E:=by unfold zu1;exact⟨v,d,rfl,h,hs,q⟩
theorem zbz5 {f:Addr}{fd:FuncData}(F:Fun K "begins" "begins" zz7 f fd) (N:Nm mg) (zcw0:Def P w K mg base CX0 5 "is_row" ["row"] zr1):FnOk P w K mg base CX0 6 f fd ["stream"] zu1:=by
 refine F.ok zbv8 (fun vs H Q E h=>by unfold zu1 at h;obtain⟨_,_,rfl,_⟩:=h;rfl) (fun cdv A outer s H vs Q E hr h=>?_)
 unfold zu1 at h
 obtain⟨v,d,rfl,h,hs,q⟩:=h
 have hu:=hu40 hr
 refine⟨_,(za5 (za8 (zy0 (pB (zy1 (K:=K) rfl) N.isinstance_ zb8 (za0 (pq 0) (za0 (pTy N.list_ zk6) za1))) (zy0 (peC oGt (pB (zp2 (K:=K) rfl) N.len_ zg0 (za0 (pq 0) za1)) za3) (zy0 (pD zcw0 hr zb5 (za0 (za7 (K:=K) rfl (pq 0) za3) za1)) (zw8 (peC oGt (pB (zp2 (K:=K) rfl) N.len_ zg0 (za0 (za7 (K:=K) rfl (pq 0) za3) za1)) za3))))))),?_⟩
 refine zz4 h (.inr (.inr (.inl rfl))) ?_
 cases h
 case lst a xs ds e l=>
  have ll:=l.len
  obtain⟨dl,dm⟩:=zab1 hs
  have q:∀ H',Same H H'->Q (.bl (decide (0<ds.length)&&rowD (ds.getD 0 .none)&&decide (0<(zp6 (ds.getD 0 .none)).length))) H':=q
  refine br_T ?_
  refine ze8 e ?_
  rw[ll]
  refine zp5 (fun h0=>?_) (fun h0=>?_)
  ·rw[decide_eq_true (show 0<ds.length by walk_at "om"),zde0] at q
   obtain⟨x0,ex0⟩:∃ x,xs[0]?=some x:=⟨_,zcx9 (by walk_at "om")⟩
   obtain⟨d0,ed0,hd0⟩:=l.get 0 x0 ex0
   rw[getD_some ed0] at q
   have at0:atI xs 0=some x0:=zc5 (j:=0) ex0
   refine zb9 (v:=x0) e at0 ?_
   refine zbq6 hd0 (dm d0 (zcy7 ed0)) (fun H1 s1=>?_)
   cases er:rowD d0
   ·have q:=q _ s1
    rw[er] at q
    refine br_F ?_
    walk_at "wh"
    exact q
   ·have q:=q _ s1
    rw[er,zde0] at q
    obtain⟨b,ts,es,rfl,rfl,hb,hl,_⟩:=zaz0 hd0 er
    refine br_T ?_
    refine zb9 (v:=.ref b) (s1 _ _ e) at0 ?_
    refine ze8 (s1 _ _ hb) ?_
    rw[zcy0,hl]
    walk_at "wh"
    have ed:decide ((es.length:Int)>0)=decide (0<(zp6 (.list es)).length):=decide_eq_decide.mpr (by show (es.length:Int)>0↔0<es.length;omega)
    first|(rw[← ed] at q;exact q)|exact q
  ·have q:=q _ (Same.refl _)
   rw[decide_eq_false (show ¬ 0<ds.length by walk_at "om")] at q
   walk_at "wh"
   exact q
 all_goals (walk_at "wh";refine br_F ?_;walk_at "wh";exact q _ (Same.refl _))
def zal2 (a b:PyData):Bool:=eqDI (sumG ((rowF a).map fun z=>(z.1 - z.2.1,z.2.2))) (sumG ((rowF b).map fun z=>(z.1,z.2.2)))
@[irreducible] def zw7:Sp:=fun vs H Q _=>∃ (v u:V) (d e:PyData),vs=[v,u]/\ShV H v d/\ShV H u e/\rowD d=true/\rowD e=true/\(zp6 d).length<=1000/\(zp6 e).length<=1000/\∀ H',Same H H'->Q (.bl (zal2 d e)) H'
theorem zby8 {H:Hp}{v u:V}{d e:PyData}{Q:VK}{E:XK}(hv:ShV H v d) (hu:ShV H u e) (rd:rowD d=true) (re:rowD e=true) (ld:(zp6 d).length<=1000) (le:(zp6 e).length<=1000) (q:∀ H',Same H H'->Q (.bl (zal2 d e)) H'):zw7 [v,u] H Q E:=by unfold zw7;exact⟨v,u,d,e,rfl,hv,hu,rd,re,ld,le,q⟩
theorem zch5 {f:Addr}{fd:FuncData}(F:Fun K "meets" "meets" zaf9 f fd) (N:Nm mg) (zcw9:Def P w K mg base CX0 1 "summed" ["pairs"] zt8):FnOk P w K mg base CX0 2 f fd ["ahead","row"] zw7:=by
 refine F.ok zbl1 (fun vs H Q E h=>by unfold zw7 at h;obtain⟨_,_,_,_,rfl,_⟩:=h;rfl) (fun cdv A outer s H vs Q E hr h=>?_)
 unfold zw7 at h
 obtain⟨v,u,d,e,rfl,hv,hu',rd,re,ld,le,q⟩:=h
 have hu:=hu40 hr
 obtain⟨a,ts,ds,rfl,rfl,ha,hl,hp,_⟩:=zaz0 hv rd
 obtain⟨b,us,es,rfl,rfl,hb,hl',hp',_⟩:=zaz0 hu' re
 have ld:ds.length<=1000:=ld
 have le:es.length<=1000:=le
 refine⟨_,(za2 (psS (i:=2) zbl1.nd (pD zcw9 hr zb5 (za0 (zj2 (N:=["left","sent","flow"]) (ks:=[none,none,none]) (zk2 (K:=K) rfl (pq 0)) (fun cl C s3 H3 fp=>(zp0 (K:=K) (n:=3) rfl rfl (zb7 (za6 (i:=0) nb_4 rfl (by first|exact Or.inl rfl|exact Or.inr rfl)) (zb7 (za6 (i:=1) nb_4 rfl (by first|exact Or.inl rfl|exact Or.inr rfl)) (zb7 (za6 (i:=2) nb_4 rfl (by first|exact Or.inl rfl|exact Or.inr rfl)) zo3))))) (fun cl C s3 H3 fp=>zd5) (fun cl C s3 H3 fp=>(zm8 (za0 (zb4 oSub (pq 0) (pq 1)) (za0 (pq 2) za1)))) (.skip (.skip (.skip .nil)))) za1)))
   (za5 (za8 (peC (zaf3 (K:=K) rfl (by exact hu)) (pq 2) (pD zcw9 hr zb5 (za0 (zj2 (N:=["left","sent","flow"]) (ks:=[none,none,none]) (zk2 (K:=K) rfl (pq 1)) (fun cl C s3 H3 fp=>(zp0 (K:=K) (n:=3) rfl rfl (zb7 (za6 (i:=0) nb_4 rfl (by first|exact Or.inl rfl|exact Or.inr rfl)) (zb7 (za6 (i:=1) nb_4 rfl (by first|exact Or.inl rfl|exact Or.inr rfl)) (zb7 (za6 (i:=2) nb_4 rfl (by first|exact Or.inl rfl|exact Or.inr rfl)) zo3))))) (fun cl C s3 H3 fp=>zd5) (fun cl C s3 H3 fp=>(zm8 (za0 (pq 0) (za0 (pq 2) za1)))) (.skip (.skip (.skip .nil)))) za1)))))),?_⟩
 refine zc8 ha ?_
 refine zav5 (Wk.list (SqL.of ha)) (by rw[zcy0,sizeLine_eq];omega) (fun i=>.tup [.int (((rowF (.list ds)).getD i (0,0,0)).1 - ((rowF (.list ds)).getD i (0,0,0)).2.1),.int ((rowF (.list ds)).getD i (0,0,0)).2.2]) (fun j σ=>∃ t u w:Option V,σ=[t,u,w]) ⟨none,none,none,rfl⟩ ?_ ?_
 ·rintro i x σ I R S hi s1 hx ⟨_,_,_,rfl⟩ k
  rw[zcy0] at hi
  rw[zcy2] at hx
  obtain⟨t,et,rfl⟩:=zcy6.mp hx
  obtain⟨z,ez⟩:∃ z,(rowF (.list ds))[i]?=some z:=⟨_,zcx9 (by rw[zq9];omega)⟩
  rw[show (rowF (.list ds)).getD i (0,0,0)=z by rw[zcy3,ez];rfl] at k
  refine zg1 (s1 _ _ (hp i t z et ez)) ?_
  refine br_T ?_
  refine zc7 (fun p I1 f1 r1 k1=>?_)
  walk_at "wh"
  exact k _ _ _ f1 r1 k1 ⟨_,_,_,rfl⟩
 rintro l1 ps1 H1 F1
 rw[zcy0] at F1
 refine zan6 (zs:=(rowF (.list ds)).map fun z=>(z.1 - z.2.1,z.2.2)) F1.out (by rw[F1.len,zcy0,zq9];exact hl) (by rw[zcy0,zq9];omega) (fun i t z g1 g2=>?_) (fun r2 H2 f2 s2 h2=>?_)
 ·rw[zcy2] at g2
  obtain⟨y,ey,rfl⟩:=zcy6.mp g2
  have:=(F1.row i t g1).2
  rw[show (rowF (.list ds)).getD i (0,0,0)=y by rw[zcy3,ey];rfl] at this
  exact this
 have hb2:=s2 _ _ (F1.same _ _ hb)
 refine zc8 hb2 ?_
 refine zav5 (Wk.list (SqL.of hb2)) (by rw[zcy0,sizeLine_eq];omega) (fun i=>.tup [.int ((rowF (.list es)).getD i (0,0,0)).1,.int ((rowF (.list es)).getD i (0,0,0)).2.2]) (fun j σ=>∃ t u w:Option V,σ=[t,u,w]) ⟨none,none,none,rfl⟩ ?_ ?_
 ·rintro i x σ I R S hi s1 hx ⟨_,_,_,rfl⟩ k
  rw[zcy0] at hi
  rw[zcy2] at hx
  obtain⟨t,et,rfl⟩:=zcy6.mp hx
  obtain⟨z,ez⟩:∃ z,(rowF (.list es))[i]?=some z:=⟨_,zcx9 (by rw[zq9];omega)⟩
  rw[show (rowF (.list es)).getD i (0,0,0)=z by rw[zcy3,ez];rfl] at k
  refine zg1 (s1 _ _ (s2 _ _ (F1.same _ _ (hp' i t z et ez)))) ?_
  refine br_T ?_
  refine zc7 (fun p I1 f1 r1 k1=>?_)
  walk_at "wh"
  exact k _ _ _ f1 r1 k1 ⟨_,_,_,rfl⟩
 rintro l3 ps3 H3 F3
 rw[zcy0] at F3
 refine zan6 (zs:=(rowF (.list es)).map fun z=>(z.1,z.2.2)) F3.out (by rw[F3.len,zcy0,zq9];exact hl') (by rw[zcy0,zq9];omega) (fun i t z g1 g2=>?_) (fun r4 H4 f4 s4 h4=>?_)
 ·rw[zcy2] at g2
  obtain⟨y,ey,rfl⟩:=zcy6.mp g2
  have:=(F3.row i t g1).2
  rw[show (rowF (.list es)).getD i (0,0,0)=y by rw[zcy3,ey];rfl] at this
  exact this
 refine eqD_rd (s4 _ _ (F3.same _ _ h2)) h4 ?_
 walk_at "wh"
 exact q _ (((F1.same.trans s2).trans F3.same).trans s4)
def fullD (h:Int) (d:PyData):Bool:=(rowF d).all fun z=>decide (z.1=h)
def goneD (d:PyData):Bool:=(rowF d).all fun z=>decide (z.1=z.2.1)
def zai6 (ds:List PyData):Bool:=(List.range (ds.length - 1)).all fun i=>zal2 (ds.getD i .none) (ds.getD (i+1) .none)
def zk1 (h f:Int) (d:PyData):Bool:=zae9 d&&(decide (((zp6 d).length:Int)=f)&&((zp6 d).all rowD&&(fullD h ((zp6 d).getD 0 .none)&&(goneD ((zp6 d).getD ((zp6 d).length - 1) .none)&&zai6 (zp6 d)))))
theorem zbk7 {α:Type}(g:α->Bool) (xs:List α):(xs.map g).all id=xs.all g:=by rw[zde8];rfl
theorem zax4 {xs:List (Int×Int×Int)}(g:Int×Int×Int->Bool):(List.range xs.length).map (fun i=>V.bl (g (xs.getD i (0,0,0))))=(xs.map g).map V.bl:=by
 apply zdd0
 intro i
 rw[zcy2,zcy2,zcy2]
 by_cases h:i<xs.length
 ·rw[zdb0 h,zcx9 h]
  simp[h]
 ·rw[zda0 (by simp;omega),zda0 (by walk_at "om")]
  rfl
@[irreducible] def zh9:Sp:=fun vs H Q _=>∃ (h f:Int) (v:V) (d:PyData),vs=[.int h,.int f,v]/\ShV H v d/\sml d=true/\∀ H',Same H H'->Q (.bl (zk1 h f d)) H'
theorem zam9 {H:Hp}{h f:Int}{v:V}{d:PyData}{Q:VK}{E:XK}(hv:ShV H v d) (hs:sml d=true) (q:∀ H',Same H H'->Q (.bl (zk1 h f d)) H'):zh9 [.int h,.int f,v] H Q E:=by unfold zh9;exact⟨h,f,v,d,rfl,hv,hs,q⟩
set_option maxHeartbeats 0 in
theorem zay1 {f:Addr}{fd:FuncData}(F:Fun K "is_stream" "is_stream" zq2 f fd) (N:Nm mg) (zcx3:Def P w K mg base CX0 6 "begins" ["stream"] zu1) (zcw0:Def P w K mg base CX0 5 "is_row" ["row"] zr1) (zcx6:Def P w K mg base CX0 2 "meets" ["ahead","row"] zw7):FnOk P w K mg base CX0 7 f fd ["hosts","fields","stream"] zh9:=by
 refine F.ok zy9 (fun vs H Q E h=>by unfold zh9 at h;obtain⟨_,_,_,_,rfl,_⟩:=h;rfl) (fun cdv A outer s H vs Q E hr h=>?_)
 unfold zh9 at h
 obtain⟨h,f,v,d,rfl,hv,hs,q⟩:=h
 have hu:=hu40 hr
 refine⟨_,(za2 (psIf (ptW (pwOr (zm9 (ptV (pD zcx3 hr zb5 (za0 (pq 2) za1)))) (pwOr (ptC (zae5 (K:=K) rfl (by exact hu)) (pB (zp2 (K:=K) rfl) N.len_ zg0 (za0 (pq 2) za1)) (pq 1)) (zac6 (zm9 (ptV (pB (zap7 (K:=K) rfl rfl) N.all_ zad0 (za0 (zj2 (N:=["row"]) (ks:=[none]) (zk2 (K:=K) rfl (pq 2)) (fun cl C s3 H3 fp=>(za6 (i:=0) nb_5 rfl (by first|exact Or.inl rfl|exact Or.inr rfl))) (fun cl C s3 H3 fp=>zd5) (fun cl C s3 H3 fp=>(pD zcw0 hr zb5 (za0 (pq 0) za1))) (.skip .nil)) za1)))))))) (za5 (za8 zu4)) zb6)
   (za2 (psS (i:=3) zy9.nd (pB (zap7 (K:=K) rfl rfl) N.all_ zad0 (za0 (zj2 (N:=["left","sent","flow","hosts"]) (ks:=[none,none,none,some 0]) (zk2 (K:=K) rfl (za7 (K:=K) rfl (pq 2) za3)) (fun cl C s3 H3 fp=>(zp0 (K:=K) (n:=3) rfl rfl (zb7 (za6 (i:=0) nb_6 rfl (by first|exact Or.inl rfl|exact Or.inr rfl)) (zb7 (za6 (i:=1) nb_6 rfl (by first|exact Or.inl rfl|exact Or.inr rfl)) (zb7 (za6 (i:=2) nb_6 rfl (by first|exact Or.inl rfl|exact Or.inr rfl)) zo3))))) (fun cl C s3 H3 fp=>zd5) (fun cl C s3 H3 fp=>(peC (zaf3 (K:=K) rfl (by exact hu)) (pq 0) (pq 3))) (.skip (.skip (.skip (.take rfl rfl (by first|exact Or.inl rfl|exact Or.inr rfl) .nil))))) za1)))
   (za2 (psS (i:=4) zy9.nd (pB (zap7 (K:=K) rfl rfl) N.all_ zad0 (za0 (zj2 (N:=["left","sent","flow"]) (ks:=[none,none,none]) (zk2 (K:=K) rfl (za7 (K:=K) rfl (pq 2) (zbe0 uNeg za3))) (fun cl C s3 H3 fp=>(zp0 (K:=K) (n:=3) rfl rfl (zb7 (za6 (i:=0) nb_7 rfl (by first|exact Or.inl rfl|exact Or.inr rfl)) (zb7 (za6 (i:=1) nb_7 rfl (by first|exact Or.inl rfl|exact Or.inr rfl)) (zb7 (za6 (i:=2) nb_7 rfl (by first|exact Or.inl rfl|exact Or.inr rfl)) zo3))))) (fun cl C s3 H3 fp=>zd5) (fun cl C s3 H3 fp=>(peC (zaf3 (K:=K) rfl (by exact hu)) (pq 0) (pq 1))) (.skip (.skip (.skip .nil)))) za1)))
   (za5 (za8 (zy0 (pq 3) (zy0 (pq 4) (zw8 (pB (zap7 (K:=K) rfl rfl) N.all_ zad0 (za0 (zj2 (N:=["ahead","row"]) (ks:=[none,none]) (zbr2 (K:=K) rfl N.zip_ (za0 (pq 2) (za0 (zr7 (slXK (K:=K) rfl) (pq 2) (zy2 za3) zab3) za1))) (fun cl C s3 H3 fp=>(zp0 (K:=K) (n:=2) rfl rfl (zb7 (za6 (i:=0) nb_8 rfl (by first|exact Or.inl rfl|exact Or.inr rfl)) (zb7 (za6 (i:=1) nb_8 rfl (by first|exact Or.inl rfl|exact Or.inr rfl)) zo3)))) (fun cl C s3 H3 fp=>zd5) (fun cl C s3 H3 fp=>(pD zcx6 hr zb5 (za0 (pq 0) (za0 (pq 1) za1)))) (.skip (.skip .nil))) za1)))))))))),?_⟩
 refine zbn9 hv hs (fun H1 s1=>?_)
 unfold zk1 at q
 cases eb:zae9 d
 ·have q:=q _ s1
  rw[eb] at q
  refine zd2 (br_F ?_)
  refine br_T ?_
  walk_at "wh"
  exact q
 cases hv
 case lst a xs ds e l=>
  have q:∀ H',Same H H'->Q (.bl (true&&(decide ((ds.length:Int)=f)&&(ds.all rowD&&(fullD h (ds.getD 0 .none)&&(goneD (ds.getD (ds.length - 1) .none)&&zai6 ds)))))) H':=fun H' s'=>by
   have q:=q H' s'
   rw[eb] at q
   exact q
  have ll:=l.len
  obtain⟨dl,dm⟩:=zab1 hs
  have d0:0<ds.length:=by
   have eb:(decide (0<ds.length)&&rowD (ds.getD 0 .none)&&decide (0<(zp6 (ds.getD 0 .none)).length))=true:=eb
   rw[zdb3,zdb3] at eb
   exact of_decide_eq_true eb.1.1
  have e1:=s1 _ _ e
  refine zd2 (br_T ?_)
  refine ze8 e1 ?_
  rw[ll]
  refine zd2 (zp5 (fun hf=>?_) (fun hf=>?_))
  ·rw[decide_eq_true hf,zde0,zde0] at q
   refine zc8 e1 ?_
   refine zo4 (Wk.list (SqL.of e1)) (by rw[sizeLine_eq];omega) (fun i=>.bl (rowD (ds.getD i .none))) (fun _=>true) (fun j σ=>∃ t:Option V,σ=[t]) ⟨none,rfl⟩ ?_ ?_
   ·rintro j x σ H2 R S hj s2 hx ⟨t,rfl⟩ k _
    obtain⟨d,ed,hd⟩:=l.get j x hx
    refine br_T ?_
    refine zbq6 (hd.same (s1.trans s2)) (dm d (zcy7 ed)) (fun H3 s3=>?_)
    walk_at "wh"
    rw[← getD_some ed]
    exact k rfl _ _ s3 ⟨_,rfl⟩
   intro acc H2 f2 s2 h2
   rw[ze3,ll,zao0 rowD] at h2
   have s02:=s1.trans s2
   refine zaa2 h2 ?_
   rw[zbh0]
   cases ea:ds.all rowD
   ·have q:=q _ s02
    rw[ea] at q
    refine zd2 (br_F ?_)
    walk_at "wh"
    exact q
   have ea':∀ d∈ds,rowD d=true:=zda9.mp ea
   rw[ea,zde0] at q
   refine zd2 (br_T ?_)
   obtain⟨x0,ex0⟩:∃ x,xs[0]?=some x:=⟨_,zcx9 (by walk_at "om")⟩
   obtain⟨d0',ed0,hd0⟩:=l.get 0 x0 ex0
   have m0:=dm d0' (zcy7 ed0)
   obtain⟨r0,ts0,es0,rfl,rfl,hr0,hl0,hp0,_⟩:=zaz0 hd0 (ea' d0' (zcy7 ed0))
   have b0:=(zab1 m0).1
   rw[getD_some ed0] at q
   have e2:=s2 _ _ e1
   refine zb9 (v:=.ref r0) e2 (zc5 (j:=0) ex0) ?_
   refine zc8 (s02 _ _ hr0) ?_
   refine zo4 (Wk.list (SqL.of (s02 _ _ hr0))) (by rw[zcy0,sizeLine_eq];omega) (fun i=>.bl (decide (((rowF (.list es0)).getD i (0,0,0)).1=h))) (fun _=>true) (fun j σ=>∃ t u w:Option V,σ=[t,u,w,some (.int h)]) ⟨none,none,none,rfl⟩ ?_ ?_
   ·rintro i x σ I R S hi s3 hx ⟨_,_,_,rfl⟩ k _
    rw[zcy0] at hi
    rw[zcy2] at hx
    obtain⟨t,et,rfl⟩:=zcy6.mp hx
    obtain⟨z,ez⟩:∃ z,(rowF (.list es0))[i]?=some z:=⟨_,zcx9 (by rw[zq9];omega)⟩
    rw[show (rowF (.list es0)).getD i (0,0,0)=z by rw[zcy3,ez];rfl] at k
    refine zg1 (s3 _ _ (s02 _ _ (hp0 i t z et ez))) ?_
    refine br_T ?_
    walk_at "wh"
    exact k rfl _ _ (Same.refl _) ⟨_,_,_,rfl⟩
   intro acc3 H3 f3 s3 h3
   rw[ze3,zcy0,hl0,← zq9 es0,zax4 fun z=>decide (z.1=h)] at h3
   refine zaa2 h3 ?_
   rw[zbk7]
   obtain⟨x1,ex1⟩:∃ x,xs[ds.length - 1]?=some x:=⟨_,zcx9 (by walk_at "om")⟩
   obtain⟨d1',ed1,hd1⟩:=l.get _ x1 ex1
   have m1:=dm d1' (zcy7 ed1)
   obtain⟨r1,ts1,es1,rfl,rfl,hr1,hl1,hp1,_⟩:=zaz0 hd1 (ea' d1' (zcy7 ed1))
   have b1:=(zab1 m1).1
   rw[getD_some ed1] at q
   have s03:=s02.trans s3
   have e3:=s3 _ _ e2
   refine zb9 (v:=.ref r1) e3 (zca5 (n:=ds.length - 1) (by walk_at "om") ex1) ?_
   refine zc8 (s03 _ _ hr1) ?_
   refine zo4 (Wk.list (SqL.of (s03 _ _ hr1))) (by rw[zcy0,sizeLine_eq];omega) (fun i=>.bl (decide (((rowF (.list es1)).getD i (0,0,0)).1=((rowF (.list es1)).getD i (0,0,0)).2.1))) (fun _=>true) (fun j σ=>∃ t u w:Option V,σ=[t,u,w]) ⟨none,none,none,rfl⟩ ?_ ?_
   ·rintro i x σ I R S hi s4 hx ⟨_,_,_,rfl⟩ k _
    rw[zcy0] at hi
    rw[zcy2] at hx
    obtain⟨t,et,rfl⟩:=zcy6.mp hx
    obtain⟨z,ez⟩:∃ z,(rowF (.list es1))[i]?=some z:=⟨_,zcx9 (by rw[zq9];omega)⟩
    rw[show (rowF (.list es1)).getD i (0,0,0)=z by rw[zcy3,ez];rfl] at k
    refine zg1 (s4 _ _ (s03 _ _ (hp1 i t z et ez))) ?_
    refine br_T ?_
    walk_at "wh"
    exact k rfl _ _ (Same.refl _) ⟨_,_,_,rfl⟩
   intro acc4 H4 f4 s4 h4
   rw[ze3,zcy0,hl1,← zq9 es1,zax4 fun z=>decide (z.1=z.2.1)] at h4
   refine zaa2 h4 ?_
   rw[zbk7]
   have s04:=s03.trans s4
   have e4:=s4 _ _ e3
   have q:∀ H',Same H H'->Q (.bl ((rowF (.list es0)).all (fun z=>decide (z.1=h))&&((rowF (.list es1)).all (fun z=>decide (z.1=z.2.1))&&zai6 ds))) H':=q
   walk_at "wh"
   cases e5:(rowF (.list es0)).all (fun z=>decide (z.1=h))
   ·have q:=q _ s04
    rw[e5] at q
    refine br_F ?_
    walk_at "wh"
    exact q
   rw[e5,zde0] at q
   refine br_T ?_
   walk_at "wh"
   cases e6:(rowF (.list es1)).all (fun z=>decide (z.1=z.2.1))
   ·have q:=q _ s04
    rw[e6] at q
    refine br_F ?_
    walk_at "wh"
    exact q
   rw[e6,zde0] at q
   refine br_T ?_
   refine zaj7 (SqL.of e4) (fun p5 H5 f5 s5 h5=>?_)
   rw[zae1 (by walk_at "om")] at h5
   have s05:=s04.trans s5
   refine zbr0 (SqL.of (s5 _ _ e4)) (SqL.of h5) ?_
   refine zo4 (Wk.zipN (n:=ds.length - 1) (SqL.of (s5 _ _ e4)) (SqL.of h5) (by walk_at "om") (by rw[zdc2];show _<=_ - 1;omega) (.inr (by rw[zdc2,ll];rfl))) (by rw[sizeLine_eq];omega) (fun i=>.bl (zal2 (ds.getD i .none) (ds.getD (i+1) .none))) (fun _=>true) (fun j σ=>∃ t u:Option V,σ=[t,u]) ⟨none,none,rfl⟩ ?_ ?_
   ·rintro j v σ H6 R S hj s6 ⟨p,x,y,rfl,hp,hx,hy⟩ ⟨t,u,rfl⟩ k _
    rw[zde5,show (1:Int).toNat+j=j+1 by show 1+j=j+1;omega] at hy
    obtain⟨d,ed,hd⟩:=l.get j x hx
    obtain⟨d',ed',hd'⟩:=l.get (j+1) y hy
    have s06:=s05.trans s6
    rw[getD_some ed,getD_some ed'] at k
    have il:∀ {d:PyData},sml d=true->rowD d=true->(zp6 d).length<=1000:=fun {d} m r=>by
     cases d with
     | list es=>exact (zab1 m).1
     | _=>simp[rowD] at r
    have rd:=ea' d (zcy7 ed)
    have rd':=ea' d' (zcy7 ed')
    refine zg1 hp ?_
    refine br_T ?_
    refine zby8 (hd.same s06) (hd'.same s06) rd rd' (il (dm d (zcy7 ed)) rd) (il (dm d' (zcy7 ed')) rd') (fun H7 s7=>?_)
    walk_at "wh"
    exact k rfl _ _ s7 ⟨_,_,rfl⟩
   intro acc6 H6 f6 s6 h6
   rw[ze3] at h6
   have h6:H6 acc6=some (.lst (((List.range (ds.length - 1)).map fun i=>zal2 (ds.getD i .none) (ds.getD (i+1) .none)).map V.bl)):=by rw[h6,zda5];rfl
   refine zaa2 h6 ?_
   rw[zde8]
   exact q _ (s05.trans s6)
  ·have q:=q _ s1
   rw[decide_eq_false hf] at q
   refine br_T ?_
   walk_at "wh"
   exact q
 all_goals simp[zae9] at eb
structure RwAt (H:Hp) (p:Addr) (bs:List Addr) (xs:List (Int×Int×Int)):Prop where
 out:H p=some (.lst (bs.map V.ref))
 len:bs.length=xs.length
 row:∀ (i:Nat) b x,bs[i]?=some b->xs[i]?=some x->H b=some (.tup [.int x.1,.int x.2.1,.int x.2.2])
theorem RwAt.same {H H':Hp}{p:Addr}{bs:List Addr}{xs:List (Int×Int×Int)}(R:RwAt H p bs xs) (s:Same H H'):RwAt H' p bs xs:=⟨s _ _ R.out,R.len,fun i b x e1 e2=>s _ _ (R.row i b x e1 e2)⟩
def flw (ms:List (List Int×Int)) (i:Nat):List ((Int×Int)×Int):=ms.map fun x=>(((x.1.drop i).sum,x.1.getD i 0),x.2)
def keyT (z:Int×Int×Int):Int×Int:=(z.1,z.2.1)
def zad3 (ms:List (List Int×Int)) (i:Nat) (xs:List (Int×Int×Int)):Prop:=OrdK (xs.map keyT)/\(∀ k,k∈xs.map keyT↔k∈(sumG (flw ms i)).map (·.1))/\∀ z∈xs,valG (sumG (flw ms i)) (keyT z)=some z.2.2
theorem zbh8 {κ:Type}[DecidableEq κ] {k:κ}:∀ {kv:List (κ×Int)},k∈kv.map (·.1)->∃ n,valG kv k=some n
 | [],h=>by cases h
 | z :: kv,h=>by
  by_cases e:z.1=k
  ·exact⟨z.2,zr8 e⟩
  ·rw[zr5 e]
   rw[zda7] at h
   rcases zcz5.mp h with h|h
   ·exact absurd h.symm e
   ·exact zbh8 h
structure StAt (H:Hp) (p:Addr) (rs:List (Addr×List Addr)) (xss:List (List (Int×Int×Int))):Prop where
 out:H p=some (.lst (rs.map fun r=>V.ref r.1))
 len:rs.length=xss.length
 row:∀ (i:Nat) r xs,rs[i]?=some r->xss[i]?=some xs->RwAt (rm p H) r.1 r.2 xs
 nd:(rs.map (·.1)).Nodup
theorem StAt.same {H H':Hp}{p:Addr}{rs:List (Addr×List Addr)}{xss:List (List (Int×Int×Int))}(R:StAt H p rs xss) (s:Same H H'):StAt H' p rs xss:=⟨s _ _ R.out,R.len,fun i r xs e1 e2=>(R.row i r xs e1 e2).same (Same.rm s),R.nd⟩
def zbl8 (ms:List (List Int×Int)) (f:Nat) (xss:List (List (Int×Int×Int))):Prop:=xss.length=f/\∀ (i:Nat) xs,xss[i]?=some xs->zad3 ms i xs/\xs.length<=ms.length
theorem zc2 {α:Type}{as:List α}{a b:α}{i:Nat}(h:(as++[a])[i]?=some b):(i<as.length/\as[i]?=some b)∨(i=as.length/\b=a):=by
 by_cases hi:i<as.length
 ·rw[zdc3 hi] at h
  exact .inl ⟨hi,h⟩
 ·rw[zdc6 (by walk_at "om")] at h
  have:i - as.length=0:=by
   have:=(zcy4.mp h).1
   simp at this;omega
  rw[this] at h
  cases h
  exact .inr ⟨by walk_at "om",rfl⟩
theorem zbf6 {H:Hp}:∀ {xs:List V}{ds:List PyData}{ys:List V}{es:List PyData},ShL H xs ds->ShL H ys es->ShL H (xs++ys) (ds++es)
 | _,_,_,_,.nil,b=>b
 | _,_,_,_,.cons h a,b=>.cons h (zbf6 a b)
theorem zx5 {d:PyData}:∀ {ds:List PyData},d∈ds->d.depth<=PyData.depthAll ds
 | [],h=>by cases h
 | e :: ds,h=>by
  rw[show PyData.depthAll (e :: ds)=max e.depth (PyData.depthAll ds) from rfl]
  rcases zcz5.mp h with rfl|h
  ·exact Nat.le_max_left _ _
  ·exact zdb4 (zx5 h) (Nat.le_max_right _ _)
def sp_deepD:Nat->Sp
 | 0=>fun _ _ _ _=>False
 | n+1=>fun vs H Q _=>∃ (v:V) (d:PyData),vs=[v]/\ShV H v d/\sml d=true/\d.depth<=n/\∀ v' H',Same H H'->ShV (nw H H') v' d->Q v' H'
def zbe7:Nat->Sp
 | 0=>fun _ _ _ _=>False
 | n+1=>fun vs H Q _=>∃ (v:V) (d:PyData),vs=[v]/\ShV H v d/\sml d=true/\d.depth<=n/\∀ v' H',Same H H'->ShV (nw H H') v' d->Q v' H'
@[irreducible] def zj7:Sp:=zbe7 9
theorem zbc5 {H:Hp}{v:V}{d:PyData}{Q:VK}{E:XK}(h:ShV H v d) (hs:sml d=true) (hd:d.depth<=8) (q:∀ v' H',Same H H'->ShV (nw H H') v' d->Q v' H'):zj7 [v] H Q E:=by unfold zj7;exact⟨v,d,rfl,h,hs,hd,q⟩
set_option maxHeartbeats 0 in
theorem zal4 {f:Addr}{fd:FuncData}(F:Fun K "_law_copied" "_law_copied" zm4 f fd) (N:Nm mg) (hgR:mg "_law_copied"=some (.ref f)) (hkR:zcy9 K (.ref f)=true) (hbR:zam6 K fd ["_law_thing"] []):FnOk P w K mg base CX0 10 f fd ["_law_thing"] zj7:=by
 have key:∀ n,FnOk P w K mg base CX0 (n+1) f fd ["_law_thing"] (zbe7 n):=by
  intro n
  induction n with
  | zero=>exact F.ok zaa7 (fun vs H Q E h=>h.elim) (fun cdv A outer s H vs Q E hr h=>h.elim)
  | succ n ih=>
   have zcs3:Def P w K mg base CX0 (n+1) "_law_copied" ["_law_thing"] (zbe7 n):=⟨f,fd,ih,hgR,hkR,hbR⟩
   refine F.ok zaa7 (fun vs H Q E h=>by obtain⟨_,_,rfl,_⟩:=h;rfl) (fun cdv A outer s H vs Q E hr h=>?_)
   refine⟨_,(za2 (psIf (ptV (pB (zy1 (K:=K) rfl) N.isinstance_ zb8 (za0 (pq 0) (za0 (pTy N.tuple_ zw0) za1)))) (za5 (za8 (pT (cTupK (K:=K) rfl) N.tuple_ zw0 (za0 (zj2 (N:=["_law_part"]) (ks:=[none]) (zk2 (K:=K) rfl (pq 0)) (fun cl C s3 H3 fp=>(za6 (i:=0) nb_19 rfl (by first|exact Or.inl rfl|exact Or.inr rfl))) (fun cl C s3 H3 fp=>zd5) (fun cl C s3 H3 fp=>(pD zcs3 hr zb5 (za0 (pq 0) za1) (hk:=by walk_at "om"))) (.skip .nil)) za1)))) zb6)
   (za2 (psIf (ptV (pB (zy1 (K:=K) rfl) N.isinstance_ zb8 (za0 (pq 0) (za0 (pTy N.list_ zk6) za1)))) (za5 (za8 (zj2 (N:=["_law_part"]) (ks:=[none]) (zk2 (K:=K) rfl (pq 0)) (fun cl C s3 H3 fp=>(za6 (i:=0) nb_19 rfl (by first|exact Or.inl rfl|exact Or.inr rfl))) (fun cl C s3 H3 fp=>zd5) (fun cl C s3 H3 fp=>(pD zcs3 hr zb5 (za0 (pq 0) za1) (hk:=by walk_at "om"))) (.skip .nil)))) zb6)
   (za5 (za8 (pq 0))))),?_⟩
   obtain⟨v,d,rfl,hv,hs,hd,q⟩:=h
   have inside:∀ {acc:Addr}{I I1 I2:Hp}{ys:List V},Same H I->I acc=some (.lst ys)->Same I I1->Chg acc I1 I2->Same (rm acc (nw H I)) (rm acc (nw H I2))/\Same (nw I I1) (rm acc (nw H I2)):=fun {acc I I1 I2 ys} s2 hacc s3 c2=>
    ⟨fun b o z=>by
     obtain⟨z1,z2⟩:=zz8 z
     obtain⟨z3,z4⟩:=zx2 z2
     exact zag1 z1 (zp7 z3 (c2 _ _ z1 (s3 _ _ z4))),
    fun b o z=>by
     obtain⟨z3,z4⟩:=zx2 z
     have nb:b≠acc:=fun w=>by rw[w,hacc] at z3;cases z3
     exact zag1 nb (zp7 (s2.free z3) (c2 _ _ nb z4))⟩
   refine zz4 hv (.inr (.inr (.inr rfl))) ?_
   cases hv
   case lst a xs ds e l=>
    have ll:=l.len
    obtain⟨dl,dm⟩:=zab1 hs
    have hd:PyData.depthAll ds+1<=n:=hd
    obtain⟨n',rfl⟩:∃ n',n=n'+1:=⟨n - 1,by walk_at "om"⟩
    refine br_F ?_
    refine zz4 (.lst e l) (.inr (.inr (.inl rfl))) ?_
    refine br_T ?_
    refine zc8 e ?_
    refine zbp8 (Wk.list (SqL.of e)) (by rw[sizeLine_eq];omega) (fun acc j ys σ I=>∃ t:Option V,σ=[t]/\ShL (rm acc (nw H I)) ys (ds.take j)) ?_ ?_ ?_ ?_
    ·intro acc I f1 s2 h1
     exact⟨none,rfl,.nil⟩
    ·rintro acc j ys σ I I' s' ⟨t,r1,r2⟩
     exact⟨t,r1,r2.same (Same.rm (zbc3 s'))⟩
    ·rintro acc j x ys σ I R S hj facc s1 hacc hx ⟨t,rfl,L⟩ kR _
     obtain⟨d,ed,hd'⟩:=l.get j x hx
     refine br_T ?_
     walk_at "wh"
     refine⟨x,d,rfl,hd'.same s1,dm d (zcy7 ed),by have:=zx5 (zcy7 ed);omega,fun v' I1 s2 S1=>?_⟩
     walk_at "wh"
     refine kR _ _ _ s2 (fun I2 c2=>⟨_,rfl,?_⟩)
     obtain⟨u1,u2⟩:=inside s1 hacc s2 c2
     rw[zdg5,ed]
     exact zbf6 (L.same u1) (.cons (S1.same u2) .nil)
    ·rintro acc ys σ I facc s1 hacc ⟨t,rfl,L⟩
     rw[ll,zde6] at L
     walk_at "wh"
     exact q _ _ s1 (.lst (zp7 facc hacc) (L.same (zap9 _ _)))
   case tup a xs ds e l=>
    have ll:=l.len
    obtain⟨dl,dm⟩:=zce4 hs
    have hd:PyData.depthAll ds+1<=n:=hd
    obtain⟨n',rfl⟩:∃ n',n=n'+1:=⟨n - 1,by walk_at "om"⟩
    refine br_T ?_
    refine zbh1 e ?_
    refine zbp8 (Wk.tup e) (by rw[sizeLine_eq];omega) (fun acc j ys σ I=>∃ t:Option V,σ=[t]/\ShL (rm acc (nw H I)) ys (ds.take j)) ?_ ?_ ?_ ?_
    ·intro acc I f1 s2 h1
     exact⟨none,rfl,.nil⟩
    ·rintro acc j ys σ I I' s' ⟨t,r1,r2⟩
     exact⟨t,r1,r2.same (Same.rm (zbc3 s'))⟩
    ·rintro acc j x ys σ I R S hj facc s1 hacc hx ⟨t,rfl,L⟩ kR _
     obtain⟨d,ed,hd'⟩:=l.get j x hx
     refine br_T ?_
     walk_at "wh"
     refine⟨x,d,rfl,hd'.same s1,dm d (zcy7 ed),by have:=zx5 (zcy7 ed);omega,fun v' I1 s2 S1=>?_⟩
     walk_at "wh"
     refine kR _ _ _ s2 (fun I2 c2=>⟨_,rfl,?_⟩)
     obtain⟨u1,u2⟩:=inside s1 hacc s2 c2
     rw[zdg5,ed]
     exact zbf6 (L.same u1) (.cons (S1.same u2) .nil)
    ·rintro acc ys σ I facc s1 hacc ⟨t,rfl,L⟩
     rw[ll,zde6] at L
     refine zcr2 (SqL.of hacc) (fun p2 I2 f2 s2 h2=>?_)
     walk_at "wh"
     exact q _ _ (s1.trans s2) (.tup (zp7 (s1.free f2) h2) ((L.same (zap9 _ _)).same (zbc3 s2)))
   all_goals
    refine br_F ?_
    walk_at "wh"
    first
     | refine zbs3 ?_ (by rfl)
     | refine zap6 ?_ (by rfl)
     | refine zar5 ?_ (by rfl)
     | refine zbz2 ?_ (by rfl)
    refine br_F ?_
    walk_at "wh"
    exact q _ _ (Same.refl _) (by constructor)
 unfold zj7
 exact key 9
def okD (n:Nat) (d:PyData):Prop:=sml d=true/\d.canLay0=true/\d.depth<=n
def Rd (H:Hp) (v:V) (n:Nat):Prop:=∃ d,ShV H v d/\okD n d/\(zp6 d).length<60
theorem Rd.same {H H':Hp}{v:V}{n:Nat}(h:Rd H v n) (s:Same H H'):Rd H' v n:=by obtain⟨d,h1,h2⟩:=h;exact⟨d,h1.same s,h2⟩
theorem okD.up {n m:Nat}{d:PyData}(h:okD n d) (l:n<=m):okD m d:=⟨h.1,h.2.1,zdb4 h.2.2 l⟩
theorem Rd.up {H:Hp}{v:V}{n m:Nat}(h:Rd H v n) (l:n<=m:=by decide):Rd H v m:=by obtain⟨d,h1,h2⟩:=h;exact⟨d,h1,h2.1.up l,h2.2⟩
theorem Rd.int {H:Hp}(i:Int) (n:Nat):Rd H (.int i) n:=⟨.int i,.int i,⟨rfl,rfl,zda6 _⟩,by show (0:Nat)<60;decide⟩
theorem Rd.non {H:Hp}(n:Nat):Rd H .non n:=⟨.none,.non,⟨rfl,rfl,zda6 _⟩,by show (0:Nat)<60;decide⟩
theorem zci8 {ds:List PyData}(h:∀ d∈ds,d.canLay0=true):PyData.canLayAll0 ds=true:=by
 induction ds with
 | nil=>rfl
 | cons d ds ih=>
  show (d.canLay0&&PyData.canLayAll0 ds)=true
  rw[h d (.head _),ih fun x hx=>h x (.tail _ hx)];rfl
theorem zag4:∀ {ds:List PyData},PyData.canLayAll0 ds=true->∀ d∈ds,d.canLay0=true
 | [],_,d,h=>by cases h
 | e :: ds,h,d,hd=>by
  have h:(e.canLay0&&PyData.canLayAll0 ds)=true:=h
  rw[zdb3] at h
  rcases zcz5.mp hd with rfl|hd
  ·exact h.1
  ·exact zag4 h.2 d hd
theorem zci3 {ds:List PyData}{n:Nat}(h:∀ d∈ds,d.depth<=n):PyData.depthAll ds<=n:=by
 induction ds with
 | nil=>exact zda6 _
 | cons d ds ih=>
  rw[show PyData.depthAll (d :: ds)=max d.depth (PyData.depthAll ds) from rfl]
  exact Nat.max_le.mpr ⟨h d (.head _),ih fun x hx=>h x (.tail _ hx)⟩
theorem okD.list {n:Nat}{ds:List PyData}(l:ds.length<=1000) (h:∀ d∈ds,okD n d):okD (n+1) (.list ds):=
 ⟨by simp only[sml,zdb3,decide_eq_true_eq];exact⟨by walk_at "om",zy7 fun d hd=>(h d hd).1⟩,zci8 fun d hd=>(h d hd).2.1,Nat.succ_le_succ (zci3 fun d hd=>(h d hd).2.2)⟩
theorem okD.tuple {n:Nat}{ds:List PyData}(l:ds.length<=1000) (h:∀ d∈ds,okD n d):okD (n+1) (.tuple ds):=
 ⟨by simp only[sml,zdb3,decide_eq_true_eq];exact⟨by walk_at "om",zy7 fun d hd=>(h d hd).1⟩,zci8 fun d hd=>(h d hd).2.1,Nat.succ_le_succ (zci3 fun d hd=>(h d hd).2.2)⟩
theorem Rd.lst {H:Hp}{a:Addr}{xs:List V}{n:Nat}(e:H a=some (.lst xs)) (l:xs.length<60) (h:∀ x∈xs,Rd H x n):Rd H (.ref a) (n+1):=by
 obtain⟨ds,h1,h2⟩:=ShL.ex (P:=fun d=>okD n d) fun x hx=>by obtain⟨d,h1,h2,_⟩:=h x hx;exact⟨d,h1,h2⟩
 exact⟨.list ds,.lst e h1,okD.list (by rw[← h1.len];omega) h2,by show ds.length<60;rw[← h1.len];exact l⟩
theorem Rd.tup {H:Hp}{a:Addr}{xs:List V}{n:Nat}(e:H a=some (.tup xs)) (l:xs.length<60) (h:∀ x∈xs,Rd H x n):Rd H (.ref a) (n+1):=by
 obtain⟨ds,h1,h2⟩:=ShL.ex (P:=fun d=>okD n d) fun x hx=>by obtain⟨d,h1,h2,_⟩:=h x hx;exact⟨d,h1,h2⟩
 exact⟨.tuple ds,.tup e h1,okD.tuple (by rw[← h1.len];omega) h2,by show (0:Nat)<60;decide⟩
theorem zat2:∀ {n:Nat}{d:PyData},d.depth<=n->d.canLay0=true->d.eqv d=true
 | _,.none,_,_=>rfl
 | _,.bool b,_,_=>by show (b==b)=true;exact beq_self_eq_true _
 | _,.int i,_,_=>by show (i==i)=true;exact beq_self_eq_true _
 | _,.str x,_,_=>by show (x==x)=true;exact beq_self_eq_true _
 | 0,.list ds,h,_=>by have h:PyData.depthAll ds+1<=0:=h;omega
 | 0,.tuple ds,h,_=>by have h:PyData.depthAll ds+1<=0:=h;omega
 | n+1,.list ds,h,c=>by
  have h:PyData.depthAll ds+1<=n+1:=h
  have c:PyData.canLayAll0 ds=true:=c
  show PyData.eqvAll ds ds=true
  exact all ds (fun d hd=>zat2 (n:=n) (zdb4 (zx5 hd) (by walk_at "om")) (zag4 c d hd))
 | n+1,.tuple ds,h,c=>by
  have h:PyData.depthAll ds+1<=n+1:=h
  have c:PyData.canLayAll0 ds=true:=c
  show PyData.eqvAll ds ds=true
  exact all ds (fun d hd=>zat2 (n:=n) (zdb4 (zx5 hd) (by walk_at "om")) (zag4 c d hd))
 | _,.dict _,_,c=>by cases (show false=true from c)
where all:∀ ds:List PyData,(∀ d∈ds,d.eqv d=true)->PyData.eqvAll ds ds=true
 | [],_=>rfl
 | d :: ds,h=>by
  show (d.eqv d&&PyData.eqvAll ds ds)=true
  rw[h d (.head _),all ds fun x hx=>h x (.tail _ hx)];rfl
theorem okD.eqv {n:Nat}{d:PyData}(h:okD n d):d.eqv d=true:=zat2 h.2.2 h.2.1
theorem zcj4 {K:zcy1}{H:Hp}{Q:VK}{n:Nat}{x y:V}{d:PyData}(hx:ShV H x d) (hy:ShV H y d) (o:okD n d) (hn:n<=40) (q:Q (.bl false) H):zca4 K x y H Q:=by
 have gen:rEqX K x y H fun v H'=>match v with
   | .bl b=>Q (.bl (!b)) H'
   | _=>False:=zbp7 hx hy o.2.1 o.2.1 (zdb4 o.2.2 hn) (by rw[o.eqv];exact q)
 unfold zca4 zbm7
 cases hx<;>cases hy
 case int i=>show Q (.bl (!decide (i=i))) H;rw[decide_eq_true rfl];exact q
 case bl i=>show Q (.bl (!decide (i=i))) H;rw[decide_eq_true rfl];exact q
 case str i=>show Q (.bl (!decide (i=i))) H;rw[decide_eq_true rfl];exact q
 all_goals exact gen
theorem zt7:∀ {ns:List Int},(∀ x∈ns,0<=x)->(∀ x∈ns,x<=ns.sum)/\0<=ns.sum
 | [],_=>⟨fun x h=>by (cases h),Int.le_refl _⟩
 | n :: ns,h=>by
  have h0:=h n (.head _)
  obtain⟨i1,i2⟩:=zt7 (ns:=ns) fun y hy=>h y (.tail _ hy)
  rw[zdc7]
  refine⟨fun x hx=>?_,by walk_at "om"⟩
  rcases zcz5.mp hx with rfl|hx
  ·omega
  ·have:=i1 x hx;omega
section
variable {κ μ:Type}[DecidableEq κ] [DecidableEq μ]
def atG (zs:List (κ×Int)) (k:κ):Int:=((zs.filter fun z=>decide (z.1=k)).map (·.2)).sum
theorem zbt5 {kv:List (κ×Int)}{k:κ}:k ∉ kv.map (·.1)->valG kv k=none:=by
 induction kv with
 | nil=>intro _;rfl
 | cons z kv ih=>
  intro h
  rw[zda7,zcz5,not_or] at h
  rw[zr5 (fun e=>h.1 e.symm),ih h.2]
theorem zcf1 (kv:List (κ×Int)) (k j:κ) (n:Int):valG (kv.map fun z=>if z.1=k then (z.1,n) else z) j=if j=k then (if j∈kv.map (·.1) then some n else none) else valG kv j:=by
 induction kv with
 | nil=>by_cases e:j=k<;>simp[e,valG]
 | cons z kv ih=>
  rw[zda7]
  by_cases ez:z.1=j
  ·subst ez
   by_cases ek:z.1=k
   ·rw[if_pos ek,if_pos ek,zr8 (z:=(z.1,n)) rfl,if_pos (by simp)]
   ·rw[if_neg ek,if_neg ek,zr8 rfl,zr8 rfl]
  ·have:¬ (if z.1=k then (z.1,n) else z).1=j:=by split<;>exact ez
   rw[zr5 this,ih,zr5 ez]
   by_cases ek:j=k
   ·rw[if_pos ek,if_pos ek]
    have:(j∈(z :: kv).map (·.1))↔j∈kv.map (·.1):=by
     rw[zda7,zcz5]
     exact⟨fun h=>h.resolve_left fun e=>ez e.symm,.inr⟩
    by_cases h:j∈kv.map (·.1)
    ·rw[if_pos h,if_pos (this.mpr h)]
    ·rw[if_neg h,if_neg fun z=>h (this.mp z)]
   ·rw[if_neg ek,if_neg ek]
theorem zao8 (kv:List (κ×Int)) (k:κ):(kv.any fun z=>decide (z.1=k))=true↔k∈kv.map (·.1):=by
 rw[List.any_eq_true,zda1]
 exact⟨fun ⟨z,h1,h2⟩=>⟨z,h1,of_decide_eq_true h2⟩,fun ⟨z,h1,h2⟩=>⟨z,h1,decide_eq_true h2⟩⟩
theorem zcf4 (kv:List (κ×Int)) (z:κ×Int) (j:κ):valG (kv++[z]) j=match valG kv j with|some n=>some n|none=>if z.1=j then some z.2 else none:=by
 induction kv with
 | nil=>
  by_cases e:z.1=j
  ·show valG [z] j=if z.1=j then some z.2 else none;rw[zr8 e,if_pos e]
  ·show valG [z] j=if z.1=j then some z.2 else none;rw[zr5 e,if_neg e];rfl
 | cons y kv ih=>
  rw[List.cons_append]
  by_cases e:y.1=j
  ·rw[zr8 e,zr8 e]
  ·rw[zr5 e,zr5 e,ih]
theorem zcf3 (kv:List (κ×Int)) (k j:κ) (n:Int):valG (putG kv k n) j=if j=k then some n else valG kv j:=by
 unfold putG
 by_cases h:(kv.any fun z=>decide (z.1=k))=true
 ·rw[if_pos h,zcf1]
  by_cases e:j=k
  ·rw[if_pos e,if_pos e,if_pos (by rw[e];exact (zao8 kv k).mp h)]
  ·rw[if_neg e,if_neg e]
 ·rw[if_neg h,zcf4]
  have hk:k ∉ kv.map (·.1):=fun z=>h ((zao8 kv k).mpr z)
  by_cases e:j=k
  ·subst e
   rw[zbt5 hk,if_pos rfl]
   first|done|exact if_pos rfl
  ·rw[if_neg e]
   cases valG kv j with
   | none=>exact if_neg fun z=>e z.symm
   | some m=>rfl
theorem zcg1 (zs:List (κ×Int)) (z:κ×Int) (k:κ):atG (zs++[z]) k=atG zs k+if z.1=k then z.2 else 0:=by
 unfold atG
 rw[List.filter_append,zda3,zdf0]
 by_cases e:z.1=k
 ·rw[if_pos e,zdf5,if_pos (decide_eq_true e)];simp
 ·rw[if_neg e,zdf5,if_neg (by rw[decide_eq_false e];exact zcz0)];simp
theorem zas6 (zs:List (κ×Int)) (z:κ×Int) (k:κ):atG (z :: zs) k=(if z.1=k then z.2 else 0)+atG zs k:=by
 unfold atG
 by_cases e:z.1=k
 ·rw[if_pos e,zdf5,if_pos (decide_eq_true e)];simp
 ·rw[if_neg e,zdf5,if_neg (by rw[decide_eq_false e];exact zcz0)];simp
theorem zbk5 {α:Type}{P:List α->Prop}(h0:P []) (hs:∀ xs x,P xs->P (xs++[x])) (xs:List α):P xs:=by
 have:∀ n (xs:List α),xs.length=n->P xs:=fun n=>by
  induction n with
  | zero=>intro xs h;rw[List.length_eq_zero_iff.mp h];exact h0
  | succ n ih=>
   intro xs h
   have hn:xs≠[]:=fun z=>by rw[z] at h;simp at h
   rw[← List.dropLast_concat_getLast hn]
   exact hs _ _ (ih _ (by rw[List.length_dropLast];omega))
 exact this _ xs rfl
theorem zai5 (zs:List (κ×Int)) (k:κ):valG (sumG zs) k=if k∈zs.map (·.1) then some (atG zs k) else none:=by
 induction zs using zbk5 with
 | h0=>rfl
 | hs zs z ih=>
  rw[zad4]
  unfold addG
  rw[zcf3,zcg1]
  have mm:k∈(zs++[z]).map (·.1)↔(k∈zs.map (·.1)∨k∈[z].map (·.1)):=by rw[zda3,zdd1]
  by_cases e:k=z.1
  ·subst e
   rw[if_pos rfl,if_pos (mm.mpr (.inr (by simp))),if_pos rfl,ih]
   by_cases h:z.1∈zs.map (·.1)
   ·rw[if_pos h];rfl
   ·rw[if_neg h]
    have:atG zs z.1=0:=by
     unfold atG
     rw[List.filter_eq_nil_iff.mpr fun y hy hd=>h (zda1.mpr ⟨y,hy,of_decide_eq_true hd⟩)];rfl
    rw[this];rfl
  ·have z0:(if z.1=k then z.2 else 0)=0:=if_neg fun q=>e q.symm
   rw[if_neg e,ih,z0,Int.add_zero]
   have:(k∈zs.map (·.1)∨k∈[z].map (·.1))↔k∈zs.map (·.1):=⟨fun h=>h.resolve_right fun q=>e (by simpa using q),.inl⟩
   by_cases h:k∈zs.map (·.1)
   ·rw[if_pos h,if_pos (mm.mpr (.inl h))]
   ·rw[if_neg h,if_neg fun q=>h (this.mp (mm.mp q))]
theorem zcc0 (kv:List (κ×Int)) (k:κ) (n:Int):(putG kv k n).map (·.1)=if k∈kv.map (·.1) then kv.map (·.1) else kv.map (·.1)++[k]:=by
 unfold putG
 by_cases h:(kv.any fun z=>decide (z.1=k))=true
 ·rw[if_pos h,if_pos ((zao8 kv k).mp h),zda5]
  refine zda4 fun z _=>?_
  show (if z.1=k then (z.1,n) else z).1=z.1
  split<;>rfl
 ·rw[if_neg h,if_neg fun z=>h ((zao8 kv k).mpr z),zda3];rfl
theorem zq8 (zs:List (κ×Int)):((sumG zs).map (·.1)).Nodup/\∀ k,k∈(sumG zs).map (·.1)↔k∈zs.map (·.1):=by
 induction zs using zbk5 with
 | h0=>exact⟨List.nodup_nil,fun k=>Iff.rfl⟩
 | hs zs z ih=>
  rw[zad4]
  unfold addG
  rw[zcc0]
  by_cases h:z.1∈(sumG zs).map (·.1)
  ·rw[if_pos h]
   refine⟨ih.1,fun k=>?_⟩
   rw[ih.2,zda3,zdd1]
   exact⟨.inl,fun q=>q.elim id fun q=>by rw[show k=z.1 by simpa using q];exact (ih.2 _).mp h⟩
  ·rw[if_neg h]
   refine⟨?_,fun k=>?_⟩
   ·rw[zdg1]
    refine⟨ih.1,by simp,fun a ha b hb=>?_⟩
    rw[show b=z.1 by simpa using hb]
    exact fun q=>h (q▸ha)
   ·rw[zdd1,ih.2,zda3,zdd1];rfl
theorem zcd3 {kv:List (κ×Int)}(nd:(kv.map (·.1)).Nodup) {z:κ×Int}(h:z∈kv):valG kv z.1=some z.2:=by
 induction kv with
 | nil=>cases h
 | cons y kv ih=>
  rw[zda7,zdd9] at nd
  rcases zcz5.mp h with rfl|h
  ·exact zr8 rfl
  ·rw[zr5 (fun e=>nd.1 (e▸zda1.mpr ⟨z,h,rfl⟩))]
   exact ih nd.2 h
theorem atG_ge {zs:List (κ×Int)}(h1:∀ z∈zs,1<=z.2):∀ {k:κ},(0<=atG zs k)/\(k∈zs.map (·.1)->1<=atG zs k):=by
 induction zs with
 | nil=>exact fun {k}=>⟨Int.le_refl _,fun h=>by cases h⟩
 | cons z zs ih=>
  intro k
  obtain⟨i1,i2⟩:=ih (fun y hy=>h1 y (.tail _ hy)) (k:=k)
  have z1:=h1 z (.head _)
  rw[zas6]
  by_cases e:z.1=k
  ·rw[if_pos e]
   exact⟨by walk_at "om",fun _=>by walk_at "om"⟩
  ·rw[if_neg e]
   refine⟨by walk_at "om",fun h=>?_⟩
   rw[zda7,zcz5] at h
   have:=i2 (h.resolve_left fun q=>e q.symm)
   omega
theorem zbc9 {p:κ->Bool}{a:κ}{c:Int}:∀ {ks:List κ},ks.Nodup->((ks.filter p).map fun k=>if a=k then c else 0).sum=if a∈ks/\p a=true then c else 0
 | [],_=>by simp
 | k :: ks,nd=>by
  rw[zdd9] at nd
  have ih:=zbc9 (p:=p) (a:=a) (c:=c) nd.2
  rw[zdf5]
  by_cases e:a=k
  ·subst e
   have:¬ (a∈ks/\p a=true):=fun h=>nd.1 h.1
   rw[if_neg this] at ih
   by_cases hp:p a=true
   ·rw[if_pos hp,zda7,zdc7,ih,if_pos rfl,if_pos ⟨.head _,hp⟩];omega
   ·rw[if_neg hp,ih,if_neg fun h=>hp h.2]
  ·have:(a∈k :: ks/\p a=true)↔(a∈ks/\p a=true):=by rw[zcz5];exact⟨fun h=>⟨h.1.resolve_left e,h.2⟩,fun h=>⟨.inr h.1,h.2⟩⟩
   have st:∀ b,(if b=true then k :: ks.filter p else ks.filter p).map (fun k=>if a=k then c else 0)=if b=true then 0 :: (ks.filter p).map (fun k=>if a=k then c else 0) else (ks.filter p).map fun k=>if a=k then c else 0:=fun b=>by
    cases b
    ·rfl
    ·show (if a=k then c else 0) :: _=_
     rw[if_neg e];rfl
   rw[st]
   have s0:(if p k=true then (0:Int) :: (ks.filter p).map (fun k=>if a=k then c else 0) else (ks.filter p).map fun k=>if a=k then c else 0).sum=((ks.filter p).map fun k=>if a=k then c else 0).sum:=by
    split
    ·rw[zdc7,zdc8]
    ·rfl
   rw[s0,ih]
   by_cases h:a∈ks/\p a=true
   ·rw[if_pos h,if_pos (this.mpr h)]
   ·rw[if_neg h,if_neg fun q=>h (this.mp q)]
theorem zat8 {α:Type}(f g:α->Int):∀ xs:List α,(xs.map fun x=>f x+g x).sum=(xs.map f).sum+(xs.map g).sum
 | []=>rfl
 | x :: xs=>by
  have:=zat8 f g xs
  simp only[zda7,zdc7]
  omega
theorem zbw4 {p:κ->Bool}{ks:List κ}(nd:ks.Nodup):∀ {zs:List (κ×Int)},(∀ z∈zs,z.1∈ks)->((ks.filter p).map (atG zs)).sum=((zs.filter fun z=>p z.1).map (·.2)).sum
 | [],_=>by
  have:((ks.filter p).map (atG ([]:List (κ×Int)))).sum=0:=by
   induction (ks.filter p) with
   | nil=>rfl
   | cons k l ih=>rw[zda7,zdc7,ih];rfl
  rw[this];rfl
 | z :: zs,h=>by
  have ih:=zbw4 (p:=p) nd (zs:=zs) fun y hy=>h y (.tail _ hy)
  have e:(ks.filter p).map (atG (z :: zs))=(ks.filter p).map fun k=>(if z.1=k then z.2 else 0)+atG zs k:=zda4 fun k _=>zas6 zs z k
  rw[e,zat8,zbc9 nd,ih,zdf5]
  by_cases hp:p z.1=true
  ·rw[if_pos ⟨h z (.head _),hp⟩,if_pos hp];rfl
  ·rw[if_neg fun q=>hp q.2,if_neg hp,zdc8]
end
theorem zcn4 {za zb:List (Int×Int)}(h:∀ k,valG (sumG za) k=valG (sumG zb) k):eqDI (sumG za) (sumG zb)=true:=by
 obtain⟨na,ma⟩:=zq8 za
 obtain⟨nb,mb⟩:=zq8 zb
 have keys:∀ k,k∈(sumG za).map (·.1)↔k∈(sumG zb).map (·.1):=fun k=>by
  rw[ma,mb]
  have:=h k
  rw[zai5,zai5] at this
  by_cases h1:k∈za.map (·.1)<;>by_cases h2:k∈zb.map (·.1)<;>simp[h1,h2] at this ⊢
 have len:=((List.perm_ext_iff_of_nodup na nb).mpr keys).length_eq
 rw[zcy0,zcy0] at len
 unfold eqDI
 rw[len,beq_self_eq_true,zde0,zda9]
 intro z hz
 have e:valI (sumG zb) z.1=valG (sumG zb) z.1:=rfl
 rw[e,← h,zcd3 na hz]
 exact beq_self_eq_true _
theorem zar8 {x y:Int×Int}:ltP x y=true↔x.1<y.1∨(x.1=y.1/\x.2<y.2):=by
 unfold ltP
 by_cases e:x.1=y.1
 ·rw[if_pos (by simpa using e)]
  by_cases e2:x.2=y.2
  ·rw[if_pos (by simpa using e2)]
   exact⟨fun h=>by (cases h),fun h=>by walk_at "om"⟩
  ·rw[if_neg (by simpa using e2),decide_eq_true_iff];omega
 ·rw[if_neg (by simpa using e),decide_eq_true_iff];omega
def zaa3 (z:Int×Int×Int):PyData:=.tuple [.int z.1,.int z.2.1,.int z.2.2]
def zk8 (xs:List (Int×Int×Int)):PyData:=.list (xs.map zaa3)
def stmD (xss:List (List (Int×Int×Int))):PyData:=.list (xss.map zk8)
theorem zah8 (xs:List (Int×Int×Int)):rowF (zk8 xs)=xs:=by
 unfold rowF zk8
 show (xs.map zaa3).map triD=xs
 rw[zda5]
 exact (zda4 fun x _=>rfl).trans (List.map_id _)
theorem zab2 {ns:List Int}(nn:∀ n∈ns,0<=n) {i:Nat}(hi:i<ns.length):0<=ns.getD i 0/\ns.getD i 0<=(ns.drop i).sum/\(ns.drop i).sum - ns.getD i 0=(ns.drop (i+1)).sum:=by
 have e:ns.drop i=ns[i] :: ns.drop (i+1):=zdd8 hi
 have g:ns.getD i 0=ns[i]:=by rw[zcy3,zcx9 hi];rfl
 have z:=(zt7 (ns:=ns.drop (i+1)) fun n hn=>nn n (List.mem_of_mem_drop hn)).2
 rw[g,e,zdc7]
 exact⟨nn _ (zde4 hi),by walk_at "om",by walk_at "om"⟩
structure OkS (ms:List (List Int×Int)) (h:Int) (f:Nat):Prop where
 ne:1<=ms.length
 f1:1<=f
 all:∀ x∈ms,(∀ n∈x.1,0<=n)/\x.1.length=f/\x.1.sum=h/\1<=x.2
theorem zas2 {ms:List (List Int×Int)}{i:Nat}{xs:List (Int×Int×Int)}(R:zad3 ms i xs) {z:Int×Int×Int}(hz:z∈xs):∃ x∈ms,z.1=(x.1.drop i).sum/\z.2.1=x.1.getD i 0:=by
 have:keyT z∈(sumG (flw ms i)).map (·.1):=(R.2.1 _).mp (zda1.mpr ⟨z,hz,rfl⟩)
 rw[(zq8 _).2,zda1] at this
 obtain⟨y,hy,ey⟩:=this
 unfold flw at hy
 obtain⟨x,hx,rfl⟩:=zda1.mp hy
 have ey:((x.1.drop i).sum,x.1.getD i 0)=(z.1,z.2.1):=ey
 exact⟨x,hx,(congrArg Prod.fst ey).symm,(congrArg Prod.snd ey).symm⟩
theorem zw4 {ms:List (List Int×Int)}{h:Int}{f i:Nat}{xs:List (Int×Int×Int)}(O:OkS ms h f) (hi:i<f) (R:zad3 ms i xs) {z:Int×Int×Int}(hz:z∈xs):0<=z.2.1/\z.2.1<=z.1/\z.2.2=atG (flw ms i) (keyT z)/\1<=z.2.2:=by
 obtain⟨x,hx,e1,e2⟩:=zas2 R hz
 obtain⟨nn,xl,_,_⟩:=O.all x hx
 obtain⟨a,b,_⟩:=zab2 nn (i:=i) (by walk_at "om")
 have v:=R.2.2 z hz
 rw[zai5] at v
 have km:keyT z∈(flw ms i).map (·.1):=(zq8 _).2 _ |>.mp ((R.2.1 _).mp (zda1.mpr ⟨z,hz,rfl⟩))
 rw[if_pos km] at v
 have v:=Option.some.inj v
 have w:∀ y∈flw ms i,1<=y.2:=fun y hy=>by
  unfold flw at hy
  obtain⟨x,hx,rfl⟩:=zda1.mp hy
  exact (O.all x hx).2.2.2
 have g:=(atG_ge w (k:=keyT z)).2 km
 exact⟨by walk_at "om",by walk_at "om",v.symm,by walk_at "om"⟩
theorem zck3 {ms:List (List Int×Int)}{h:Int}{f i:Nat}{xs:List (Int×Int×Int)}(O:OkS ms h f) (hi:i<f) (R:zad3 ms i xs):rowD (zk8 xs)=true:=by
 show ((xs.map zaa3).all zaa9&&incD (xs.map zaa3))=true
 rw[zdb3]
 constructor
 ·rw[zde8,zda9]
  intro z hz
  obtain⟨a,b,_,c⟩:=zw4 O hi R hz
  show (decide ((0:Int)<=z.1)&&decide ((0:Int)<=z.2.1/\z.2.1<=z.1)&&decide ((1:Int)<=z.2.2))=true
  rw[decide_eq_true (show (0:Int)<=z.1 by walk_at "om"),decide_eq_true (show (0:Int)<=z.2.1/\z.2.1<=z.1 from ⟨a,b⟩),decide_eq_true c];rfl
 ·unfold incD
  rw[zcy0,zda9]
  intro j hj
  have hj:=zdc0.mp hj
  have p:=List.pairwise_iff_getElem.mp R.1.2 j (j+1) (by rw[zcy0];omega) (by rw[zcy0];omega) (by walk_at "om")
  have g:∀ (j:Nat) (hj:j<xs.length),keyD ((xs.map zaa3).getD j .none)=(xs.map keyT)[j]'(by rw[zcy0];exact hj):=fun j hj=>by
   rw[zcy3,zcy2,zcx9 hj,zdg4];rfl
  rw[g j (by walk_at "om"),g (j+1) (by walk_at "om")]
  exact p
theorem zau3 {ms:List (List Int×Int)}{i:Nat}{xs:List (Int×Int×Int)}(R:zad3 ms i xs) (hv:∀ z∈xs,z.2.2=atG (flw ms i) (keyT z)) (g:Int×Int->Int) (k:Int):valG (sumG (xs.map fun z=>(g (keyT z),z.2.2))) k=valG (sumG ((flw ms i).map fun z=>(g z.1,z.2))) k:=by
 rw[zai5,zai5]
 have mem:k∈(xs.map fun z=>(g (keyT z),z.2.2)).map (·.1)↔k∈((flw ms i).map fun z=>(g z.1,z.2)).map (·.1):=by
  rw[zda5,zda5,zda1,zda1]
  constructor
  ·rintro⟨z,hz,rfl⟩
   have:=(zq8 _).2 _ |>.mp ((R.2.1 _).mp (zda1.mpr ⟨z,hz,rfl⟩))
   obtain⟨y,hy,ey⟩:=zda1.mp this
   exact⟨y,hy,congrArg g ey⟩
  ·rintro⟨y,hy,rfl⟩
   have:y.1∈xs.map keyT:=(R.2.1 _).mpr ((zq8 _).2 _ |>.mpr (zda1.mpr ⟨y,hy,rfl⟩))
   obtain⟨z,hz,ez⟩:=zda1.mp this
   exact⟨z,hz,congrArg g ez⟩
 have at1:atG (xs.map fun z=>(g (keyT z),z.2.2)) k=(((xs.map keyT).filter fun q=>decide (g q=k)).map (atG (flw ms i))).sum:=by
  unfold atG
  rw[List.filter_map,List.filter_map,zda5,zda5]
  refine congrArg List.sum (zda4 fun z hz=>?_)
  exact hv z (List.mem_filter.mp hz).1
 have at2:atG ((flw ms i).map fun z=>(g z.1,z.2)) k=(((flw ms i).filter fun z=>decide (g z.1=k)).map (·.2)).sum:=by
  unfold atG
  rw[List.filter_map,zda5]
  rfl
 rw[at1,at2,zbw4 (p:=fun q=>decide (g q=k)) R.1.1 fun z hz=>(R.2.1 _).mpr ((zq8 _).2 _ |>.mpr (zda1.mpr ⟨z,hz,rfl⟩))]
 by_cases h:k∈(xs.map fun z=>(g (keyT z),z.2.2)).map (·.1)
 ·rw[if_pos h,if_pos (mem.mp h)]
 ·rw[if_neg h,if_neg fun q=>h (mem.mpr q)]
theorem zbx9 {ms:List (List Int×Int)}{h:Int}{f i:Nat}{xs ys:List (Int×Int×Int)}(O:OkS ms h f) (hi:i+1<f) (R1:zad3 ms i xs) (R2:zad3 ms (i+1) ys):zal2 (zk8 xs) (zk8 ys)=true:=by
 unfold zal2
 rw[zah8,zah8]
 refine zcn4 fun k=>?_
 have a:=zau3 R1 (fun z hz=>(zw4 O (by walk_at "om") R1 hz).2.2.1) (fun q=>q.1 - q.2) k
 have b:=zau3 R2 (fun z hz=>(zw4 O hi R2 hz).2.2.1) (fun q=>q.1) k
 have e:((flw ms i).map fun z=>(z.1.1 - z.1.2,z.2))=(flw ms (i+1)).map fun z=>(z.1.1,z.2):=by
  unfold flw
  rw[zda5,zda5]
  refine zda4 fun x hx=>?_
  obtain⟨nn,xl,_,_⟩:=O.all x hx
  obtain⟨_,_,c⟩:=zab2 nn (i:=i) (by walk_at "om")
  show ((x.1.drop i).sum - x.1.getD i 0,x.2)=((x.1.drop (i+1)).sum,x.2)
  rw[c]
 have a:valG (sumG (xs.map fun z=>(z.1 - z.2.1,z.2.2))) k=valG (sumG ((flw ms i).map fun z=>(z.1.1 - z.1.2,z.2))) k:=a
 have b:valG (sumG (ys.map fun z=>(z.1,z.2.2))) k=valG (sumG ((flw ms (i+1)).map fun z=>(z.1.1,z.2))) k:=b
 rw[a,e,b]
theorem stm_ok {ms:List (List Int×Int)}{h:Int}{f:Nat}{xss:List (List (Int×Int×Int))}(O:OkS ms h f) (S:zbl8 ms f xss):zk1 h f (stmD xss)=true:=by
 have f1:=O.f1
 have gd:∀ (i:Nat) (hi:i<xss.length),(xss.map zk8).getD i .none=zk8 xss[i]:=fun i hi=>by
  rw[zcy3,zcy2,zcx9 hi];rfl
 have ri:∀ (i:Nat) (hi:i<xss.length),zad3 ms i xss[i]:=fun i hi=>(S.2 i _ (zcx9 hi)).1
 have sl:=S.1
 have l0:0<xss.length:=by walk_at "om"
 have r0:=ri 0 l0
 obtain⟨x0,ex0⟩:∃ x,ms[0]?=some x:=⟨_,zcx9 (by have:=O.ne;omega)⟩
 have n0:0<(xss[0]).length:=by
  have:((x0.1.drop 0).sum,x0.1.getD 0 0)∈(xss[0]).map keyT:=(r0.2.1 _).mpr ((zq8 _).2 _ |>.mpr (by
   unfold flw
   rw[zda5]
   exact zda1.mpr ⟨x0,zcy7 ex0,rfl⟩))
  obtain⟨z,hz,_⟩:=zda1.mp this
  exact List.length_pos_of_mem hz
 have items:zp6 (stmD xss)=xss.map zk8:=rfl
 unfold zk1
 rw[items]
 have b:zae9 (stmD xss)=true:=by
  show (decide (0<(xss.map zk8).length)&&rowD ((xss.map zk8).getD 0 .none)&&decide (0<(zp6 ((xss.map zk8).getD 0 .none)).length))=true
  rw[gd 0 l0,zcy0,decide_eq_true l0,zck3 O (by walk_at "om") r0]
  show (true&&true&&decide (0<((xss[0]).map zaa3).length))=true
  rw[zcy0,decide_eq_true n0];rfl
 have c1:decide ((((xss.map zk8).length:Nat):Int)=(f:Int))=true:=decide_eq_true (by rw[zcy0,sl])
 have c2:(xss.map zk8).all rowD=true:=by
  rw[zde8,zda9]
  intro xs hx
  obtain⟨i,ei⟩:=zdb9 hx
  exact zck3 O (by have:=(zcy4.mp ei).1;omega) (S.2 i xs ei).1
 have c3:fullD h ((xss.map zk8).getD 0 .none)=true:=by
  rw[gd 0 l0]
  unfold fullD
  rw[zah8,zda9]
  intro z hz
  obtain⟨x,hx,e1,_⟩:=zas2 r0 hz
  rw[e1,List.drop_zero]
  exact decide_eq_true (O.all x hx).2.2.1
 have c4:goneD ((xss.map zk8).getD ((xss.map zk8).length - 1) .none)=true:=by
  rw[zcy0,gd (xss.length - 1) (by walk_at "om")]
  unfold goneD
  rw[zah8,zda9]
  intro z hz
  obtain⟨x,hx,e1,e2⟩:=zas2 (ri _ (by walk_at "om")) hz
  obtain⟨nn,xl,_,_⟩:=O.all x hx
  obtain⟨_,_,c⟩:=zab2 nn (i:=xss.length - 1) (by walk_at "om")
  rw[zdd7 (i:=xss.length - 1+1) (by walk_at "om")] at c
  have:([]:List Int).sum=0:=rfl
  rw[e1,e2]
  exact decide_eq_true (by walk_at "om")
 have c5:zai6 (xss.map zk8)=true:=by
  unfold zai6
  rw[zcy0,zda9]
  intro i hi
  have hi:=zdc0.mp hi
  rw[gd i (by walk_at "om"),gd (i+1) (by walk_at "om")]
  exact zbx9 O (by walk_at "om") (ri i (by walk_at "om")) (ri (i+1) (by walk_at "om"))
 rw[b,c1,c2,c3,c4,c5];rfl
theorem RwAt.shL {H:Hp}{p:Addr}{bs:List Addr}{xs:List (Int×Int×Int)}(R:RwAt H p bs xs):ShL H (bs.map V.ref) (xs.map zaa3):=ShL.idx (by rw[zcy0,zcy0,R.len]) fun i x d h1 h2=>by
 rw[zcy2] at h1 h2
 obtain⟨b,eb,rfl⟩:=zcy6.mp h1
 obtain⟨z,ez,rfl⟩:=zcy6.mp h2
 exact .tup (R.row i b z eb ez) (.cons (.int _) (.cons (.int _) (.cons (.int _) .nil)))
theorem RwAt.sh {H:Hp}{p:Addr}{bs:List Addr}{xs:List (Int×Int×Int)}(R:RwAt H p bs xs):ShV H (.ref p) (zk8 xs):=.lst R.out R.shL
def row7 (c:Bool) (xs:List (Int×Int×Int)):PyData:=.list (xs.map zaa3++if c=true then [.int 7] else [])
theorem row7_F (xs:List (Int×Int×Int)):row7 false xs=zk8 xs:=by unfold row7 zk8;rw[if_neg zcz0,List.append_nil]
theorem tri_ok (z:Int×Int×Int):okD 1 (zaa3 z):=okD.tuple (n:=0) (by show 3<=1000;decide) fun d hd=>by
 simp only[zcz5,zdb7,or_false] at hd
 rcases hd with rfl|rfl|rfl<;>exact⟨rfl,rfl,zda6 _⟩
theorem zcr5 {c:Bool}{xs:List (Int×Int×Int)}(h:xs.length<64):okD 2 (row7 c xs):=okD.list (n:=1) (by rw[zcz8,zcy0];split<;>simp<;>omega) fun d hd=>by
 rcases zdd1.mp hd with hd|hd
 ·obtain⟨z,_,rfl⟩:=zda1.mp hd;exact tri_ok z
 ·split at hd
  ·rw[zdb2.mp hd];exact⟨rfl,rfl,zda6 _⟩
  ·cases hd
theorem zcl4 {c:Bool}{xss:List (List (Int×Int×Int))}(hl:xss.length<64) (h:∀ xs∈xss,xs.length<64):okD 3 (.list (xss.map (row7 c))):=okD.list (n:=2) (by rw[zcy0];omega) fun d hd=>by
 obtain⟨xs,hx,rfl⟩:=zda1.mp hd
 exact zcr5 (h xs hx)
theorem zcd5 (xss:List (List (Int×Int×Int))):stmD xss=.list (xss.map (row7 false)):=by
 unfold stmD
 rw[zda4 fun xs _=>(row7_F xs).symm]
theorem zcb0 (n:Nat):((List.range n).map fun _=>V.bl true)=((List.range n).map fun _=>true).map V.bl:=by rw[zda5];rfl
theorem zbi1 (n:Nat):((List.range n).map fun _=>true).all id=true:=by rw[zde8];exact zbg4 n
inductive Fd where
 | more (w t:Int)
 | lead (w l:Int)
 | tab (g:Nat->Nat->Int)
def Fd.won:Fd->Nat->Nat->Int
 | .more w t,x,y=>if x=y then t else if y<x then w else -w
 | .lead w l,x,y=>if l<=(x:Int) - y then w else -w
 | .tab g,x,y=>g x y
def Fd.Ok:Fd->Prop
 | .more w t=>1<=w/\-w<=t/\t<=w
 | .lead w _=>1<=w
 | .tab _=>True
def FdAt (H:Hp) (p:Addr) (a c:Nat):Fd->Prop
 | .more w t=>H p=some (.tup [.str "more",.int w,.int t])
 | .lead w l=>H p=some (.tup [.str "lead",.int w,.int l])
 | .tab g=>∃ q ps,H p=some (.tup [.str "table",.ref q])/\zd3 H q ps (a+1) (c+1) g
theorem FdAt.same {H H':Hp}{p:Addr}{a c:Nat}{f:Fd}(F:FdAt H p a c f) (s:Same H H'):FdAt H' p a c f:=by
 cases f with
 | more w t=>exact s _ _ F
 | lead w l=>exact s _ _ F
 | tab g=>
  obtain⟨q,ps,h1,h2⟩:=F
  exact⟨q,ps,s _ _ h1,h2.same s⟩
theorem FdAt.some {H:Hp}{p:Addr}{a c:Nat}{f:Fd}(F:FdAt H p a c f):∃ xs,H p=some (.tup xs):=by
 cases f with
 | more w t=>exact⟨_,F⟩
 | lead w l=>exact⟨_,F⟩
 | tab g=>
  obtain⟨q,ps,h1,h2⟩:=F
  exact⟨_,h1⟩
structure zl4 (H:Hp) (b l:Addr) (ps:List Addr) (a c:Nat) (fs:List Fd):Prop where
 out:H b=some (.tup [.int a,.int c,.ref l])
 lst:H l=some (.lst (ps.map V.ref))
 len:ps.length=fs.length
 fld:∀ (i:Nat) p f,ps[i]?=some p->fs[i]?=some f->FdAt H p a c f/\f.Ok
abbrev OkB (a c:Nat) (fs:List Fd):Prop:=(a<=10/\c<=10)/\1<=fs.length/\fs.length<=5
theorem zl4.same {H H':Hp}{b l:Addr}{ps:List Addr}{a c:Nat}{fs:List Fd}(B:zl4 H b l ps a c fs) (s:Same H H'):zl4 H' b l ps a c fs:=⟨s _ _ B.out,s _ _ B.lst,B.len,fun i p f h1 h2=>⟨(B.fld i p f h1 h2).1.same s,(B.fld i p f h1 h2).2⟩⟩
theorem zl4.elt {H:Hp}{b l:Addr}{ps:List Addr}{a c:Nat}{fs:List Fd}(B:zl4 H b l ps a c fs) {i:Nat}{v:V}(e:(ps.map V.ref)[i]?=some v):∃ p f,v=.ref p/\ps[i]?=some p/\fs[i]?=some f/\FdAt H p a c f/\f.Ok:=by
 rw[zcy2] at e
 obtain⟨p,ep,rfl⟩:=zcy6.mp e
 obtain⟨f,ef⟩:∃ f,fs[i]?=some f:=⟨_,zcx9 (by have:=(zcy4.mp ep).1;have:=B.len;omega)⟩
 exact⟨p,f,rfl,ep,ef,B.fld i p f ep ef⟩
@[irreducible] def zai7:Sp:=fun vs H Q _=>∃ (p:Addr) (a c x y:Nat) (f:Fd),vs=[.ref p,.int x,.int y]/\FdAt H p a c f/\x<=a/\y<=c/\Q (.int (f.won x y)) H
theorem zcj5 {H:Hp}{p:Addr}{a c x y:Nat}{f:Fd}{Q:VK}{E:XK}(F:FdAt H p a c f) (h1:x<=a) (h2:y<=c) (q:Q (.int (f.won x y)) H):zai7 [.ref p,.int x,.int y] H Q E:=by unfold zai7;exact⟨p,a,c,x,y,f,rfl,F,h1,h2,q⟩
theorem ok_won {f:Addr}{fd:FuncData}(F:Fun K "won" "won" zbn5 f fd) (N:Nm mg):FnOk P w K mg base CX0 1 f fd ["field","x","y"] zai7:=by
 refine F.ok sc_won (fun vs H Q E h=>by unfold zai7 at h;obtain⟨_,_,_,_,_,_,rfl,_⟩:=h;rfl) (fun cdv A outer s H vs Q E hr h=>?_)
 unfold zai7 at h
 obtain⟨p,a,c,x,y,f,rfl,F,h1,h2,q⟩:=h
 have hu:=hu40 hr
 refine⟨_,(za2 (psIf (ptC (oEqK (K:=K) rfl (by exact hu)) (za7 (K:=K) rfl (pq 0) za3) zf2) (za5 (za8 (za7 (K:=K) rfl (za7 (K:=K) rfl (za7 (K:=K) rfl (pq 0) za3) (pq 1)) (pq 2)))) zb6)
   (za2 (psIf (ptC (oEqK (K:=K) rfl (by exact hu)) (za7 (K:=K) rfl (pq 0) za3) zf2) (za5 (za8 (peIf (ptC oGe (zb4 oSub (pq 1) (pq 2)) (za7 (K:=K) rfl (pq 0) za3)) (za7 (K:=K) rfl (pq 0) za3) (zbe0 uNeg (za7 (K:=K) rfl (pq 0) za3))))) zb6)
   (za2 (psIf (ptC (oEqK (K:=K) rfl (by exact hu)) (pq 1) (pq 2)) (za5 (za8 (za7 (K:=K) rfl (pq 0) za3))) zb6)
   (za5 (za8 (peIf (ptC oGt (pq 1) (pq 2)) (za7 (K:=K) rfl (pq 0) za3) (zbe0 uNeg (za7 (K:=K) rfl (pq 0) za3)))))))),?_⟩
 cases f with
 | more wt t=>
  have F:H p=some (.tup [.str "more",.int wt,.int t]):=F
  refine za9 (v:=.str "more") F rfl ?_
  refine zw6 (by decide) ?_
  refine za9 (v:=.str "more") F rfl ?_
  refine zw6 (by decide) ?_
  walk_at "wh"
  have q:Q (.int (if x=y then t else if y<x then wt else -wt)) H:=q
  refine zp5 (fun h=>?_) (fun h=>?_)
  ·walk_at "wh"
   refine za9 (v:=.int t) F rfl ?_
   walk_at "wh"
   rw[if_pos (by walk_at "om")] at q
   exact q
  ·rw[if_neg (by walk_at "om")] at q
   refine zp5 (fun h=>?_) (fun h=>?_)
   ·walk_at "wh"
    refine za9 (v:=.int wt) F rfl ?_
    walk_at "wh"
    rw[if_pos (by walk_at "om")] at q
    exact q
   ·walk_at "wh"
    refine za9 (v:=.int wt) F rfl ?_
    walk_at "wh"
    rw[if_neg (by walk_at "om")] at q
    exact q
 | lead wt l=>
  have F:H p=some (.tup [.str "lead",.int wt,.int l]):=F
  refine za9 (v:=.str "lead") F rfl ?_
  refine zw6 (by decide) ?_
  refine za9 (v:=.str "lead") F rfl ?_
  refine zl3 rfl ?_
  refine za9 (v:=.int l) F rfl ?_
  walk_at "wh"
  have q:Q (.int (if l<=(x:Int) - y then wt else -wt)) H:=q
  refine zp5 (fun h=>?_) (fun h=>?_)
  ·walk_at "wh"
   refine za9 (v:=.int wt) F rfl ?_
   walk_at "wh"
   rw[if_pos (by walk_at "om")] at q
   exact q
  ·walk_at "wh"
   refine za9 (v:=.int wt) F rfl ?_
   walk_at "wh"
   rw[if_neg (by walk_at "om")] at q
   exact q
 | tab g=>
  obtain⟨q',ps,F,G⟩:=F
  obtain⟨r,er,hr'⟩:=G.some (i:=x) (by walk_at "om")
  refine za9 (v:=.str "table") F rfl ?_
  refine zl3 rfl ?_
  refine za9 (v:=.ref q') F rfl ?_
  refine zb9 (v:=.ref r) G.out (zc5 (by rw[zcy2,er];rfl)) ?_
  refine zb9 (v:=.int (g x y)) hr' (zc5 (zj0 (by walk_at "om"))) ?_
  walk_at "wh"
  exact q
@[irreducible] def zf5:Sp:=fun vs H Q _=>∃ (r:Addr) (n:Nat) (g:Nat->Int),vs=[.int n,.ref r]/\H r=some (.lst (rowV n g))/\n<=1000/\∀ H',Same H H'->Q (.bl true) H'
theorem zai3 {H:Hp}{r:Addr}{n:Nat}{g:Nat->Int}{Q:VK}{E:XK}(h:H r=some (.lst (rowV n g))) (hn:n<=1000) (q:∀ H',Same H H'->Q (.bl true) H'):zf5 [.int n,.ref r] H Q E:=by unfold zf5;exact⟨r,n,g,rfl,h,hn,q⟩
theorem zaj4 {f:Addr}{fd:FuncData}(F:Fun K "is_table_row" "is_table_row" zj5 f fd) (N:Nm mg) (zcs8:Def P w K mg base CX0 1 "is_whole" ["thing"] zh2):FnOk P w K mg base CX0 2 f fd ["many_numbers","row"] zf5:=by
 refine F.ok zak1 (fun vs H Q E h=>by unfold zf5 at h;obtain⟨_,_,_,rfl,_⟩:=h;rfl) (fun cdv A outer s H vs Q E hr h=>?_)
 unfold zf5 at h
 obtain⟨r,n,g,rfl,h,hn,q⟩:=h
 have hu:=hu40 hr
 refine⟨_,(za5 (za8 (zy0 (pB (zy1 (K:=K) rfl) N.isinstance_ zb8 (za0 (pq 1) (za0 (pTy N.list_ zk6) za1))) (zy0 (peC (oEqK (K:=K) rfl (by exact hu)) (pB (zp2 (K:=K) rfl) N.len_ zg0 (za0 (pq 1) za1)) (pq 0)) (zw8 (pB (zap7 (K:=K) rfl rfl) N.all_ zad0 (za0 (zj2 (N:=["number"]) (ks:=[none]) (zk2 (K:=K) rfl (pq 1)) (fun cl C s3 H3 fp=>(za6 (i:=0) nb_0 rfl (by first|exact Or.inl rfl|exact Or.inr rfl))) (fun cl C s3 H3 fp=>zd5) (fun cl C s3 H3 fp=>(pD zcs8 hr zb5 (za0 (pq 0) za1))) (.skip .nil)) za1))))))),?_⟩
 refine zy8 h ?_
 refine br_T ?_
 refine ze8 h ?_
 rw[zn0]
 refine zl3 rfl ?_
 refine zc8 h ?_
 refine zo4 (Wk.list (SqL.of h)) (by rw[zn0,sizeLine_eq];omega) (fun i=>.bl true) (fun _=>true) (fun j σ=>∃ t:Option V,σ=[t]) ⟨none,rfl⟩ ?_ ?_
 ·rintro j v σ H1 R S hj s1 hx ⟨t,rfl⟩ k _
  rw[zn0] at hj
  rw[zj0 hj] at hx
  cases hx
  refine br_T ?_
  refine zcj0 ?_
  walk_at "wh"
  exact k rfl _ _ (Same.refl _) ⟨_,rfl⟩
 intro acc H1 f1 s1 h1
 rw[ze3,zn0,zcb0] at h1
 refine zaa2 h1 ?_
 rw[zbi1]
 walk_at "wh"
 exact q _ s1
@[irreducible] def zk7:Sp:=fun vs H Q _=>∃ (r:Addr) (ps:List Addr) (n m:Nat) (g:Nat->Nat->Int),vs=[.int n,.int m,.ref r]/\zd3 H r ps n m g/\n<=1000/\m<=1000/\∀ H',Same H H'->Q (.bl true) H'
theorem zal1 {H:Hp}{r:Addr}{ps:List Addr}{n m:Nat}{g:Nat->Nat->Int}{Q:VK}{E:XK}(h:zd3 H r ps n m g) (hn:n<=1000) (hm:m<=1000) (q:∀ H',Same H H'->Q (.bl true) H'):zk7 [.int n,.int m,.ref r] H Q E:=by unfold zk7;exact⟨r,ps,n,m,g,rfl,h,hn,hm,q⟩
theorem zbf7 {f:Addr}{fd:FuncData}(F:Fun K "is_table" "is_table" zt1 f fd) (N:Nm mg) (zcu6:Def P w K mg base CX0 2 "is_table_row" ["many_numbers","row"] zf5):FnOk P w K mg base CX0 3 f fd ["many_rows","many_numbers","rows"] zk7:=by
 refine F.ok zbd3 (fun vs H Q E h=>by unfold zk7 at h;obtain⟨_,_,_,_,_,rfl,_⟩:=h;rfl) (fun cdv A outer s H vs Q E hr h=>?_)
 unfold zk7 at h
 obtain⟨r,ps,n,m,g,rfl,G,hn,hm,q⟩:=h
 have hu:=hu40 hr
 have gl:=G.len
 refine⟨_,(za2 (psIf (ptW (pwOr (zm9 (ptV (pB (zy1 (K:=K) rfl) N.isinstance_ zb8 (za0 (pq 2) (za0 (pTy N.list_ zk6) za1))))) (zac6 (ptC (oNeK (K:=K) rfl (by exact hu)) (pB (zp2 (K:=K) rfl) N.len_ zg0 (za0 (pq 2) za1)) (pq 0))))) (za5 (za8 zu4)) zb6)
   (za5 (za8 (pB (zap7 (K:=K) rfl rfl) N.all_ zad0 (za0 (zj2 (N:=["row","many_numbers"]) (ks:=[none,some 1]) (zk2 (K:=K) rfl (pq 2)) (fun cl C s3 H3 fp=>(za6 (i:=0) nb_1 rfl (by first|exact Or.inl rfl|exact Or.inr rfl))) (fun cl C s3 H3 fp=>zd5) (fun cl C s3 H3 fp=>(pD zcu6 hr zb5 (za0 (pq 1) (za0 (pq 0) za1)))) (.skip (.take rfl rfl (by first|exact Or.inl rfl|exact Or.inr rfl) .nil))) za1))))),?_⟩
 refine zy8 G.out ?_
 refine zd2 (br_T ?_)
 refine ze8 G.out ?_
 rw[zcy0,gl]
 refine zd2 (zl3 rfl ?_)
 refine zc8 G.out ?_
 refine zo4 (Wk.list (SqL.of G.out)) (by rw[zcy0,sizeLine_eq];omega) (fun i=>.bl true) (fun _=>true) (fun j σ=>∃ t:Option V,σ=[t,some (.int m)]) ⟨none,rfl⟩ ?_ ?_
 ·rintro j v σ H1 R S hj s1 hx ⟨t,rfl⟩ k _
  rw[zcy2] at hx
  obtain⟨p,ep,rfl⟩:=zcy6.mp hx
  refine br_T ?_
  refine zai3 (s1 _ _ (G.row j p ep)) hm (fun H2 s2=>?_)
  walk_at "wh"
  exact k rfl _ _ s2 ⟨_,rfl⟩
 intro acc H1 f1 s1 h1
 rw[ze3,zcy0,zcb0] at h1
 refine zaa2 h1 ?_
 rw[zbi1]
 walk_at "wh"
 exact q _ s1
@[irreducible] def zn2:Sp:=fun vs H Q _=>∃ (p:Addr) (a c:Nat) (f:Fd),vs=[.int a,.int c,.ref p]/\FdAt H p a c f/\f.Ok/\a<=10/\c<=10/\∀ H',Same H H'->Q (.bl true) H'
theorem zbb5 {H:Hp}{p:Addr}{a c:Nat}{f:Fd}{Q:VK}{E:XK}(F:FdAt H p a c f) (O:f.Ok) (h1:a<=10) (h2:c<=10) (q:∀ H',Same H H'->Q (.bl true) H'):zn2 [.int a,.int c,.ref p] H Q E:=by unfold zn2;exact⟨p,a,c,f,rfl,F,O,h1,h2,q⟩
theorem zbd1 {f:Addr}{fd:FuncData}(F:Fun K "is_field" "is_field" zs8 f fd) (N:Nm mg) (zcs2:Def P w K mg base CX0 3 "is_between" ["thing","least","most"] ze1) (zcs7:Def P w K mg base CX0 2 "is_from" ["thing","least"] zj6) (zcu2:Def P w K mg base CX0 3 "is_table" ["many_rows","many_numbers","rows"] zk7) (zcs8:Def P w K mg base CX0 1 "is_whole" ["thing"] zh2):FnOk P w K mg base CX0 4 f fd ["first","second","field"] zn2:=by
 refine F.ok zbc0 (fun vs H Q E h=>by unfold zn2 at h;obtain⟨_,_,_,_,rfl,_⟩:=h;rfl) (fun cdv A outer s H vs Q E hr h=>?_)
 unfold zn2 at h
 obtain⟨p,a,c,f,rfl,F,O,h1,h2,q⟩:=h
 have hu:=hu40 hr
 refine⟨_,(za2 (psIf (zm9 (ptV (pB (zy1 (K:=K) rfl) N.isinstance_ zb8 (za0 (pq 2) (za0 (pTy N.tuple_ zw0) za1))))) (za5 (za8 zu4)) zb6)
   (za2 (psIf (ptW (zbb9 (ptC (oEqK (K:=K) rfl (by exact hu)) (pB (zp2 (K:=K) rfl) N.len_ zg0 (za0 (pq 2) za1)) za3) (zab6 (ptC (oEqK (K:=K) rfl (by exact hu)) (za7 (K:=K) rfl (pq 2) za3) zf2)))) (za5 (za8 (zy0 (pD zcs7 hr zb5 (za0 (za7 (K:=K) rfl (pq 2) za3) (za0 za3 za1))) (zw8 (pD zcs2 hr zb5 (za0 (za7 (K:=K) rfl (pq 2) za3) (za0 (zbe0 uNeg (za7 (K:=K) rfl (pq 2) za3)) (za0 (za7 (K:=K) rfl (pq 2) za3) za1)))))))) zb6)
   (za2 (psIf (ptW (zbb9 (ptC (oEqK (K:=K) rfl (by exact hu)) (pB (zp2 (K:=K) rfl) N.len_ zg0 (za0 (pq 2) za1)) za3) (zab6 (ptC (oEqK (K:=K) rfl (by exact hu)) (za7 (K:=K) rfl (pq 2) za3) zf2)))) (za5 (za8 (zy0 (pD zcs7 hr zb5 (za0 (za7 (K:=K) rfl (pq 2) za3) (za0 za3 za1))) (zw8 (pD zcs8 hr zb5 (za0 (za7 (K:=K) rfl (pq 2) za3) za1)))))) zb6)
   (za2 (psIf (ptW (zbb9 (ptC (oEqK (K:=K) rfl (by exact hu)) (pB (zp2 (K:=K) rfl) N.len_ zg0 (za0 (pq 2) za1)) za3) (zab6 (ptC (oEqK (K:=K) rfl (by exact hu)) (za7 (K:=K) rfl (pq 2) za3) zf2)))) (za5 (za8 (pD zcu2 hr zb5 (za0 (zb4 oAdd (pq 0) za3) (za0 (zb4 oAdd (pq 1) za3) (za0 (za7 (K:=K) rfl (pq 2) za3) za1)))))) zb6)
   (za5 (za8 zu4)))))),?_⟩
 cases f with
 | more wt t=>
  have F:H p=some (.tup [.str "more",.int wt,.int t]):=F
  obtain⟨o1,o2,o3⟩:1<=wt/\-wt<=t/\t<=wt:=O
  refine zx4 F ?_
  refine zd2 (br_T ?_)
  refine zw5 F ?_
  refine zl3 rfl ?_
  refine za9 (v:=.str "more") F rfl ?_
  refine zl3 rfl ?_
  refine za9 (v:=.int wt) F rfl ?_
  refine zcj2 ?_
  refine zl3 o1 ?_
  refine za9 (v:=.int t) F rfl ?_
  refine za9 (v:=.int wt) F rfl ?_
  refine za9 (v:=.int wt) F rfl ?_
  refine zbt0 ?_
  rw[decide_eq_true ⟨o2,o3⟩]
  walk_at "wh"
  exact q _ (Same.refl _)
 | lead wt l=>
  have F:H p=some (.tup [.str "lead",.int wt,.int l]):=F
  have O:1<=wt:=O
  refine zx4 F ?_
  refine zd2 (br_T ?_)
  refine zw5 F ?_
  refine zl3 rfl ?_
  refine za9 (v:=.str "lead") F rfl ?_
  refine zw6 (by decide) ?_
  refine zw5 F ?_
  refine zl3 rfl ?_
  refine za9 (v:=.str "lead") F rfl ?_
  refine zl3 rfl ?_
  refine za9 (v:=.int wt) F rfl ?_
  refine zcj2 ?_
  refine zl3 O ?_
  refine za9 (v:=.int l) F rfl ?_
  refine zcj0 ?_
  walk_at "wh"
  exact q _ (Same.refl _)
 | tab g=>
  obtain⟨q',ps,F,G⟩:=F
  refine zx4 F ?_
  refine zd2 (br_T ?_)
  refine zw5 F ?_
  refine zw6 (by show ¬ ((2:Nat):Int)=3;decide) ?_
  refine br_F ?_
  refine zw5 F ?_
  refine zw6 (by show ¬ ((2:Nat):Int)=3;decide) ?_
  refine br_F ?_
  refine zw5 F ?_
  refine zl3 rfl ?_
  refine za9 (v:=.str "table") F rfl ?_
  refine zl3 rfl ?_
  refine za9 (v:=.ref q') F rfl ?_
  refine zal1 (n:=a+1) (m:=c+1) G (by walk_at "om") (by walk_at "om") (fun H1 s1=>?_)
  walk_at "wh"
  exact q _ s1
@[irreducible] def zl0:Sp:=fun vs H Q _=>∃ x y:Int,vs=[.int x,.int y]/\Q (.bl (decide ((0<=x/\x<=10)/\0<=y/\y<=10))) H
theorem zaz3 {H:Hp}{x y:Int}{Q:VK}{E:XK}(q:Q (.bl (decide ((0<=x/\x<=10)/\0<=y/\y<=10))) H):zl0 [.int x,.int y] H Q E:=by unfold zl0;exact⟨x,y,rfl,q⟩
theorem zav6 {f:Addr}{fd:FuncData}(F:Fun K "are_hosts" "are_hosts" zq3 f fd) (N:Nm mg) {zcv0:Tok}(c_MOST_HOSTS:mg "MOST_HOSTS"=some (.int 10 zcv0)) (zcs2:Def P w K mg base CX0 3 "is_between" ["thing","least","most"] ze1):FnOk P w K mg base CX0 4 f fd ["first","second"] zl0:=by
 refine F.ok zau9 (fun vs H Q E h=>by unfold zl0 at h;obtain⟨_,_,rfl,_⟩:=h;rfl) (fun cdv A outer s H vs Q E hr h=>?_)
 unfold zl0 at h
 obtain⟨x,y,rfl,q⟩:=h
 refine⟨_,(za5 (za8 (zy0 (pD zcs2 hr zb5 (za0 (pq 0) (za0 za3 (za0 (zbb7 (v:=.int 10) rfl c_MOST_HOSTS ⟨_,rfl⟩) za1)))) (zw8 (pD zcs2 hr zb5 (za0 (pq 1) (za0 za3 (za0 (zbb7 (v:=.int 10) rfl c_MOST_HOSTS ⟨_,rfl⟩) za1)))))))),?_⟩
 refine zbt0 ?_
 refine zp5 (fun h=>?_) (fun h=>?_)
 ·walk_at "wh"
  refine zbt0 ?_
  walk_at "wh"
  rw[zbi6 h] at q
  exact q
 ·walk_at "wh"
  rw[zbk2 h] at q
  exact q
@[irreducible] def zn5:Sp:=fun vs H Q _=>∃ (b l:Addr) (ps:List Addr) (a c:Nat) (fs:List Fd),vs=[.ref b]/\zl4 H b l ps a c fs/\OkB a c fs/\Q (.bl true) H
theorem zbf4 {H:Hp}{b l:Addr}{ps:List Addr}{a c:Nat}{fs:List Fd}{Q:VK}{E:XK}(B:zl4 H b l ps a c fs) (O:OkB a c fs) (q:Q (.bl true) H):zn5 [.ref b] H Q E:=by unfold zn5;exact⟨b,l,ps,a,c,fs,rfl,B,O,q⟩
theorem zbe2 {f:Addr}{fd:FuncData}(F:Fun K "has_size" "has_size" zs9 f fd) (N:Nm mg) {zcu7:Tok}(c_MOST_FIELDS:mg "MOST_FIELDS"=some (.int 5 zcu7)) (zcw1:Def P w K mg base CX0 4 "are_hosts" ["first","second"] zl0):FnOk P w K mg base CX0 5 f fd ["battle"] zn5:=by
 refine F.ok zbd6 (fun vs H Q E h=>by unfold zn5 at h;obtain⟨_,_,_,_,_,_,rfl,_⟩:=h;rfl) (fun cdv A outer s H vs Q E hr h=>?_)
 unfold zn5 at h
 obtain⟨b,l,ps,a,c,fs,rfl,B,⟨⟨o1,o2⟩,o3,o4⟩,q⟩:=h
 have bl:=B.len
 refine⟨_,(za5 (za8 (zy0 (pD zcw1 hr zb5 (za0 (za7 (K:=K) rfl (pq 0) za3) (za0 (za7 (K:=K) rfl (pq 0) za3) za1))) (zw8 (zcn2 oLe oLe za3 (pB (zp2 (K:=K) rfl) N.len_ zg0 (za0 (za7 (K:=K) rfl (pq 0) za3) za1)) (zbb7 (v:=.int 5) rfl c_MOST_FIELDS ⟨_,rfl⟩)))))),?_⟩
 refine za9 (v:=.int a) B.out rfl ?_
 refine za9 (v:=.int c) B.out rfl ?_
 refine zaz3 ?_
 rw[decide_eq_true ⟨⟨by walk_at "om",by walk_at "om"⟩,by walk_at "om",by walk_at "om"⟩]
 refine br_T ?_
 refine za9 (v:=.ref l) B.out rfl ?_
 refine ze8 B.lst ?_
 rw[zcy0,bl]
 refine zl3 (by walk_at "om") ?_
 walk_at "wh"
 rw[decide_eq_true (by walk_at "om")]
 exact q
@[irreducible] def zf3:Sp:=fun vs H Q _=>∃ (b l:Addr) (ps:List Addr) (a c:Nat) (fs:List Fd),vs=[.ref b]/\zl4 H b l ps a c fs/\OkB a c fs/\∀ H',Same H H'->Q .non H'
theorem zaa6 {H:Hp}{b l:Addr}{ps:List Addr}{a c:Nat}{fs:List Fd}{Q:VK}{E:XK}(B:zl4 H b l ps a c fs) (O:OkB a c fs) (q:∀ H',Same H H'->Q .non H'):zf3 [.ref b] H Q E:=by unfold zf3;exact⟨b,l,ps,a,c,fs,rfl,B,O,q⟩
theorem zal5 {f:Addr}{fd:FuncData}(F:Fun K "look_battle" "look_battle" zl5 f fd) (N:Nm mg) (zcw2:Def P w K mg base CX0 5 "has_size" ["battle"] zn5) (zcw3:Def P w K mg base CX0 4 "is_field" ["first","second","field"] zn2):FnOk P w K mg base CX0 6 f fd ["battle"] zf3:=by
 refine F.ok zv1 (fun vs H Q E h=>by unfold zf3 at h;obtain⟨_,_,_,_,_,_,rfl,_⟩:=h;rfl) (fun cdv A outer s H vs Q E hr h=>?_)
 unfold zf3 at h
 obtain⟨b,l,ps,a,c,fs,rfl,B,O,q⟩:=h
 refine⟨_,(za2 (psIf (zm9 (ptV (pD zcw2 hr zb5 (za0 (pq 0) za1)))) (za5 zad8) zb6)
   (za5 (zu5 PassesOwn.never rfl (zbf3 (K:=K) rfl N.enumerate_ (za0 (za7 (K:=K) rfl (pq 0) za3) za1)) (zp0 (K:=K) (n:=2) rfl rfl (zb7 (za6 (i:=1) zv1.nd rfl (by first|exact Or.inl rfl|exact Or.inr rfl)) (zb7 (za6 (i:=2) zv1.nd rfl (by first|exact Or.inl rfl|exact Or.inr rfl)) zo3))) (za5 (psIf (zm9 (ptV (pD zcw3 hr zb5 (za0 (za7 (K:=K) rfl (pq 0) za3) (za0 (za7 (K:=K) rfl (pq 0) za3) (za0 (pq 2) za1)))))) (za5 zad8) zb6))))),?_⟩
 refine zbf4 B O ?_
 refine zd2 (br_T ?_)
 refine za9 (v:=.ref l) B.out rfl ?_
 refine zar3 B.lst ?_
 refine zae0 (xs:=ps.map V.ref) (fun i σ H1=>∃ x y:Option V,σ=[some (.ref b),x,y]/\Same H H1) ?_ ?_ ?_ ?_
 ·exact⟨_,_,rfl,Same.refl _⟩
 ·rintro i σ H1 _ ⟨_,_,_,s1⟩
  exact SqL.of (s1 _ _ B.lst)
 ·rintro i v σ H1 p H2 hi ⟨x,y,rfl,s1⟩ f2 s2 h2
  have s12:=s1.trans s2
  obtain⟨p',f,rfl,e1,e2,hf,ok⟩:=(B.same s12).elt hi
  refine zg1 h2 ?_
  refine za9 (v:=.int a) (s12 _ _ B.out) rfl ?_
  refine za9 (v:=.int c) (s12 _ _ B.out) rfl ?_
  refine zbb5 hf ok O.1.1 O.1.2 (fun H3 s3=>?_)
  refine zd2 (br_T ?_)
  walk_at "wh"
  exact⟨_,_,rfl,s12.trans s3⟩
 ·rintro σ H1 ⟨x,y,rfl,s1⟩
  walk_at "wh"
  exact q _ s1
structure zy4 (H:Hp) (q:Addr) (ps:List Addr) (rows:List (List Int)):Prop where
 out:H q=some (.lst (ps.map V.ref))
 len:ps.length=rows.length
 row:∀ (i:Nat) p r,ps[i]?=some p->rows[i]?=some r->H p=some (.lst (r.map V.int))
theorem zy4.same {H H':Hp}{q:Addr}{ps:List Addr}{rows:List (List Int)}(R:zy4 H q ps rows) (s:Same H H'):zy4 H' q ps rows:=⟨s _ _ R.out,R.len,fun i p r h1 h2=>s _ _ (R.row i p r h1 h2)⟩
theorem zy4.elt {H:Hp}{q:Addr}{ps:List Addr}{rows:List (List Int)}(R:zy4 H q ps rows) {i:Nat}{v:V}(e:(ps.map V.ref)[i]?=some v):∃ p r,v=.ref p/\ps[i]?=some p/\rows[i]?=some r/\H p=some (.lst (r.map V.int)):=by
 rw[zcy2] at e
 obtain⟨p,ep,rfl⟩:=zcy6.mp e
 obtain⟨r,er⟩:∃ r,rows[i]?=some r:=⟨_,zcx9 (by have:=(zcy4.mp ep).1;have:=R.len;omega)⟩
 exact⟨p,r,rfl,ep,er,R.row i p r ep er⟩
def Fd.Bd (a c:Nat):Fd->Prop
 | .more w _=>w<=2*10 ^ 28
 | .lead w _=>w<=2*10 ^ 28
 | .tab g=>∀ x y,x<=a->y<=c->-(2*10 ^ 28)<=g x y/\g x y<=2*10 ^ 28
def optL (sd:Bool):List Int->Int
 | []=>0
 | [x]=>x
 | x :: y :: ys=>if sd then max x (optL sd (y :: ys)) else min x (optL sd (y :: ys))
theorem zv8 (sd:Bool):∀ {xs:List Int},xs≠[]->optL sd xs∈xs
 | [],h=>absurd rfl h
 | [x],_=>.head _
 | x :: y :: ys,_=>by
  have ih:=zv8 sd (xs:=y :: ys) (by simp)
  show (if sd then max x (optL sd (y :: ys)) else min x (optL sd (y :: ys)))∈_
  cases sd
  ·by_cases h:x<=optL false (y :: ys)
   ·rw[if_neg zcz0,show min x (optL false (y :: ys))=x by walk_at "om"];exact .head _
   ·rw[if_neg zcz0,show min x (optL false (y :: ys))=optL false (y :: ys) by walk_at "om"];exact .tail _ ih
  ·by_cases h:x<=optL true (y :: ys)
   ·rw[if_pos rfl,show max x (optL true (y :: ys))=optL true (y :: ys) by walk_at "om"];exact .tail _ ih
   ·rw[if_pos rfl,show max x (optL true (y :: ys))=x by walk_at "om"];exact .head _
def leS (sd:Bool) (x y:Int):Prop:=if sd then y<=x else x<=y
theorem zae2 (sd:Bool):∀ {xs:List Int},∀ a∈xs,leS sd (optL sd xs) a
 | [],a,h=>by cases h
 | [x],a,h=>by
  rw[zdb2.mp h]
  unfold leS optL
  split<;>exact Int.le_refl _
 | x :: y :: ys,a,h=>by
  have ih:=zae2 sd (xs:=y :: ys)
  show leS sd (if sd then max x (optL sd (y :: ys)) else min x (optL sd (y :: ys))) a
  rcases zcz5.mp h with rfl|h
  ·cases sd
   ·show min a (optL false (y :: ys))<=a;omega
   ·show a<=max a (optL true (y :: ys));omega
  ·have:=ih a h
   cases sd
   ·have:optL false (y :: ys)<=a:=this
    show min x (optL false (y :: ys))<=a;omega
   ·have:a<=optL true (y :: ys):=this
    show a<=max x (optL true (y :: ys));omega
theorem zab8 {sd:Bool}{xs:List Int}{M:Int}(hm:M∈xs) (hb:∀ a∈xs,leS sd M a):M=optL sd xs:=by
 have h1:=hb _ (zv8 sd (xs:=xs) (fun e=>by rw[e] at hm;cases hm))
 have h2:=zae2 sd _ hm
 unfold leS at h1 h2
 cases sd
 ·have h1:M<=optL false xs:=h1
  have h2:optL false xs<=M:=h2
  omega
 ·have h1:optL true xs<=M:=h1
  have h2:M<=optL true xs:=h2
  omega
def tabR (sd:Bool):List (Nat->Int)->Nat->Int
 | [],_=>0
 | [d],r=>d r
 | d :: e :: ds,r=>optL sd ((List.range (r+1)).map fun s=>d s+tabR sd (e :: ds) (r - s))
def zba1 (sd:Bool) (ds:List (Nat->Int)) (r:Nat):List Int:=match ds with
 | []=>[]
 | [d]=>[d r]
 | d :: e :: ds=>(List.range (r+1)).map fun s=>d s+tabR sd (e :: ds) (r - s)
theorem zcl5 (sd:Bool) {ds:List (Nat->Int)}(h:ds≠[]) (r:Nat):tabR sd ds r=optL sd (zba1 sd ds r)/\zba1 sd ds r≠[]:=by
 match ds,h with
 | [d],_=>exact⟨rfl,by simp[zba1]⟩
 | d :: e :: ds,_=>exact⟨rfl,by simp[zba1]⟩
theorem zav7 (sd:Bool):∀ {ds:List (Nat->Int)}{q:List Nat}{r:Nat},ds≠[]->q.length=ds.length->q.sum=r->leS sd (tabR sd ds r) ((List.range ds.length).map fun k=>(ds.getD k fun _=>0) (q.getD k 0)).sum
 | [d],[x],r,_,_,hs=>by
  have:x=r:=by simpa using hs
  subst this
  have e:((List.range [d].length).map fun k=>([d].getD k fun _=>0) ([x].getD k 0)).sum=d x:=by
   show ([d x]:List Int).sum=d x
   simp
  rw[e]
  unfold leS tabR
  split<;>exact Int.le_refl _
 | d :: e :: ds,x :: q,r,_,hl,hs=>by
  have hs:x+q.sum=r:=by simpa using hs
  have ih:=zav7 sd (ds:=e :: ds) (q:=q) (r:=r - x) (by simp) (by simpa using hl) (by walk_at "om")
  have b:=zae2 sd (xs:=(List.range (r+1)).map fun s=>d s+tabR sd (e :: ds) (r - s)) (d x+tabR sd (e :: ds) (r - x)) (zda1.mpr ⟨x,zdc0.mpr (by walk_at "om"),rfl⟩)
  have es:((List.range (d :: e :: ds).length).map fun k=>((d :: e :: ds).getD k fun _=>0) ((x :: q).getD k 0)).sum=d x+((List.range (e :: ds).length).map fun k=>((e :: ds).getD k fun _=>0) (q.getD k 0)).sum:=by
   rw[zdb6,List.range_succ_eq_map,zda7,zdc7,zda5]
   rfl
  rw[es]
  show leS sd (optL sd ((List.range (r+1)).map fun s=>d s+tabR sd (e :: ds) (r - s))) _
  generalize optL sd ((List.range (r+1)).map fun s=>d s+tabR sd (e :: ds) (r - s))=M at b
  generalize ((List.range (e :: ds).length).map fun k=>((e :: ds).getD k fun _=>0) (q.getD k 0)).sum=S at ih
  unfold leS at *
  cases sd
  ·simp only[zdd5,if_false] at *
   omega
  ·simp only[if_true] at *
   omega
 | [_],[],_,_,hl,_=>by simp at hl
 | [_],_ :: _ :: _,_,_,hl,_=>by simp at hl
 | _ :: _ :: _,[],_,_,hl,_=>by simp at hl
 | [],_,_,h,_,_=>absurd rfl h
def wonS (sd:Bool) (f:Fd) (x c:Nat):Int:=if sd then f.won c x else f.won x c
def dueS (sd:Bool) (f:Fd) (xs:List (Int×Int×Int)) (c:Nat):Int:=(xs.map fun z=>z.2.2*wonS sd f z.2.1.toNat c).sum
def zc1 (sd:Bool) (fs:List Fd) (xss:List (List (Int×Int×Int))):List (Nat->Int):=(List.range fs.length).map fun k=>dueS sd (fs.getD k (.more 0 0)) (xss.getD k [])
theorem zar0 {κ:Type}[DecidableEq κ] {ks:List κ}(nd:ks.Nodup) (g:κ->Int):∀ {zs:List (κ×Int)},(∀ z∈zs,z.1∈ks)->(ks.map fun k=>atG zs k*g k).sum=(zs.map fun z=>z.2*g z.1).sum
 | [],_=>by
  have:∀ ks:List κ,(ks.map fun k=>atG ([]:List (κ×Int)) k*g k).sum=0:=fun ks=>by
   induction ks with
   | nil=>rfl
   | cons k ks ih=>
    rw[zda7,zdc7,ih]
    show (0:Int)*g k+0=0
    rw[Int.zero_mul];rfl
  exact this _
 | z :: zs,h=>by
  have ih:=zar0 nd g (zs:=zs) fun y hy=>h y (.tail _ hy)
  have e:(ks.map fun k=>atG (z :: zs) k*g k)=ks.map fun k=>(if z.1=k then z.2*g z.1 else 0)+atG zs k*g k:=zda4 fun k _=>by
   rw[zas6,Int.add_mul]
   by_cases e:z.1=k
   ·rw[if_pos e,if_pos e,e]
   ·rw[if_neg e,if_neg e,Int.zero_mul]
  rw[e,zat8,ih,zda7,zdc7]
  have o:=zbc9 (p:=fun _=>true) (a:=z.1) (c:=z.2*g z.1) nd
  rw[List.filter_eq_self.mpr fun _ _=>rfl,if_pos ⟨h z (.head _),rfl⟩] at o
  rw[o]
theorem due_eq {ms:List (List Int×Int)}{h:Int}{f i:Nat}{xs:List (Int×Int×Int)}{sd:Bool}{fd:Fd}{c:Nat}(O:OkS ms h f) (hi:i<f) (R:zad3 ms i xs):dueS sd fd xs c=(ms.map fun x=>x.2*wonS sd fd (x.1.getD i 0).toNat c).sum:=by
 unfold dueS
 have e1:(xs.map fun z=>z.2.2*wonS sd fd z.2.1.toNat c)=(xs.map keyT).map fun k=>atG (flw ms i) k*wonS sd fd k.2.toNat c:=by
  rw[zda5]
  exact zda4 fun z hz=>by
   show z.2.2*wonS sd fd z.2.1.toNat c=atG (flw ms i) (keyT z)*wonS sd fd (keyT z).2.toNat c
   rw[← (zw4 O hi R hz).2.2.1];rfl
 rw[e1,zar0 R.1.1 (fun k=>wonS sd fd k.2.toNat c) fun z hz=>(R.2.1 _).mpr ((zq8 _).2 _ |>.mpr (zda1.mpr ⟨z,hz,rfl⟩))]
 unfold flw
 rw[zda5];rfl
def zo2 (ms:List (List Int×Int)):Int:=(ms.map fun x=>x.2).sum
theorem zaz6 {α:Type}{f g:α->Int}:∀ {xs:List α},(∀ x∈xs,f x<=g x)->(xs.map f).sum<=(xs.map g).sum
 | [],_=>Int.le_refl _
 | x :: xs,h=>by
  have:=zaz6 (xs:=xs) fun y hy=>h y (.tail _ hy)
  have:=h x (.head _)
  rw[zda7,zda7,zdc7,zdc7]
  omega
theorem zcf6 {sd:Bool}{fs:List Fd}{xss:List (List (Int×Int×Int))}{n:Nat}(hf:fs.length=n) (q:List Nat):((List.range (zc1 sd fs xss).length).map fun k=>((zc1 sd fs xss).getD k fun _=>0) (q.getD k 0)).sum=((List.range n).map fun k=>dueS sd (fs.getD k (.more 0 0)) (xss.getD k []) (q.getD k 0)).sum:=by
 have l:(zc1 sd fs xss).length=n:=by unfold zc1;rw[zcy0,zda2,hf]
 rw[l]
 refine congrArg List.sum (zda4 fun k hk=>?_)
 have:(zc1 sd fs xss).getD k (fun _=>0)=dueS sd (fs.getD k (.more 0 0)) (xss.getD k []):=by
  unfold zc1
  rw[zcy3,zcy2,zdb0 (by rw[hf];exact zdc0.mp hk)];rfl
 rw[this]
def wd (sd:Bool):Str:=if sd then "second" else "first"
@[irreducible] def zi1:Sp:=fun vs H Q _=>∃ sd,vs=[.str (wd sd)]/\∀ H',Same H H'->Q .non H'
theorem zag7 {H:Hp}{sd:Bool}{Q:VK}{E:XK}(q:∀ H',Same H H'->Q .non H'):zi1 [.str (wd sd)] H Q E:=by unfold zi1;exact⟨sd,rfl,q⟩
theorem zaw9 {f:Addr}{fd:FuncData}(F:Fun K "look_side" "look_side" zp9 f fd) (N:Nm mg):FnOk P w K mg base CX0 1 f fd ["side"] zi1:=by
 refine F.ok zav4 (fun vs H Q E h=>by unfold zi1 at h;obtain⟨_,rfl,_⟩:=h;rfl) (fun cdv A outer s H vs Q E hr h=>?_)
 unfold zi1 at h
 refine⟨_,(za5 (psIf (ptC (zcq1 (K:=K) rfl) (pq 0) (zm8 (za0 zf2 (za0 zf2 za1)))) (za5 zad8) zb6)),?_⟩
 obtain⟨sd,rfl,q⟩:=h
 refine zc7 (fun p1 H1 f1 s1 h1=>?_)
 refine zca6 (SqT.of h1) rfl rfl ?_
 rw[show inV (.str (wd sd)) [.str "first",.str "second"]=true by cases sd<;>decide +kernel]
 refine br_F ?_
 walk_at "wh"
 exact q _ s1
def ownH (sd:Bool) (n m:Nat):Nat:=if sd then m else n
def othH (sd:Bool) (n m:Nat):Nat:=if sd then n else m
@[irreducible] def zi0:Sp:=fun vs H Q _=>∃ (b l:Addr) (n m:Nat) (sd:Bool),vs=[.ref b,.str (wd sd)]/\H b=some (.tup [.int n,.int m,.ref l])/\Q (.int (ownH sd n m)) H
theorem zag6 {H:Hp}{b l:Addr}{n m:Nat}{sd:Bool}{Q:VK}{E:XK}(h:H b=some (.tup [.int n,.int m,.ref l])) (q:Q (.int (ownH sd n m)) H):zi0 [.ref b,.str (wd sd)] H Q E:=by unfold zi0;exact⟨b,l,n,m,sd,rfl,h,q⟩
theorem zaw3 {f:Addr}{fd:FuncData}(F:Fun K "own_hosts" "own_hosts" zq4 f fd) (N:Nm mg):FnOk P w K mg base CX0 1 f fd ["battle","side"] zi0:=by
 refine F.ok zaw6 (fun vs H Q E h=>by unfold zi0 at h;obtain⟨_,_,_,_,_,rfl,_⟩:=h;rfl) (fun cdv A outer s H vs Q E hr h=>?_)
 unfold zi0 at h
 obtain⟨b,l,n,m,sd,rfl,h,q⟩:=h
 have hu:=hu40 hr
 refine⟨_,(za5 (za8 (peIf (ptC (zaf3 (K:=K) rfl (by exact hu)) (pq 1) zf2) (za7 (K:=K) rfl (pq 0) za3) (za7 (K:=K) rfl (pq 0) za3)))),?_⟩
 cases sd
 ·walk_at "wh"
  refine zl3 rfl ?_
  refine za9 (v:=.int n) h rfl ?_
  walk_at "wh"
  exact q
 ·walk_at "wh"
  refine zw6 (by decide) ?_
  refine za9 (v:=.int m) h rfl ?_
  walk_at "wh"
  exact q
@[irreducible] def zd8:Sp:=fun vs H Q _=>∃ (b l:Addr) (n m:Nat) (sd:Bool),vs=[.ref b,.str (wd sd)]/\H b=some (.tup [.int n,.int m,.ref l])/\Q (.int (othH sd n m)) H
theorem zu9 {H:Hp}{b l:Addr}{n m:Nat}{sd:Bool}{Q:VK}{E:XK}(h:H b=some (.tup [.int n,.int m,.ref l])) (q:Q (.int (othH sd n m)) H):zd8 [.ref b,.str (wd sd)] H Q E:=by unfold zd8;exact⟨b,l,n,m,sd,rfl,h,q⟩
theorem zal7 {f:Addr}{fd:FuncData}(F:Fun K "other_hosts" "other_hosts" zm1 f fd) (N:Nm mg):FnOk P w K mg base CX0 1 f fd ["battle","side"] zd8:=by
 refine F.ok zal6 (fun vs H Q E h=>by unfold zd8 at h;obtain⟨_,_,_,_,_,rfl,_⟩:=h;rfl) (fun cdv A outer s H vs Q E hr h=>?_)
 unfold zd8 at h
 obtain⟨b,l,n,m,sd,rfl,h,q⟩:=h
 have hu:=hu40 hr
 refine⟨_,(za5 (za8 (peIf (ptC (zaf3 (K:=K) rfl (by exact hu)) (pq 1) zf2) (za7 (K:=K) rfl (pq 0) za3) (za7 (K:=K) rfl (pq 0) za3)))),?_⟩
 cases sd
 ·walk_at "wh"
  refine zl3 rfl ?_
  refine za9 (v:=.int m) h rfl ?_
  walk_at "wh"
  exact q
 ·walk_at "wh"
  refine zw6 (by decide) ?_
  refine za9 (v:=.int n) h rfl ?_
  walk_at "wh"
  exact q
theorem Fd.won_bd {f:Fd}{a c x y:Nat}(O:f.Ok) (B:f.Bd a c) (hx:x<=a) (hy:y<=c):-(2*10 ^ 28)<=f.won x y/\f.won x y<=2*10 ^ 28:=by
 cases f with
 | more w t=>
  have O:1<=w/\-w<=t/\t<=w:=O
  have B:w<=2*10 ^ 28:=B
  unfold Fd.won
  dsimp only
  split
  ·omega
  ·split<;>omega
 | lead w l=>
  have O:1<=w:=O
  have B:w<=2*10 ^ 28:=B
  unfold Fd.won
  dsimp only
  split<;>omega
 | tab g=>exact B x y hx hy
abbrev zac1 (h:Nat) (xs:List (Int×Int×Int)):Prop:=xs.length<=1000/\∀ z∈xs,(0<=z.2.1/\z.2.1<=h)/\(0<=z.2.2/\z.2.2<=10 ^ 31)
@[irreducible] def zai4:Sp:=fun vs H Q _=>∃ (p a:Addr) (n m c:Nat) (sd:Bool) (f:Fd) (bs:List Addr) (xs:List (Int×Int×Int)),vs=[.ref p,.str (wd sd),.ref a,.int c]/\FdAt H p n m f/\f.Ok/\f.Bd n m/\RwAt H a bs xs/\zac1 (ownH sd n m) xs/\c<=othH sd n m/\∀ H',Same H H'->Q (.int (dueS sd f xs c)) H'
theorem due_rd {H:Hp}{p a:Addr}{n m c:Nat}{sd:Bool}{f:Fd}{bs:List Addr}{xs:List (Int×Int×Int)}{Q:VK}{E:XK}(F:FdAt H p n m f) (O:f.Ok) (B:f.Bd n m) (R:RwAt H a bs xs) (ok:zac1 (ownH sd n m) xs) (hc:c<=othH sd n m) (q:∀ H',Same H H'->Q (.int (dueS sd f xs c)) H'):zai4 [.ref p,.str (wd sd),.ref a,.int c] H Q E:=by unfold zai4;exact⟨p,a,n,m,c,sd,f,bs,xs,rfl,F,O,B,R,ok,hc,q⟩
theorem zbk8 {sd:Bool}{f:Fd}{xs:List (Int×Int×Int)}{c k:Nat}(hk:k=xs.length):((List.range k).map fun i=>V.int ((xs.getD i (0,0,0)).2.2*wonS sd f (xs.getD i (0,0,0)).2.1.toNat c))=(xs.map fun z=>z.2.2*wonS sd f z.2.1.toNat c).map V.int:=by
 subst hk
 apply zdd0
 intro i
 rw[zcy2,zcy2,zcy2]
 by_cases h:i<xs.length
 ·rw[zdb0 h,zcx9 h]
  simp[h]
 ·rw[zda0 (by simp;omega),zda0 (by walk_at "om")]
  rfl
set_option maxHeartbeats 0 in
theorem ok_due {f:Addr}{fd:FuncData}(F:Fun K "due" "due" zbm4 f fd) (N:Nm mg) (D_won:Def P w K mg base CX0 1 "won" ["field","x","y"] zai7):FnOk P w K mg base CX0 2 f fd ["field","side","row","count"] zai4:=by
 refine F.ok sc_due (fun vs H Q E h=>by unfold zai4 at h;obtain⟨_,_,_,_,_,_,_,_,_,rfl,_⟩:=h;rfl) (fun cdv A outer s H vs Q E hr h=>?_)
 unfold zai4 at h
 obtain⟨p,a,n,m,c,sd,f,bs,xs,rfl,F,O,B,R,ok,hc,q⟩:=h
 have hu:=hu40 hr
 have rl:=R.len
 have xl:=ok.1
 refine⟨_,(za2 (psIf (ptC (zaf3 (K:=K) rfl (by exact hu)) (pq 1) zf2) (za5 (za8 (pB (zbw3 (K:=K) rfl rfl) N.sum_ zav0 (za0 (zj2 (N:=["left","sent","flow","field","count"]) (ks:=[none,none,none,some 0,some 3]) (zk2 (K:=K) rfl (pq 2)) (fun cl C s3 H3 fp=>(zp0 (K:=K) (n:=3) rfl rfl (zb7 (za6 (i:=0) zbm3 rfl (by first|exact Or.inl rfl|exact Or.inr rfl)) (zb7 (za6 (i:=1) zbm3 rfl (by first|exact Or.inl rfl|exact Or.inr rfl)) (zb7 (za6 (i:=2) zbm3 rfl (by first|exact Or.inl rfl|exact Or.inr rfl)) zo3))))) (fun cl C s3 H3 fp=>zd5) (fun cl C s3 H3 fp=>(zb4 oMul (pq 2) (pD D_won hr zb5 (za0 (pq 3) (za0 (pq 1) (za0 (pq 4) za1)))))) (.skip (.skip (.skip (.take rfl rfl (by first|exact Or.inl rfl|exact Or.inr rfl) (.take rfl rfl (by first|exact Or.inl rfl|exact Or.inr rfl) .nil)))))) za1)))) zb6)
   (za5 (za8 (pB (zbw3 (K:=K) rfl rfl) N.sum_ zav0 (za0 (zj2 (N:=["left","sent","flow","field","count"]) (ks:=[none,none,none,some 0,some 3]) (zk2 (K:=K) rfl (pq 2)) (fun cl C s3 H3 fp=>(zp0 (K:=K) (n:=3) rfl rfl (zb7 (za6 (i:=0) zbm3 rfl (by first|exact Or.inl rfl|exact Or.inr rfl)) (zb7 (za6 (i:=1) zbm3 rfl (by first|exact Or.inl rfl|exact Or.inr rfl)) (zb7 (za6 (i:=2) zbm3 rfl (by first|exact Or.inl rfl|exact Or.inr rfl)) zo3))))) (fun cl C s3 H3 fp=>zd5) (fun cl C s3 H3 fp=>(zb4 oMul (pq 2) (pD D_won hr zb5 (za0 (pq 3) (za0 (pq 4) (za0 (pq 1) za1)))))) (.skip (.skip (.skip (.take rfl rfl (by first|exact Or.inl rfl|exact Or.inr rfl) (.take rfl rfl (by first|exact Or.inl rfl|exact Or.inr rfl) .nil)))))) za1))))),?_⟩
 cases sd
 ·walk_at "wh"
  refine zl3 rfl ?_
  refine zc8 R.out ?_
  refine zo4 (Wk.list (SqL.of R.out)) (by rw[zcy0,sizeLine_eq];omega) (fun i=>.int ((xs.getD i (0,0,0)).2.2*wonS false f (xs.getD i (0,0,0)).2.1.toNat c)) (fun _=>true) (fun j σ=>∃ t u w:Option V,σ=[t,u,w,some (.ref p),some (.int c)]) ⟨none,none,none,rfl⟩ ?_ ?_
  ·rintro i x σ I R' S hi s1 hx ⟨_,_,_,rfl⟩ kk _
   rw[zcy2] at hx
   obtain⟨t,et,rfl⟩:=zcy6.mp hx
   obtain⟨z,ez⟩:∃ z,xs[i]?=some z:=⟨_,zcx9 (by have:=(zcy4.mp et).1;omega)⟩
   rw[show xs.getD i (0,0,0)=z by rw[zcy3,ez];rfl] at kk
   obtain⟨z1,z2⟩:=ok.2 z (zcy7 ez)
   have z1:0<=z.2.1/\z.2.1<=(n:Int):=z1
   have hc:c<=m:=hc
   have wb:=Fd.won_bd O B (x:=z.2.1.toNat) (y:=c) (by walk_at "om") hc
   refine zg1 (s1 _ _ (R.row i t z et ez)) ?_
   refine br_T ?_
   rw[show z.2.1=((z.2.1.toNat:Nat):Int) by walk_at "om"]
   refine zcj5 (F.same s1) (by walk_at "om") hc ?_
   refine zw9 (zz2 (by walk_at "om") (by walk_at "om") (by walk_at "om") (by walk_at "om")) ?_
   walk_at "wh"
   exact kk rfl _ _ (Same.refl _) ⟨_,_,_,rfl⟩
  intro acc H1 f1 s1 h1
  rw[ze3,zbk8 (by rw[zcy0];exact rl)] at h1
  refine zay8 h1 ?_
  walk_at "wh"
  exact q _ s1
 ·walk_at "wh"
  refine zw6 (by decide) ?_
  refine zc8 R.out ?_
  refine zo4 (Wk.list (SqL.of R.out)) (by rw[zcy0,sizeLine_eq];omega) (fun i=>.int ((xs.getD i (0,0,0)).2.2*wonS true f (xs.getD i (0,0,0)).2.1.toNat c)) (fun _=>true) (fun j σ=>∃ t u w:Option V,σ=[t,u,w,some (.ref p),some (.int c)]) ⟨none,none,none,rfl⟩ ?_ ?_
  ·rintro i x σ I R' S hi s1 hx ⟨_,_,_,rfl⟩ kk _
   rw[zcy2] at hx
   obtain⟨t,et,rfl⟩:=zcy6.mp hx
   obtain⟨z,ez⟩:∃ z,xs[i]?=some z:=⟨_,zcx9 (by have:=(zcy4.mp et).1;omega)⟩
   rw[show xs.getD i (0,0,0)=z by rw[zcy3,ez];rfl] at kk
   obtain⟨z1,z2⟩:=ok.2 z (zcy7 ez)
   have z1:0<=z.2.1/\z.2.1<=(m:Int):=z1
   have hc:c<=n:=hc
   have wb:=Fd.won_bd O B (x:=c) (y:=z.2.1.toNat) hc (by walk_at "om")
   refine zg1 (s1 _ _ (R.row i t z et ez)) ?_
   refine br_T ?_
   rw[show z.2.1=((z.2.1.toNat:Nat):Int) by walk_at "om"]
   refine zcj5 (F.same s1) hc (by walk_at "om") ?_
   refine zw9 (zz2 (by walk_at "om") (by walk_at "om") (by walk_at "om") (by walk_at "om")) ?_
   walk_at "wh"
   exact kk rfl _ _ (Same.refl _) ⟨_,_,_,rfl⟩
  intro acc H1 f1 s1 h1
  rw[ze3,zbk8 (by rw[zcy0];exact rl)] at h1
  refine zay8 h1 ?_
  walk_at "wh"
  exact q _ s1
@[irreducible] def zn4:Sp:=fun vs H Q _=>∃ (p a:Addr) (n m:Nat) (sd:Bool) (f:Fd) (bs:List Addr) (xs:List (Int×Int×Int)),vs=[.ref p,.str (wd sd),.ref a,.int (othH sd n m)]/\FdAt H p n m f/\f.Ok/\f.Bd n m/\RwAt H a bs xs/\zac1 (ownH sd n m) xs/\othH sd n m<=10/\∀ r H',H r=none->Same H H'->H' r=some (.lst (rowV (othH sd n m+1) (dueS sd f xs)))->Q (.ref r) H'
theorem zbd5 {H:Hp}{p a:Addr}{n m:Nat}{sd:Bool}{f:Fd}{bs:List Addr}{xs:List (Int×Int×Int)}{Q:VK}{E:XK}(F:FdAt H p n m f) (O:f.Ok) (B:f.Bd n m) (R:RwAt H a bs xs) (ok:zac1 (ownH sd n m) xs) (ho:othH sd n m<=10) (q:∀ r H',H r=none->Same H H'->H' r=some (.lst (rowV (othH sd n m+1) (dueS sd f xs)))->Q (.ref r) H'):zn4 [.ref p,.str (wd sd),.ref a,.int (othH sd n m)] H Q E:=by unfold zn4;exact⟨p,a,n,m,sd,f,bs,xs,rfl,F,O,B,R,ok,ho,q⟩
theorem zbb3 {f:Addr}{fd:FuncData}(F:Fun K "row_dues" "row_dues" zs7 f fd) (N:Nm mg) (D_due:Def P w K mg base CX0 2 "due" ["field","side","row","count"] zai4):FnOk P w K mg base CX0 3 f fd ["field","side","row","most"] zn4:=by
 refine F.ok zbf8 (fun vs H Q E h=>by unfold zn4 at h;obtain⟨_,_,_,_,_,_,_,_,rfl,_⟩:=h;rfl) (fun cdv A outer s H vs Q E hr h=>?_)
 unfold zn4 at h
 obtain⟨p,a,n,m,sd,f,bs,xs,rfl,F,O,B,R,ok,ho,q⟩:=h
 have hu:=hu40 hr
 refine⟨_,(za5 (za8 (zj2 (N:=["count","field","side","row"]) (ks:=[none,some 0,some 1,some 2]) (zr0 N.range_ (za0 (zb4 oAdd (pq 3) za3) za1)) (fun cl C s3 H3 fp=>(za6 (i:=0) nb_11 rfl (by first|exact Or.inl rfl|exact Or.inr rfl))) (fun cl C s3 H3 fp=>zd5) (fun cl C s3 H3 fp=>(pD D_due hr zb5 (za0 (pq 1) (za0 (pq 2) (za0 (pq 3) (za0 (pq 0) za1)))))) (.skip (.take rfl rfl (by first|exact Or.inl rfl|exact Or.inr rfl) (.take rfl rfl (by first|exact Or.inl rfl|exact Or.inr rfl) (.take rfl rfl (by first|exact Or.inl rfl|exact Or.inr rfl) .nil))))))),?_⟩
 refine zg4 (by walk_at "om") (by walk_at "om") (by walk_at "om") (by walk_at "om") ?_
 rw[show ((othH sd n m:Int)+1 - 0).toNat=othH sd n m+1 by walk_at "om"]
 refine zo4 (n:=othH sd n m+1) Wk.range (by rw[sizeLine_eq];omega) (fun i=>.int (dueS sd f xs i)) (fun _=>true) (fun j σ=>∃ t:Option V,σ=[t,some (.ref p),some (.str (wd sd)),some (.ref a)]) ⟨none,rfl⟩ ?_ ?_
 ·rintro i x σ I R' S hi s1 hx ⟨_,rfl⟩ kk _
  obtain rfl:x=.int i:=by rw[hx,zdc8]
  refine br_T ?_
  refine due_rd (F.same s1) O B (R.same s1) ok (by walk_at "om") (fun H2 s2=>?_)
  walk_at "wh"
  exact kk rfl _ _ s2 ⟨_,rfl⟩
 intro acc H1 f1 s1 h1
 rw[ze3] at h1
 walk_at "wh"
 exact q acc H1 f1 s1 h1
structure StW (H:Hp) (p:Addr) (rs:List (Addr×List Addr)) (xss:List (List (Int×Int×Int))):Prop where
 out:H p=some (.lst (rs.map fun r=>V.ref r.1))
 len:rs.length=xss.length
 row:∀ (i:Nat) r xs,rs[i]?=some r->xss[i]?=some xs->RwAt H r.1 r.2 xs
theorem StW.same {H H':Hp}{p:Addr}{rs:List (Addr×List Addr)}{xss:List (List (Int×Int×Int))}(R:StW H p rs xss) (s:Same H H'):StW H' p rs xss:=⟨s _ _ R.out,R.len,fun i r xs e1 e2=>(R.row i r xs e1 e2).same s⟩
theorem StW.sh {H:Hp}{p:Addr}{rs:List (Addr×List Addr)}{xss:List (List (Int×Int×Int))}(R:StW H p rs xss):ShV H (.ref p) (stmD xss):=.lst R.out (ShL.idx (by rw[zcy0,zcy0,R.len]) fun i x d h1 h2=>by
 rw[zcy2] at h1 h2
 obtain⟨b,eb,rfl⟩:=zcy6.mp h1
 obtain⟨z,ez,rfl⟩:=zcy6.mp h2
 exact (R.row i b z eb ez).sh)
@[irreducible] def zx8:Sp:=fun vs H Q _=>∃ (b l st:Addr) (ps:List Addr) (n m:Nat) (sd:Bool) (fs:List Fd) (rs:List (Addr×List Addr)) (xss:List (List (Int×Int×Int))),vs=[.ref b,.str (wd sd),.ref st]/\zl4 H b l ps n m fs/\OkB n m fs/\(∀ f∈fs,f.Bd n m)/\StW H st rs xss/\xss.length=fs.length/\(∀ xs∈xss,zac1 (ownH sd n m) xs)/\∀ (r:Addr) (qs:List Addr) (H':Hp),H r=none->Same H H'->zd3 H' r qs fs.length (othH sd n m+1) (fun k=>dueS sd (fs.getD k (.more 0 0)) (xss.getD k []))->Q (.ref r) H'
theorem zbz9 {H:Hp}{b l st:Addr}{ps:List Addr}{n m:Nat}{sd:Bool}{fs:List Fd}{rs:List (Addr×List Addr)}{xss:List (List (Int×Int×Int))}{Q:VK}{E:XK}(B:zl4 H b l ps n m fs) (O:OkB n m fs) (D:∀ f∈fs,f.Bd n m) (S:StW H st rs xss) (hl:xss.length=fs.length) (ok:∀ xs∈xss,zac1 (ownH sd n m) xs) (q:∀ (r:Addr) (qs:List Addr) (H':Hp),H r=none->Same H H'->zd3 H' r qs fs.length (othH sd n m+1) (fun k=>dueS sd (fs.getD k (.more 0 0)) (xss.getD k []))->Q (.ref r) H'):zx8 [.ref b,.str (wd sd),.ref st] H Q E:=by
 unfold zx8;exact⟨b,l,st,ps,n,m,sd,fs,rs,xss,rfl,B,O,D,S,hl,ok,q⟩
theorem zad5 {n m:Nat}{fs:List Fd}(O:OkB n m fs) (sd:Bool):othH sd n m<=10/\ownH sd n m<=10:=by
 have:=O.1
 unfold othH ownH
 cases sd<;>simp<;>omega
theorem zcr1 {f:Addr}{fd:FuncData}(F:Fun K "dues" "dues" zan8 f fd) (N:Nm mg) (zcs1:Def P w K mg base CX0 1 "other_hosts" ["battle","side"] zd8) (zcw4:Def P w K mg base CX0 3 "row_dues" ["field","side","row","most"] zn4):FnOk P w K mg base CX0 4 f fd ["battle","side","stream"] zx8:=by
 refine F.ok zbt8 (fun vs H Q E h=>by unfold zx8 at h;obtain⟨_,_,_,_,_,_,_,_,_,_,rfl,_⟩:=h;rfl) (fun cdv A outer s H vs Q E hr h=>?_)
 unfold zx8 at h
 obtain⟨b,l,st,ps,n,m,sd,fs,rs,xss,rfl,B,O,D,S,hl,ok,q⟩:=h
 have hu:=hu40 hr
 have bl:=B.len
 have sl:=S.len
 have o2:=O.2
 obtain⟨ho,hw⟩:=zad5 O sd
 refine⟨_,(za2 (psS (i:=3) zbt8.nd (pD zcs1 hr zb5 (za0 (pq 0) (za0 (pq 1) za1))))
   (za5 (za8 (zj2 (N:=["field","row","side","most"]) (ks:=[none,none,some 1,some 3]) (zbr2 (K:=K) rfl N.zip_ (za0 (za7 (K:=K) rfl (pq 0) za3) (za0 (pq 2) za1))) (fun cl C s3 H3 fp=>(zp0 (K:=K) (n:=2) rfl rfl (zb7 (za6 (i:=0) nb_12 rfl (by first|exact Or.inl rfl|exact Or.inr rfl)) (zb7 (za6 (i:=1) nb_12 rfl (by first|exact Or.inl rfl|exact Or.inr rfl)) zo3)))) (fun cl C s3 H3 fp=>zd5) (fun cl C s3 H3 fp=>(pD zcw4 hr zb5 (za0 (pq 0) (za0 (pq 2) (za0 (pq 1) (za0 (pq 3) za1)))))) (.skip (.skip (.take rfl rfl (by first|exact Or.inl rfl|exact Or.inr rfl) (.take rfl rfl (by first|exact Or.inl rfl|exact Or.inr rfl) .nil)))))))),?_⟩
 refine zu9 B.out ?_
 refine za9 (v:=.ref l) B.out rfl ?_
 refine zbr0 (SqL.of B.lst) (SqL.of S.out) ?_
 refine zav5 (n:=fs.length) (Wk.zip (SqL.of B.lst) (SqL.of S.out) (by rw[zcy0,bl]) (by rw[zcy0,sl,hl])) (by rw[sizeLine_eq];omega) (fun i=>.lst (rowV (othH sd n m+1) (dueS sd (fs.getD i (.more 0 0)) (xss.getD i [])))) (fun j σ=>∃ t u:Option V,σ=[t,u,some (.str (wd sd)),some (.int (othH sd n m))]) ⟨none,none,rfl⟩ ?_ ?_
 ·rintro i x σ I R' S' hi s1 ⟨t,y1,y2,rfl,ht,hy1,hy2⟩ ⟨_,_,rfl⟩ kk
  obtain⟨p,f,rfl,ep,ef,hf,of⟩:=(B.same s1).elt hy1
  rw[zcy2] at hy2
  obtain⟨r,er,rfl⟩:=zcy6.mp hy2
  obtain⟨xs,ex⟩:∃ xs,xss[i]?=some xs:=⟨_,zcx9 (by walk_at "om")⟩
  rw[show fs.getD i (.more 0 0)=f by rw[zcy3,ef];rfl,show xss.getD i []=xs by rw[zcy3,ex];rfl] at kk
  have R:=(S.row i r xs er ex).same s1
  refine zg1 ht ?_
  refine br_T ?_
  refine zbd5 hf of (D f (zcy7 ef)) R (ok xs (zcy7 ex)) ho (fun r2 H2 f2 s2 h2=>?_)
  walk_at "wh"
  exact kk _ _ _ f2 s2 h2 ⟨_,_,rfl⟩
 rintro r qs H1 F1
 walk_at "wh"
 exact q r qs H1 F1.facc F1.same ⟨F1.out,F1.len,fun i p e=>(F1.row i p e).2⟩
@[irreducible] def zl1:Sp:=fun vs H Q _=>∃ (a:Addr) (v:V) (k c:Nat) (d:Nat->Int) (ns:List Int),vs=[.ref a,v,.int c]/\H a=some (.lst (rowV k d))/\c<k/\k<=100/\((v=.non/\ns=[d c])∨∃ (b:Addr) (t:Nat->Int),v=.ref b/\H b=some (.lst (rowV k t))/\ns=(List.range (c+1)).map fun s=>d s+t (c - s))/\∀ r H',H r=none->Same H H'->H' r=some (.lst (ns.map V.int))->Q (.ref r) H'
theorem zan7 {H:Hp}{a:Addr}{k c:Nat}{d:Nat->Int}{Q:VK}{E:XK}(ha:H a=some (.lst (rowV k d))) (hc:c<k) (hk:k<=100) (q:∀ r H',H r=none->Same H H'->H' r=some (.lst ([d c].map V.int))->Q (.ref r) H'):zl1 [.ref a,.non,.int c] H Q E:=by unfold zl1;exact⟨a,.non,k,c,d,_,rfl,ha,hc,hk,.inl ⟨rfl,rfl⟩,q⟩
theorem zag5 {H:Hp}{a b:Addr}{k c:Nat}{d t:Nat->Int}{Q:VK}{E:XK}(ha:H a=some (.lst (rowV k d))) (hb:H b=some (.lst (rowV k t))) (hc:c<k) (hk:k<=100) (q:∀ r H',H r=none->Same H H'->H' r=some (.lst (((List.range (c+1)).map fun s=>d s+t (c - s)).map V.int))->Q (.ref r) H'):zl1 [.ref a,.ref b,.int c] H Q E:=by unfold zl1;exact⟨a,.ref b,k,c,d,_,rfl,ha,hc,hk,.inr ⟨b,t,rfl,hb,rfl⟩,q⟩
theorem zbs1 {f:Addr}{fd:FuncData}(F:Fun K "bounds" "bounds" zz0 f fd) (N:Nm mg):FnOk P w K mg base CX0 1 f fd ["field_dues","behind","count"] zl1:=by
 refine F.ok zbv4 (fun vs H Q E h=>by unfold zl1 at h;obtain⟨_,_,_,_,_,_,rfl,_⟩:=h;rfl) (fun cdv A outer s H vs Q E hr h=>?_)
 unfold zl1 at h
 obtain⟨a,v,k,c,d,ns,rfl,ha,hc,hk,h,q⟩:=h
 have hu:=hu40 hr
 refine⟨_,(za2 (psIf (ptC oIsX (pq 1) zae4) (za5 (za8 (zr9 (za0 (za7 (K:=K) rfl (pq 0) (pq 2)) za1)))) zb6)
   (za5 (za8 (zj2 (N:=["sent","field_dues","behind","count"]) (ks:=[none,some 0,some 1,some 2]) (zr0 N.range_ (za0 (zb4 oAdd (pq 2) za3) za1)) (fun cl C s3 H3 fp=>(za6 (i:=0) nb_13 rfl (by first|exact Or.inl rfl|exact Or.inr rfl))) (fun cl C s3 H3 fp=>zd5) (fun cl C s3 H3 fp=>(zb4 oAdd (za7 (K:=K) rfl (pq 1) (pq 0)) (za7 (K:=K) rfl (pq 2) (zb4 oSub (pq 3) (pq 0))))) (.skip (.take rfl rfl (by first|exact Or.inl rfl|exact Or.inr rfl) (.take rfl rfl (by first|exact Or.inl rfl|exact Or.inr rfl) (.take rfl rfl (by first|exact Or.inl rfl|exact Or.inr rfl) .nil)))))))),?_⟩
 rcases h with ⟨rfl,rfl⟩|⟨b,t,rfl,hb,rfl⟩
 ·walk_at "wh"
  first|refine br_T ?_|refine zl3 rfl ?_
  refine zb9 (v:=.int (d c)) ha (zc5 (zj0 hc)) ?_
  refine ze6 (fun r H1 f1 s1 h1=>?_)
  walk_at "wh"
  exact q r H1 f1 s1 h1
 ·walk_at "wh"
  first|refine br_F ?_|refine zw6 (fun z=>by cases z) ?_
  refine zg4 (by walk_at "om") (by walk_at "om") (by walk_at "om") (by walk_at "om") ?_
  rw[show ((c:Int)+1 - 0).toNat=c+1 by walk_at "om"]
  refine zo4 (n:=c+1) Wk.range (by rw[sizeLine_eq];omega) (fun i=>.int (d i+t (c - i))) (fun _=>true) (fun j σ=>∃ t:Option V,σ=[t,some (.ref a),some (.ref b),some (.int c)]) ⟨none,rfl⟩ ?_ ?_
  ·rintro i x σ I R' S hi s1 hx ⟨_,rfl⟩ kk _
   obtain rfl:x=.int i:=by rw[hx,zdc8]
   refine br_T ?_
   refine zb9 (v:=.int (d i)) (s1 _ _ ha) (zc5 (zj0 (by walk_at "om"))) ?_
   refine zb9 (v:=.int (t (c - i))) (s1 _ _ hb) (by rw[show (c:Int) - (i:Int)=((c - i:Nat):Int) by walk_at "om"];exact zc5 (zj0 (by walk_at "om"))) ?_
   walk_at "wh"
   exact kk rfl _ _ (Same.refl _) ⟨_,rfl⟩
  intro acc H1 f1 s1 h1
  rw[ze3] at h1
  walk_at "wh"
  exact q acc H1 f1 s1 (by rw[h1,zda5];rfl)
def zp8 (sd:Bool) (x y:Int):Bool:=if sd then decide (y<=x) else decide (x<=y)
theorem zai0 {sd:Bool}{x y:Int}:zp8 sd x y=true↔leS sd x y:=by
 unfold zp8 leS
 cases sd<;>simp
@[irreducible] def zu6:Sp:=fun vs H Q _=>∃ (sd:Bool) (x y:Int),vs=[.str (wd sd),.int x,.int y]/\Q (.bl (zp8 sd x y)) H
theorem zar1 {H:Hp}{sd:Bool}{x y:Int}{Q:VK}{E:XK}(q:Q (.bl (zp8 sd x y)) H):zu6 [.str (wd sd),.int x,.int y] H Q E:=by unfold zu6;exact⟨sd,x,y,rfl,q⟩
theorem zcb6 {f:Addr}{fd:FuncData}(F:Fun K "keeps" "keeps" zae6 f fd) (N:Nm mg):FnOk P w K mg base CX0 1 f fd ["side","number","bound"] zu6:=by
 refine F.ok zcd9 (fun vs H Q E h=>by unfold zu6 at h;obtain⟨_,_,_,rfl,_⟩:=h;rfl) (fun cdv A outer s H vs Q E hr h=>?_)
 unfold zu6 at h
 obtain⟨sd,x,y,rfl,q⟩:=h
 have hu:=hu40 hr
 refine⟨_,(za5 (za8 (peIf (ptC (zaf3 (K:=K) rfl (by exact hu)) (pq 0) zf2) (peC oLe (pq 1) (pq 2)) (peC oGe (pq 1) (pq 2))))),?_⟩
 cases sd
 ·walk_at "wh"
  refine zl3 rfl ?_
  walk_at "wh"
  exact q
 ·walk_at "wh"
  refine zw6 (by decide) ?_
  walk_at "wh"
  exact q
@[irreducible] def zl2:Sp:=fun vs H Q _=>∃ (st:Addr) (rs:List (Addr×List Addr)) (xss:List (List (Int×Int×Int))),vs=[.ref st]/\StW H st rs xss/\1<=xss.length/\(xss.getD 0 []).length<=1000/\∀ H',Same H H'->Q (.int ((xss.getD 0 []).map fun z=>z.2.2).sum) H'
theorem zah9 {H:Hp}{st:Addr}{rs:List (Addr×List Addr)}{xss:List (List (Int×Int×Int))}{Q:VK}{E:XK}(S:StW H st rs xss) (h1:1<=xss.length) (hl:(xss.getD 0 []).length<=1000) (q:∀ H',Same H H'->Q (.int ((xss.getD 0 []).map fun z=>z.2.2).sum) H'):zl2 [.ref st] H Q E:=by unfold zl2;exact⟨st,rs,xss,rfl,S,h1,hl,q⟩
theorem zax0 {xs:List (Int×Int×Int)}{k:Nat}(hk:k=xs.length):((List.range k).map fun i=>V.int (xs.getD i (0,0,0)).2.2)=(xs.map fun z=>z.2.2).map V.int:=by
 subst hk
 apply zdd0
 intro i
 rw[zcy2,zcy2,zcy2]
 by_cases h:i<xs.length
 ·rw[zdb0 h,zcx9 h]
  simp[h]
 ·rw[zda0 (by simp;omega),zda0 (by walk_at "om")]
  rfl
theorem zbb6 {f:Addr}{fd:FuncData}(F:Fun K "whole_in" "whole_in" zs1 f fd) (N:Nm mg):FnOk P w K mg base CX0 1 f fd ["stream"] zl2:=by
 refine F.ok zbg0 (fun vs H Q E h=>by unfold zl2 at h;obtain⟨_,_,_,rfl,_⟩:=h;rfl) (fun cdv A outer s H vs Q E hr h=>?_)
 unfold zl2 at h
 obtain⟨st,rs,xss,rfl,S,h1,hl,q⟩:=h
 have hu:=hu40 hr
 have sl:=S.len
 obtain⟨r,er⟩:∃ r,rs[0]?=some r:=⟨_,zcx9 (by walk_at "om")⟩
 obtain⟨xs,ex⟩:∃ r,xss[0]?=some r:=⟨_,zcx9 (by walk_at "om")⟩
 rw[show xss.getD 0 []=xs by rw[zcy3,ex];rfl] at hl q
 have R:=S.row 0 r xs er ex
 have rl:=R.len
 refine⟨_,(za5 (za8 (pB (zbw3 (K:=K) rfl rfl) N.sum_ zav0 (za0 (zj2 (N:=["left","sent","flow"]) (ks:=[none,none,none]) (zk2 (K:=K) rfl (za7 (K:=K) rfl (pq 0) za3)) (fun cl C s3 H3 fp=>(zp0 (K:=K) (n:=3) rfl rfl (zb7 (za6 (i:=0) nb_9 rfl (by first|exact Or.inl rfl|exact Or.inr rfl)) (zb7 (za6 (i:=1) nb_9 rfl (by first|exact Or.inl rfl|exact Or.inr rfl)) (zb7 (za6 (i:=2) nb_9 rfl (by first|exact Or.inl rfl|exact Or.inr rfl)) zo3))))) (fun cl C s3 H3 fp=>zd5) (fun cl C s3 H3 fp=>(pq 2)) (.skip (.skip (.skip .nil)))) za1)))),?_⟩
 refine zb9 (v:=.ref r.1) S.out (zc5 (j:=0) (by rw[zcy2,er];rfl)) ?_
 refine zc8 R.out ?_
 refine zo4 (Wk.list (SqL.of R.out)) (by rw[zcy0,sizeLine_eq];omega) (fun i=>.int (xs.getD i (0,0,0)).2.2) (fun _=>true) (fun j σ=>∃ t u w:Option V,σ=[t,u,w]) ⟨none,none,none,rfl⟩ ?_ ?_
 ·rintro i x σ I R' S' hi s1 hx ⟨_,_,_,rfl⟩ kk _
  rw[zcy2] at hx
  obtain⟨t,et,rfl⟩:=zcy6.mp hx
  obtain⟨z,ez⟩:∃ z,xs[i]?=some z:=⟨_,zcx9 (by have:=(zcy4.mp et).1;omega)⟩
  rw[show xs.getD i (0,0,0)=z by rw[zcy3,ez];rfl] at kk
  refine zg1 (s1 _ _ (R.row i t z et ez)) ?_
  refine br_T ?_
  walk_at "wh"
  exact kk rfl _ _ (Same.refl _) ⟨_,_,_,rfl⟩
 intro acc H1 f1 s1 h1
 rw[ze3,zax0 (by rw[zcy0];exact rl)] at h1
 refine zay8 h1 ?_
 walk_at "wh"
 exact q _ s1
def dsL (D:Nat->Nat->Int) (F:Nat):List (Nat->Int):=(List.range F).map D
theorem zbs6 (D:Nat->Nat->Int) (F:Nat):(dsL D F).length=F:=by unfold dsL;rw[zcy0,zda2]
theorem zaq5 {D:Nat->Nat->Int}{F k:Nat}(hk:k<F):(dsL D F).drop k=D k :: (dsL D F).drop (k+1):=by
 rw[zdd8 (by rw[zbs6];exact hk)]
 congr 1
 unfold dsL
 rw[zdg4,List.getElem_range]
theorem zbj9 {sd:Bool}{D:Nat->Nat->Int}{F k:Nat}(hk:k+1=F) (c:Nat):tabR sd ((dsL D F).drop k) c=optL sd [D k c]:=by
 rw[zaq5 (by walk_at "om"),zdd7 (by rw[zbs6];omega)]
 rfl
theorem zaq0 {sd:Bool}{D:Nat->Nat->Int}{F k:Nat}(hk:k+1<F) (c:Nat):tabR sd ((dsL D F).drop k) c=optL sd ((List.range (c+1)).map fun s=>D k s+tabR sd ((dsL D F).drop (k+1)) (c - s)):=by
 rw[zaq5 (show k<F by walk_at "om"),zaq5 hk]
 rfl
@[irreducible] def zn6:Sp:=fun vs H Q _=>∃ (sd:Bool) (a:Addr) (ns:List Int),vs=[.str (wd sd),.ref a]/\H a=some (.lst (ns.map V.int))/\ns≠[]/\Q (.int (optL sd ns)) H
theorem zak8 {H:Hp}{sd:Bool}{a:Addr}{ns:List Int}{Q:VK}{E:XK}(h:H a=some (.lst (ns.map V.int))) (ne:ns≠[]) (q:Q (.int (optL sd ns)) H):zn6 [.str (wd sd),.ref a] H Q E:=by unfold zn6;exact⟨sd,a,ns,rfl,h,ne,q⟩
theorem zbe8 {f:Addr}{fd:FuncData}(F:Fun K "tightest" "tightest" zt0 f fd) (N:Nm mg):FnOk P w K mg base CX0 1 f fd ["side","numbers"] zn6:=by
 refine F.ok zbd2 (fun vs H Q E h=>by unfold zn6 at h;obtain⟨_,_,_,rfl,_⟩:=h;rfl) (fun cdv A outer s H vs Q E hr h=>?_)
 unfold zn6 at h
 obtain⟨sd,a,ns,rfl,h,ne,q⟩:=h
 have hu:=hu40 hr
 refine⟨_,(za5 (za8 (peIf (ptC (zaf3 (K:=K) rfl (by exact hu)) (pq 0) zf2) (pB (cMinK (K:=K) rfl rfl) N.min_ zbg8 (za0 (pq 1) za1)) (pB (cMaxK (K:=K) rfl rfl) N.max_ zbu7 (za0 (pq 1) za1))))),?_⟩
 cases sd
 ·walk_at "wh"
  refine zl3 rfl ?_
  refine zbd7 (SqL.of h) (List.length_pos_iff.mpr ne) (fun M hM hm=>?_)
  rw[zab8 (sd:=false) hM hm]
  walk_at "wh"
  exact q
 ·walk_at "wh"
  refine zw6 (by decide) ?_
  refine zbb0 (SqL.of h) (List.length_pos_iff.mpr ne) (fun M hM hm=>?_)
  rw[zab8 (sd:=true) hM hm]
  walk_at "wh"
  exact q
@[irreducible] def zd6:Sp:=fun vs H Q _=>∃ (sd:Bool) (o:Addr) (os:List Addr) (F w:Nat) (D:Nat->Nat->Int),vs=[.str (wd sd),.ref o]/\zd3 H o os F w D/\F<=100/\w<=100/\∀ (r:Addr) (rs:List Addr) (H':Hp),Same H H'->zd3 (nw H H') r rs F w (fun k=>tabR sd ((dsL D F).drop k))->rs.Nodup->r ∉ rs->Q (.ref r) H'
theorem zag0 {H:Hp}{sd:Bool}{o:Addr}{os:List Addr}{F w:Nat}{D:Nat->Nat->Int}{Q:VK}{E:XK}(G:zd3 H o os F w D) (hF:F<=100) (hw:w<=100) (q:∀ (r:Addr) (rs:List Addr) (H':Hp),Same H H'->zd3 (nw H H') r rs F w (fun k=>tabR sd ((dsL D F).drop k))->rs.Nodup->r ∉ rs->Q (.ref r) H'):zd6 [.str (wd sd),.ref o] H Q E:=by
 unfold zd6;exact⟨sd,o,os,F,w,D,rfl,G,hF,hw,q⟩
set_option maxHeartbeats 0 in
theorem zae8 {f:Addr}{fd:FuncData}(F:Fun K "tightest_table" "tightest_table" zg3 f fd) (N:Nm mg) (zcu0:Def P w K mg base CX0 1 "bounds" ["field_dues","behind","count"] zl1) (zcw5:Def P w K mg base CX0 1 "tightest" ["side","numbers"] zn6):FnOk P w K mg base CX0 2 f fd ["side","all_dues"] zd6:=by
 refine F.ok zh5 (fun vs H Q E h=>by unfold zd6 at h;obtain⟨_,_,_,_,_,_,rfl,_⟩:=h;rfl) (fun cdv A outer s H vs Q E hr h=>?_)
 unfold zd6 at h
 obtain⟨sd,o,os,F',w',D,rfl,G,hF,hw,q⟩:=h
 have hu:=hu40 hr
 have ol:=G.len
 refine⟨_,(za2 (psS (i:=2) zh5.nd (zr9 za1))
   (za2 (psS (i:=3) zh5.nd zae4)
   (za2 (zu5 PassesOwn.never rfl (piRevL (K:=K) rfl N.reversed_ (za0 (pq 1) za1)) (za6 (i:=4) zh5.nd rfl (by first|exact Or.inl rfl|exact Or.inr rfl)) (za2 (psS (i:=3) zh5.nd (zj2 (N:=["count","side","field_dues","behind"]) (ks:=[none,some 0,some 4,some 3]) (zr0 N.range_ (za0 (pB (zp2 (K:=K) rfl) N.len_ zg0 (za0 (pq 4) za1)) za1)) (fun cl C s3 H3 fp=>(za6 (i:=0) nb_14 rfl (by first|exact Or.inl rfl|exact Or.inr rfl))) (fun cl C s3 H3 fp=>zd5) (fun cl C s3 H3 fp=>(pD zcw5 hr zb5 (za0 (pq 1) (za0 (pD zcu0 hr zb5 (za0 (pq 2) (za0 (pq 3) (za0 (pq 0) za1)))) za1)))) (.skip (.take rfl rfl (by first|exact Or.inl rfl|exact Or.inr rfl) (.take rfl rfl (by first|exact Or.inl rfl|exact Or.inr rfl) (.take rfl rfl (by first|exact Or.inl rfl|exact Or.inr rfl) .nil))))))
   (za5 (ze7 (zh8 (pq 2) (za0 (pq 3) za1))))))
   (za5 (za8 (peLRev (K:=K) rfl N.list_ N.reversed_ (za0 (pq 2) za1))))))),?_⟩
 refine ze6 (fun rw' H1 f1 s1 h1=>?_)
 refine zcm1 (SqL.of (s1 _ _ G.out)) ?_
 refine zcd8 (xs:=os.map V.ref) (fun i σ I=>∃ (bv:V) (y5:Option V) (rs:List Addr),σ=[some (.str (wd sd)),some (.ref o),some (.ref rw'),some bv,y5]/\Same H I/\I rw'=some (.lst (rs.map V.ref))/\rs.length=i/\rs.Nodup/\(∀ (j:Nat) p,rs[j]?=some p->H p=none/\p≠rw'/\I p=some (.lst (rowV w' (tabR sd ((dsL D F').drop (F' - 1 - j))))))/\(i=0->bv=.non)/\∀ j p,i=j+1->rs[j]?=some p->bv=.ref p) ?_ ?_ ?_ ?_
 ·exact⟨_,_,[],rfl,s1,h1,rfl,List.nodup_nil,fun j p e=>by simp at e,fun _=>rfl,fun j p e=>by walk_at "om"⟩
 ·rintro i σ I _ ⟨_,_,_,_,sI,_⟩
  exact SqL.of (sI _ _ G.out)
 ·rintro i x σ I hi hx ⟨bv,y5,rs,rfl,sI,hrw,rl,nd,pr,b0,b1⟩
  rw[zcy0,ol] at hi hx
  rw[zcy2] at hx
  obtain⟨p,ep,rfl⟩:=zcy6.mp hx
  have hp:=G.row _ p ep
  obtain⟨k,ek⟩:∃ k,F' - 1 - i=k:=⟨_,rfl⟩
  rw[ek] at hp
  refine ze8 (sI _ _ hp) ?_
  rw[zn0]
  refine zg4 (by decide) (by decide) (by walk_at "om") (by walk_at "om") ?_
  rw[show ((w':Int) - 0).toNat=w' by walk_at "om"]
  refine zo4 (n:=w') Wk.range (by rw[sizeLine_eq];omega) (fun c=>.int (tabR sd ((dsL D F').drop k) c)) (fun _=>true) (fun j σ=>∃ t:Option V,σ=[t,some (.str (wd sd)),some (.ref p),some bv]) ⟨none,rfl⟩ ?_ ?_
  ·rintro c x σ J R' S' hc sJ hx ⟨_,rfl⟩ kk _
   obtain rfl:x=.int c:=by rw[hx,zdc8]
   have hpJ:=sJ _ _ (sI _ _ hp)
   refine br_T ?_
   by_cases h0:i=0
   ·have e0:=b0 h0
    subst e0
    rw[zbj9 (by walk_at "om")] at kk
    refine zan7 hpJ hc hw (fun r2 J2 f2 s2 h2=>?_)
    refine zak8 h2 (by simp) ?_
    walk_at "wh"
    exact kk rfl _ _ s2 ⟨_,rfl⟩
   ·obtain⟨j,ej⟩:∃ j,i=j+1:=⟨i - 1,by walk_at "om"⟩
    obtain⟨pb,epb⟩:∃ pb,rs[j]?=some pb:=⟨_,zcx9 (by walk_at "om")⟩
    have eb:=b1 j pb ej epb
    have hb:=sJ _ _ (pr j pb epb).2.2
    rw[show F' - 1 - j=k+1 by walk_at "om"] at hb
    subst eb
    rw[zaq0 (by walk_at "om")] at kk
    refine zag5 hpJ hb hc hw (fun r2 J2 f2 s2 h2=>?_)
    refine zak8 h2 (by simp) ?_
    walk_at "wh"
    exact kk rfl _ _ s2 ⟨_,rfl⟩
  intro acc J f2 s2 h2
  rw[ze3] at h2
  have na:acc≠rw':=Ne.symm (zb2 hrw f2)
  have hacc:J acc=some (.lst (rowV w' (tabR sd ((dsL D F').drop k)))):=h2
  refine zu7 (s2 _ _ hrw) ?_
  refine zx0 (s2 _ _ hrw) (by rw[zcy0,sizeLine_eq];omega) (fun J3 c3 h3=>?_)
  walk_at "wh"
  refine⟨.ref acc,_,rs++[acc],rfl,(sI.trans s2).chg f1 c3,by rw[h3,zda3];rfl,by rw[zcz8,rl];rfl,?_,fun j p' e=>?_,fun z=>by walk_at "om",fun j p' z e=>?_⟩
  ·rw[zdg1]
   refine⟨nd,by simp,fun x hx y hy=>?_⟩
   rw[zdb2.mp hy]
   obtain⟨j,ej⟩:=zdb9 hx
   exact zb2 (pr j x ej).2.2 f2
  ·rcases zc2 e with ⟨a1,a2⟩|⟨a1,a2⟩
   ·obtain⟨w1,w2,w3⟩:=pr j p' a2
    exact⟨w1,w2,c3 _ _ w2 (s2 _ _ w3)⟩
   ·rw[a1,a2,rl,ek]
    exact⟨sI.free f2,na,c3 _ _ na hacc⟩
  ·rcases zc2 e with ⟨a1,a2⟩|⟨a1,a2⟩
   ·omega
   ·rw[a2]
 ·rintro σ I ⟨bv,y5,rs,rfl,sI,hrw,rl,nd,pr,_,_⟩
  rw[zcy0,ol] at rl
  refine zcp4 hrw (fun r J f2 s2 h2=>?_)
  walk_at "wh"
  refine q r rs.reverse J (sI.trans s2) ⟨zp7 (sI.free f2) (by rw[h2,List.map_reverse]),by rw[zdd4,rl],fun i p e=>?_⟩ (by unfold List.Nodup;rw[List.pairwise_reverse];exact nd.imp Ne.symm) (fun hm=>?_)
  ·have hi:i<rs.length:=by have:=(zcy4.mp e).1;rwa [zdd4] at this
   rw[zdf8 hi] at e
   obtain⟨w1,w2,w3⟩:=pr _ p e
   rw[show F' - 1 - (rs.length - 1 - i)=i by walk_at "om"] at w3
   exact zp7 w1 (s2 _ _ w3)
  ·obtain⟨j,ej⟩:=zdb9 (List.mem_reverse.mp hm)
   exact absurd rfl (zb2 (pr j r ej).2.2 f2)
def zaa8 (v:Int):List Int->Nat
 | []=>0
 | x :: xs=>if x=v then 0 else zaa8 v xs+1
theorem zah6 {v:Int}:∀ {xs:List Int},v∈xs->xs[zaa8 v xs]?=some v/\∀ (m:Nat) y,m<zaa8 v xs->xs[m]?=some y->y≠v
 | [],h=>by cases h
 | x :: xs,h=>by
  unfold zaa8
  by_cases e:x=v
  ·rw[if_pos e]
   exact⟨by rw[e];rfl,fun m y hm=>absurd hm (Nat.not_lt_zero m)⟩
  ·rw[if_neg e]
   have hv:v∈xs:=by
    rcases zcz5.mp h with rfl|h
    ·exact absurd rfl e
    ·exact h
   obtain⟨a,b⟩:=zah6 hv
   refine⟨a,fun m y hm hy=>?_⟩
   cases m with
   | zero=>cases hy;exact e
   | succ m=>exact b m y (by walk_at "om") hy
def zd7 (D T:Nat->Nat->Int) (h:Nat):Nat->List Nat×Nat
 | 0=>([],h)
 | i+1=>((zd7 D T h i).1++[zaa8 (T i (zd7 D T h i).2) ((List.range ((zd7 D T h i).2+1)).map fun s=>D i s+T (i+1) ((zd7 D T h i).2 - s))],(zd7 D T h i).2 - zaa8 (T i (zd7 D T h i).2) ((List.range ((zd7 D T h i).2+1)).map fun s=>D i s+T (i+1) ((zd7 D T h i).2 - s)))
theorem zau8 (D T:Nat->Nat->Int) (h:Nat):∀ i,(zd7 D T h i).2<=h
 | 0=>zcz6 _
 | i+1=>by
  have:=zau8 D T h i
  show (zd7 D T h i).2 - _<=h
  omega
def zal8 (sd:Bool) (D:Nat->Nat->Int) (F h:Nat):List Nat:=(zd7 D (fun k=>tabR sd ((dsL D F).drop k)) h (F - 1)).1++[(zd7 D (fun k=>tabR sd ((dsL D F).drop k)) h (F - 1)).2]
theorem zcn7 {p:Addr}{v:Int}{H:Hp}{Q:VK}{ns:List Int}(h:H p=some (.lst (ns.map V.int))) (hv:v∈ns) (q:Q (.int (zaa8 v ns)) H):rIdxA p (.int v) H Q:=by
 unfold rIdxA
 obtain⟨a,b⟩:=zah6 hv
 refine⟨ns.map V.int,zaa8 v ns,h,rfl,?_,⟨.int v,by rw[zcy2,a];rfl,zbk4 rfl⟩,fun m y hm hy=>?_,q⟩
 ·rw[zde8,zda9]
  exact fun x _=>rfl
 ·rw[zcy2] at hy
  obtain⟨x,ex,rfl⟩:=zcy6.mp hy
  have:=b m x hm ex
  show decide (x=v)=false
  exact decide_eq_false this
@[irreducible] def zi9:Sp:=fun vs H Q _=>∃ (sd:Bool) (o t:Addr) (os ts:List Addr) (F h:Nat) (D:Nat->Nat->Int),vs=[.ref o,.ref t]/\zd3 H o os F (h+1) D/\zd3 H t ts F (h+1) (fun k=>tabR sd ((dsL D F).drop k))/\(1<=F/\F<=100)/\h<=40/\∀ r H',H r=none->Same H H'->H' r=some (.lst ((zal8 sd D F h).map fun n=>V.int ((n:Nat):Int)))->Q (.ref r) H'
theorem zaq4 {H:Hp}{sd:Bool}{o t:Addr}{os ts:List Addr}{F h:Nat}{D:Nat->Nat->Int}{Q:VK}{E:XK}(G:zd3 H o os F (h+1) D) (G':zd3 H t ts F (h+1) (fun k=>tabR sd ((dsL D F).drop k))) (h1:1<=F) (h2:F<=100) (hh:h<=40) (q:∀ r H',H r=none->Same H H'->H' r=some (.lst ((zal8 sd D F h).map fun n=>V.int ((n:Nat):Int)))->Q (.ref r) H'):zi9 [.ref o,.ref t] H Q E:=by
 unfold zi9;exact⟨sd,o,t,os,ts,F,h,D,rfl,G,G',⟨h1,h2⟩,hh,q⟩
set_option maxHeartbeats 0 in
theorem zaq3 {f:Addr}{fd:FuncData}(F:Fun K "plan_along" "plan_along" zo7 f fd) (N:Nm mg) (zcu0:Def P w K mg base CX0 1 "bounds" ["field_dues","behind","count"] zl1):FnOk P w K mg base CX0 2 f fd ["all_dues","table"] zi9:=by
 refine F.ok zl6 (fun vs H Q E h=>by unfold zi9 at h;obtain⟨_,_,_,_,_,_,_,_,rfl,_⟩:=h;rfl) (fun cdv A outer s H vs Q E hr h=>?_)
 unfold zi9 at h
 obtain⟨sd,o,t,os,ts,F',h,D,rfl,G,G',⟨hF1,hF2⟩,hh,q⟩:=h
 have hu:=hu40 hr
 have ol:=G.len
 have tl:=G'.len
 obtain⟨t0,et0,ht0⟩:=G'.some (i:=0) (by walk_at "om")
 refine⟨_,(za2 (psS (i:=2) zl6.nd (zr9 za1))
   (za2 (psS (i:=3) zl6.nd (zb4 oSub (pB (zp2 (K:=K) rfl) N.len_ zg0 (za0 (za7 (K:=K) rfl (pq 1) za3) za1)) za3))
   (za2 (zu5 PassesOwn.never rfl (zr0 N.range_ (za0 (zb4 oSub (pB (zp2 (K:=K) rfl) N.len_ zg0 (za0 (pq 1) za1)) za3) za1)) (za6 (i:=4) zl6.nd rfl (by first|exact Or.inl rfl|exact Or.inr rfl)) (za2 (psS (i:=5) zl6.nd (zbz7 (K:=K) rfl (pD zcu0 hr zb5 (za0 (za7 (K:=K) rfl (pq 0) (pq 4)) (za0 (za7 (K:=K) rfl (pq 1) (zb4 oAdd (pq 4) za3)) (za0 (pq 3) za1)))) (za0 (za7 (K:=K) rfl (za7 (K:=K) rfl (pq 1) (pq 4)) (pq 3)) za1)))
   (za2 (ze7 (zh8 (pq 2) (za0 (pq 5) za1)))
   (za5 (psAug (i:=3) zl6.nd ipSub (pq 5))))))
   (za2 (ze7 (zh8 (pq 2) (za0 (pq 3) za1)))
   (za5 (za8 (pq 2))))))),?_⟩
 refine ze6 (fun pn H1 f1 s1 h1=>?_)
 refine zb9 (v:=.ref t0) (s1 _ _ G'.out) (zc5 (j:=0) (by rw[zcy2,et0];rfl)) ?_
 refine ze8 (s1 _ _ ht0) ?_
 rw[zn0]
 walk_at "wh"
 rw[show ((h+1:Nat):Int) - 1=((h:Nat):Int) by walk_at "om"]
 refine ze8 (s1 _ _ G'.out) ?_
 rw[zcy0,tl]
 refine zg4 (by decide) (by decide) (by walk_at "om") (by walk_at "om") ?_
 rw[show ((F':Int) - 1 - 0).toNat=F' - 1 by walk_at "om"]
 refine zh7 (fun i σ I=>∃ (y5 y6:Option V),σ=[some (.ref o),some (.ref t),some (.ref pn),some (.int (((zd7 D (fun k=>tabR sd ((dsL D F').drop k)) h i).2:Nat):Int)),y5,y6]/\Same H I/\I pn=some (.lst ((zd7 D (fun k=>tabR sd ((dsL D F').drop k)) h i).1.map fun n=>V.int ((n:Nat):Int)))/\(zd7 D (fun k=>tabR sd ((dsL D F').drop k)) h i).1.length=i) ?_ ?_ ?_
 ·exact⟨_,_,rfl,s1,h1,rfl⟩
 ·rintro i σ I hi ⟨y5,y6,rfl,sI,hpn,pl⟩
  have hi:i<F' - 1:=hi
  obtain⟨oi,eoi,hoi⟩:=G.some (i:=i) (by walk_at "om")
  obtain⟨ti,eti,hti⟩:=G'.some (i:=i) (by walk_at "om")
  obtain⟨tn,etn,htn⟩:=G'.some (i:=i+1) (by walk_at "om")
  have le:=zau8 D (fun k=>tabR sd ((dsL D F').drop k)) h i
  have e1:(zd7 D (fun k=>tabR sd ((dsL D F').drop k)) h (i+1)).1=(zd7 D (fun k=>tabR sd ((dsL D F').drop k)) h i).1++[zaa8 (tabR sd ((dsL D F').drop i) (zd7 D (fun k=>tabR sd ((dsL D F').drop k)) h i).2) ((List.range ((zd7 D (fun k=>tabR sd ((dsL D F').drop k)) h i).2+1)).map fun s=>D i s+tabR sd ((dsL D F').drop (i+1)) ((zd7 D (fun k=>tabR sd ((dsL D F').drop k)) h i).2 - s))]:=rfl
  have e2:(zd7 D (fun k=>tabR sd ((dsL D F').drop k)) h (i+1)).2=(zd7 D (fun k=>tabR sd ((dsL D F').drop k)) h i).2 - zaa8 (tabR sd ((dsL D F').drop i) (zd7 D (fun k=>tabR sd ((dsL D F').drop k)) h i).2) ((List.range ((zd7 D (fun k=>tabR sd ((dsL D F').drop k)) h i).2+1)).map fun s=>D i s+tabR sd ((dsL D F').drop (i+1)) ((zd7 D (fun k=>tabR sd ((dsL D F').drop k)) h i).2 - s)):=rfl
  rw[e1,e2]
  generalize (zd7 D (fun k=>tabR sd ((dsL D F').drop k)) h i).1=pl0 at *
  generalize (zd7 D (fun k=>tabR sd ((dsL D F').drop k)) h i).2=left at *
  have mem:tabR sd ((dsL D F').drop i) left∈((List.range (left+1)).map fun s=>D i s+tabR sd ((dsL D F').drop (i+1)) (left - s)):=by
   rw[zaq0 (by walk_at "om")]
   exact zv8 sd (by simp)
  have ixl:zaa8 (tabR sd ((dsL D F').drop i) left) ((List.range (left+1)).map fun s=>D i s+tabR sd ((dsL D F').drop (i+1)) (left - s))<left+1:=by
   have:=(zcy4.mp (zah6 mem).1).1
   rwa [zcy0,zda2] at this
  rw[zdc8]
  refine zb9 (v:=.ref oi) (sI _ _ G.out) (zc5 (by rw[zcy2,eoi];rfl)) ?_
  refine zb9 (v:=.ref tn) (sI _ _ G'.out) (by rw[show (i:Int)+1=((i+1:Nat):Int) by walk_at "om"];exact zc5 (by rw[zcy2,etn];rfl)) ?_
  refine zag5 (sI _ _ hoi) (sI _ _ htn) (by walk_at "om") (by walk_at "om") (fun r2 J2 f2 s2 h2=>?_)
  have sJ:=sI.trans s2
  refine zu7 h2 ?_
  refine zb9 (v:=.ref ti) (sJ _ _ G'.out) (zc5 (by rw[zcy2,eti];rfl)) ?_
  refine zb9 (v:=.int (tabR sd ((dsL D F').drop i) left)) (sJ _ _ hti) (zc5 (zj0 (by walk_at "om"))) ?_
  refine zcn7 h2 mem ?_
  generalize zaa8 (tabR sd ((dsL D F').drop i) left) ((List.range (left+1)).map fun s=>D i s+tabR sd ((dsL D F').drop (i+1)) (left - s))=sent at *
  refine zu7 (s2 _ _ hpn) ?_
  refine zx0 (s2 _ _ hpn) (by rw[zcy0,sizeLine_eq];omega) (fun J3 c3 h3=>?_)
  walk_at "wh"
  refine⟨some (.int i),some (.int sent),?_,sJ.chg f1 c3,by rw[h3,zda3];rfl,by rw[zcz8,pl];rfl⟩
  rw[show (((left - sent:Nat):Nat):Int)=(left:Int) - (sent:Int) by walk_at "om"]
  rfl
 ·rintro σ I ⟨y5,y6,rfl,sI,hpn,pl⟩
  refine zu7 hpn ?_
  refine zx0 hpn (by rw[zcy0,sizeLine_eq];omega) (fun J3 c3 h3=>?_)
  walk_at "wh"
  exact q pn J3 f1 (sI.chg f1 c3) (by rw[h3];unfold zal8;rw[zda3];rfl)
theorem zcd6 (sd:Bool) (fs:List Fd) (xss:List (List (Int×Int×Int))):dsL (fun k=>dueS sd (fs.getD k (.more 0 0)) (xss.getD k [])) fs.length=zc1 sd fs xss:=rfl
structure zat0 (N:Hp) (t pn:Addr) (ts:List Addr) (sd:Bool) (n m:Nat) (fs:List Fd) (xss:List (List (Int×Int×Int))):Prop where
 tab:zd3 N t ts fs.length (othH sd n m+1) (fun k=>tabR sd ((zc1 sd fs xss).drop k))
 nd:ts.Nodup
 nin:t ∉ ts
 plan:N pn=some (.lst ((zal8 sd (fun k=>dueS sd (fs.getD k (.more 0 0)) (xss.getD k [])) fs.length (othH sd n m)).map fun n=>V.int ((n:Nat):Int)))
theorem zat0.same {N N':Hp}{t pn:Addr}{ts:List Addr}{sd:Bool}{n m:Nat}{fs:List Fd}{xss:List (List (Int×Int×Int))}(A:zat0 N t pn ts sd n m fs xss) (s:Same N N'):zat0 N' t pn ts sd n m fs xss:=⟨A.tab.same s,A.nd,A.nin,s _ _ A.plan⟩
abbrev StG (H:Hp) (b l st:Addr) (ps:List Addr) (n m:Nat) (sd:Bool) (fs:List Fd) (rs:List (Addr×List Addr)) (xss:List (List (Int×Int×Int))):Prop:=zl4 H b l ps n m fs/\OkB n m fs/\(∀ f∈fs,f.Bd n m)/\StW H st rs xss/\xss.length=fs.length/\(∀ xs∈xss,zac1 (ownH sd n m) xs)
@[irreducible] def zg7:Sp:=fun vs H Q _=>∃ (b l st:Addr) (ps:List Addr) (n m:Nat) (sd:Bool) (fs:List Fd) (rs:List (Addr×List Addr)) (xss:List (List (Int×Int×Int))),vs=[.ref b,.str (wd sd),.ref st]/\StG H b l st ps n m sd fs rs xss/\∀ (p t pn:Addr) (ts:List Addr) (H':Hp),Same H H'->H' p=some (.tup [.ref t,.ref pn])->zat0 (nw H H') t pn ts sd n m fs xss->Q (.ref p) H'
theorem zy6 {H:Hp}{b l st:Addr}{ps:List Addr}{n m:Nat}{sd:Bool}{fs:List Fd}{rs:List (Addr×List Addr)}{xss:List (List (Int×Int×Int))}{Q:VK}{E:XK}(S:StG H b l st ps n m sd fs rs xss) (q:∀ (p t pn:Addr) (ts:List Addr) (H':Hp),Same H H'->H' p=some (.tup [.ref t,.ref pn])->zat0 (nw H H') t pn ts sd n m fs xss->Q (.ref p) H'):zg7 [.ref b,.str (wd sd),.ref st] H Q E:=by
 unfold zg7;exact⟨b,l,st,ps,n,m,sd,fs,rs,xss,rfl,S,q⟩
theorem zba2 {f:Addr}{fd:FuncData}(F:Fun K "answer_to" "answer_to" zq1 f fd) (N:Nm mg) (zcx2:Def P w K mg base CX0 4 "dues" ["battle","side","stream"] zx8) (zcv4:Def P w K mg base CX0 2 "plan_along" ["all_dues","table"] zi9) (zct8:Def P w K mg base CX0 2 "tightest_table" ["side","all_dues"] zd6):FnOk P w K mg base CX0 5 f fd ["battle","side","stream"] zg7:=by
 refine F.ok zy3 (fun vs H Q E h=>by unfold zg7 at h;obtain⟨_,_,_,_,_,_,_,_,_,_,rfl,_⟩:=h;rfl) (fun cdv A outer s H vs Q E hr h=>?_)
 unfold zg7 at h
 obtain⟨b,l,st,ps,n,m,sd,fs,rs,xss,rfl,⟨B,O,D,S,hl,ok⟩,q⟩:=h
 have hu:=hu40 hr
 have o2:=O.2
 obtain⟨ho,hw⟩:=zad5 O sd
 refine⟨_,(za2 (psS (i:=3) zy3.nd (pD zcx2 hr zb5 (za0 (pq 0) (za0 (pq 1) (za0 (pq 2) za1)))))
   (za2 (psS (i:=4) zy3.nd (pD zct8 hr zb5 (za0 (pq 1) (za0 (pq 3) za1))))
   (za5 (za8 (zm8 (za0 (pq 4) (za0 (pD zcv4 hr zb5 (za0 (pq 3) (za0 (pq 4) za1))) za1))))))),?_⟩
 refine zbz9 B O D S hl ok (fun r gs H1 f1 s1 G1=>?_)
 refine zag0 G1 (by walk_at "om") (by walk_at "om") (fun t ts H2 s2 G2 nd nin=>?_)
 refine zaq4 (G1.same s2) (G2.same (zr4 _ _)) (by walk_at "om") (by walk_at "om") (by walk_at "om") (fun pn H3 f3 s3 h3=>?_)
 refine zc7 (fun p H4 f4 s4 h4=>?_)
 walk_at "wh"
 refine q p t pn ts H4 (((s1.trans s2).trans s3).trans s4) h4 ⟨?_,nd,nin,zp7 ((s1.trans s2).free f3) (s4 _ _ h3)⟩
 exact (G2.same (zaj8 s1)).same (zbc3 (s3.trans s4))
@[irreducible] def zc3:Sp:=fun vs H Q _=>∃ (b l st:Addr) (ps:List Addr) (n m:Nat) (sd:Bool) (fs:List Fd) (rs:List (Addr×List Addr)) (xss:List (List (Int×Int×Int))),vs=[.ref b,.str (wd sd),.ref st]/\StG H b l st ps n m sd fs rs xss/\zk1 (ownH sd n m) fs.length (stmD xss)=true/\sml (stmD xss)=true/\∀ H',Same H H'->Q .non H'
theorem zac0 {H:Hp}{b l st:Addr}{ps:List Addr}{n m:Nat}{sd:Bool}{fs:List Fd}{rs:List (Addr×List Addr)}{xss:List (List (Int×Int×Int))}{Q:VK}{E:XK}(S:StG H b l st ps n m sd fs rs xss) (hs:zk1 (ownH sd n m) fs.length (stmD xss)=true) (hm:sml (stmD xss)=true) (q:∀ H',Same H H'->Q .non H'):zc3 [.ref b,.str (wd sd),.ref st] H Q E:=by
 unfold zc3;exact⟨b,l,st,ps,n,m,sd,fs,rs,xss,rfl,S,hs,hm,q⟩
theorem zac2 {f:Addr}{fd:FuncData}(F:Fun K "look_own_stream" "look_own_stream" zf4 f fd) (N:Nm mg) (zct5:Def P w K mg base CX0 7 "is_stream" ["hosts","fields","stream"] zh9) (zcs9:Def P w K mg base CX0 6 "look_battle" ["battle"] zf3) (zct6:Def P w K mg base CX0 1 "look_side" ["side"] zi1) (zct7:Def P w K mg base CX0 1 "own_hosts" ["battle","side"] zi0):FnOk P w K mg base CX0 8 f fd ["battle","side","stream"] zc3:=by
 refine F.ok zad1 (fun vs H Q E h=>by unfold zc3 at h;obtain⟨_,_,_,_,_,_,_,_,_,_,rfl,_⟩:=h;rfl) (fun cdv A outer s H vs Q E hr h=>?_)
 unfold zc3 at h
 obtain⟨b,l,st,ps,n,m,sd,fs,rs,xss,rfl,⟨B,O,D,S,hl,ok⟩,hs,hm,q⟩:=h
 have hu:=hu40 hr
 have bl:=B.len
 refine⟨_,(za2 (ze7 (pD zcs9 hr zb5 (za0 (pq 0) za1)))
   (za2 (ze7 (pD zct6 hr zb5 (za0 (pq 1) za1)))
   (za5 (psIf (zm9 (ptV (pD zct5 hr zb5 (za0 (pD zct7 hr zb5 (za0 (pq 0) (za0 (pq 1) za1))) (za0 (pB (zp2 (K:=K) rfl) N.len_ zg0 (za0 (za7 (K:=K) rfl (pq 0) za3) za1)) (za0 (pq 2) za1)))))) (za5 zad8) zb6)))),?_⟩
 refine zaa6 B O (fun H1 s1=>?_)
 refine zag7 (fun H2 s2=>?_)
 have s02:=s1.trans s2
 refine zag6 (s02 _ _ B.out) ?_
 refine za9 (v:=.ref l) (s02 _ _ B.out) rfl ?_
 refine ze8 (s02 _ _ B.lst) ?_
 rw[zcy0,bl]
 refine zam9 (S.same s02).sh hm (fun H3 s3=>?_)
 rw[hs]
 refine zd2 (br_T ?_)
 walk_at "wh"
 exact q _ (s02.trans s3)
@[irreducible] def ze2:Sp:=fun vs H Q _=>∃ (b l st:Addr) (ps:List Addr) (n m:Nat) (sd:Bool) (fs:List Fd) (rs:List (Addr×List Addr)) (xss:List (List (Int×Int×Int))),vs=[.ref b,.str (wd sd),.ref st]/\StG H b l st ps n m sd fs rs xss/\zk1 (ownH sd n m) fs.length (stmD xss)=true/\sml (stmD xss)=true/\∀ (t pn:Addr) (ts:List Addr) (H':Hp),Same H H'->zat0 (nw H H') t pn ts sd n m fs xss->Q (.ref t) H'
theorem zu2 {H:Hp}{b l st:Addr}{ps:List Addr}{n m:Nat}{sd:Bool}{fs:List Fd}{rs:List (Addr×List Addr)}{xss:List (List (Int×Int×Int))}{Q:VK}{E:XK}(S:StG H b l st ps n m sd fs rs xss) (hs:zk1 (ownH sd n m) fs.length (stmD xss)=true) (hm:sml (stmD xss)=true) (q:∀ (t pn:Addr) (ts:List Addr) (H':Hp),Same H H'->zat0 (nw H H') t pn ts sd n m fs xss->Q (.ref t) H'):ze2 [.ref b,.str (wd sd),.ref st] H Q E:=by
 unfold ze2;exact⟨b,l,st,ps,n,m,sd,fs,rs,xss,rfl,S,hs,hm,q⟩
theorem zaj3 {f:Addr}{fd:FuncData}(F:Fun K "answer_table" "answer_table" zj9 f fd) (N:Nm mg) (zcs5:Def P w K mg base CX0 5 "answer_to" ["battle","side","stream"] zg7) (zcr8:Def P w K mg base CX0 8 "look_own_stream" ["battle","side","stream"] zc3):FnOk P w K mg base CX0 9 f fd ["battle","side","stream"] ze2:=by
 refine F.ok zaj2 (fun vs H Q E h=>by unfold ze2 at h;obtain⟨_,_,_,_,_,_,_,_,_,_,rfl,_⟩:=h;rfl) (fun cdv A outer s H vs Q E hr h=>?_)
 unfold ze2 at h
 obtain⟨b,l,st,ps,n,m,sd,fs,rs,xss,rfl,S,hs,hm,q⟩:=h
 have hu:=hu40 hr
 refine⟨_,(za2 (ze7 (pD zcr8 hr zb5 (za0 (pq 0) (za0 (pq 1) (za0 (pq 2) za1)))))
   (za5 (za8 (za7 (K:=K) rfl (pD zcs5 hr zb5 (za0 (pq 0) (za0 (pq 1) (za0 (pq 2) za1)))) za3)))),?_⟩
 refine zac0 S hs hm (fun H1 s1=>?_)
 refine zy6 ⟨S.1.same s1,S.2.1,S.2.2.1,S.2.2.2.1.same s1,S.2.2.2.2⟩ (fun p t pn ts H2 s2 h2 A2=>?_)
 refine za9 (v:=.ref t) h2 rfl ?_
 walk_at "wh"
 exact q t pn ts H2 (s1.trans s2) (A2.same (zaj8 s1))
@[irreducible] def zf0:Sp:=fun vs H Q _=>∃ (b l st:Addr) (ps:List Addr) (n m:Nat) (sd:Bool) (fs:List Fd) (rs:List (Addr×List Addr)) (xss:List (List (Int×Int×Int))),vs=[.ref b,.str (wd sd),.ref st]/\StG H b l st ps n m sd fs rs xss/\zk1 (ownH sd n m) fs.length (stmD xss)=true/\sml (stmD xss)=true/\∀ (t pn:Addr) (ts:List Addr) (H':Hp),Same H H'->zat0 (nw H H') t pn ts sd n m fs xss->Q (.ref pn) H'
theorem zv0 {H:Hp}{b l st:Addr}{ps:List Addr}{n m:Nat}{sd:Bool}{fs:List Fd}{rs:List (Addr×List Addr)}{xss:List (List (Int×Int×Int))}{Q:VK}{E:XK}(S:StG H b l st ps n m sd fs rs xss) (hs:zk1 (ownH sd n m) fs.length (stmD xss)=true) (hm:sml (stmD xss)=true) (q:∀ (t pn:Addr) (ts:List Addr) (H':Hp),Same H H'->zat0 (nw H H') t pn ts sd n m fs xss->Q (.ref pn) H'):zf0 [.ref b,.str (wd sd),.ref st] H Q E:=by
 unfold zf0;exact⟨b,l,st,ps,n,m,sd,fs,rs,xss,rfl,S,hs,hm,q⟩
theorem zam3 {f:Addr}{fd:FuncData}(F:Fun K "best_answer" "best_answer" zl8 f fd) (N:Nm mg) (zcs5:Def P w K mg base CX0 5 "answer_to" ["battle","side","stream"] zg7) (zcr8:Def P w K mg base CX0 8 "look_own_stream" ["battle","side","stream"] zc3):FnOk P w K mg base CX0 9 f fd ["battle","side","stream"] zf0:=by
 refine F.ok zam0 (fun vs H Q E h=>by unfold zf0 at h;obtain⟨_,_,_,_,_,_,_,_,_,_,rfl,_⟩:=h;rfl) (fun cdv A outer s H vs Q E hr h=>?_)
 unfold zf0 at h
 obtain⟨b,l,st,ps,n,m,sd,fs,rs,xss,rfl,S,hs,hm,q⟩:=h
 have hu:=hu40 hr
 refine⟨_,(za2 (ze7 (pD zcr8 hr zb5 (za0 (pq 0) (za0 (pq 1) (za0 (pq 2) za1)))))
   (za5 (za8 (za7 (K:=K) rfl (pD zcs5 hr zb5 (za0 (pq 0) (za0 (pq 1) (za0 (pq 2) za1)))) za3)))),?_⟩
 refine zac0 S hs hm (fun H1 s1=>?_)
 refine zy6 ⟨S.1.same s1,S.2.1,S.2.2.1,S.2.2.2.1.same s1,S.2.2.2.2⟩ (fun p t pn ts H2 s2 h2 A2=>?_)
 refine za9 (v:=.ref pn) h2 rfl ?_
 walk_at "wh"
 exact q t pn ts H2 (s1.trans s2) (A2.same (zaj8 s1))
def lg (t b:Int):Int:=if b<0 then 0 - (t.gcd b:Int) else (t.gcd b:Int)
def lowT (t b:Int):Int:=t.fdiv (lg t b)
def lowB (t b:Int):Int:=b.fdiv (lg t b)
theorem zap1 {t b:Int}(h:b≠0):0<(t.gcd b:Int):=by
 have:0<t.gcd b:=Int.gcd_pos_of_ne_zero_right _ h
 omega
theorem zci2 {t b:Int}(h:b≠0):(t.gcd b:Int)<=b.natAbs:=by
 have:=Int.gcd_le_natAbs_right t h
 omega
theorem zbi2 (t b:Int):lg t b∣t:=by
 unfold lg;split
 ·rw[Int.zero_sub];exact Int.neg_dvd.mpr (Int.gcd_dvd_left _ _)
 ·exact Int.gcd_dvd_left _ _
theorem zbk6 (t b:Int):lg t b∣b:=by
 unfold lg;split
 ·rw[Int.zero_sub];exact Int.neg_dvd.mpr (Int.gcd_dvd_right _ _)
 ·exact Int.gcd_dvd_right _ _
theorem zbq7 (t b:Int):lowT t b=t / lg t b:=Int.fdiv_eq_ediv_of_dvd (zbi2 t b)
theorem zbr3 (t b:Int):lowB t b=b / lg t b:=Int.fdiv_eq_ediv_of_dvd (zbk6 t b)
theorem zbc8 (t b:Int):(lowT t b).natAbs<=t.natAbs:=by rw[zbq7];exact Int.natAbs_ediv_le_natAbs _ _
theorem zbd4 (t b:Int):(lowB t b).natAbs<=b.natAbs:=by rw[zbr3];exact Int.natAbs_ediv_le_natAbs _ _
theorem zat1 (t b:Int):b=lg t b*lowB t b:=by rw[zbr3];exact (Int.mul_ediv_cancel' (zbk6 t b)).symm
theorem zbk1 (t b:Int):t=lg t b*lowT t b:=by rw[zbq7];exact (Int.mul_ediv_cancel' (zbi2 t b)).symm
theorem zbk9 {t b:Int}(h:b≠0):0<lowB t b:=by
 have e:=zat1 t b
 have g:=zap1 (t:=t) h
 by_cases hb:b<0
 ·have hl:lg t b<0:=by unfold lg;rw[if_pos hb];omega
  by_cases hk:0<lowB t b
  ·exact hk
  ·have:=Int.mul_nonneg_of_nonpos_of_nonpos (Int.le_of_lt hl) (show lowB t b<=0 by walk_at "om")
   omega
 ·have hl:0<lg t b:=by unfold lg;rw[if_neg hb];omega
  by_cases hk:0<lowB t b
  ·exact hk
  ·have:=Int.mul_nonpos_of_nonneg_of_nonpos (Int.le_of_lt hl) (show lowB t b<=0 by walk_at "om")
   omega
theorem zbk0 {x y:Int}(hx:0<=x) (hy:0<y):y.gcd (x % y)=x.gcd y:=by
 rw[zdc9,zdc9,Int.natAbs_emod_of_nonneg hx]
 exact (Nat.gcd_comm _ _).trans ((Nat.gcd_rec _ _).symm.trans (Nat.gcd_comm _ _))
theorem zcl2 (t b:Int):Int.gcd (t.natAbs:Int) (b.natAbs:Int)=t.gcd b:=by
 rw[zdc9,zdc9];simp
theorem zby5 {x y:Int}(hx:0<=x) (hy:y=0):((x.gcd y:Nat):Int)=x:=by
 subst hy;rw[Int.gcd_zero_right];omega
@[irreducible] def zd4:Sp:=fun vs H Q _=>∃ x y:Int,vs=[.int x,.int y]/\0<=x/\0<=y/\Q (.int (x.gcd y:Int)) H
theorem zag2 {H:Hp}{x y:Int}{Q:VK}{E:XK}(hx:0<=x) (hy:0<=y) (q:Q (.int (x.gcd y:Int)) H):zd4 [.int x,.int y] H Q E:=by
 unfold zd4;exact⟨x,y,rfl,hx,hy,q⟩
theorem zaf0 {f:Addr}{fd:FuncData}(F:Fun K "common_divisor" "common_divisor" zg2 f fd) (N:Nm mg):FnOk P w K mg base CX0 1 f fd ["one","other"] zd4:=by
 refine F.ok zm3 (fun vs H Q E h=>by unfold zd4 at h;obtain⟨n,k,rfl,_⟩:=h;rfl) (fun cdv A outer s H vs Q E hr h=>?_)
 unfold zd4 at h
 obtain⟨t,b,rfl,ht,hb,q⟩:=h
 have hu:=hu40 hr
 refine⟨_,(za2 (zbw8 PassesOwn.never (ptC (oNeK (K:=K) rfl (by exact hu)) (pq 1) za3) (za2 (psS (i:=2) zm3.nd (zb4 oMod (pq 0) (pq 1)))
   (za2 (psS (i:=0) zm3.nd (pq 1))
   (za5 (psS (i:=1) zm3.nd (pq 2))))))
   (za5 (za8 (pq 0)))),?_⟩
 refine zbg5 (fun σ H2=>∃ (x y:Int) (r:Option V),σ=[some (.int x),some (.int y),r]/\H=H2/\0<=x/\0<=y/\x.gcd y=t.gcd b) (fun σ _=>match σ with | [_,some (.int y),_]=>y.toNat|_=>0) ?_ ?_
 ·exact⟨_,_,_,rfl,rfl,ht,hb,rfl⟩
 ·rintro σ H2 ⟨x,y,r,rfl,rfl,hx,hy,hg⟩
  walk_at "wh"
  refine zcb5 (fun h=>?_) (fun h=>?_)
  ·have h:0<y:=by walk_at "om"
   refine zaa5 (by walk_at "om") ?_
   walk_at "wh"
   have h1:=zdg0 x (show y≠0 by walk_at "om")
   have h2:=zde3 x h
   refine⟨⟨_,_,_,rfl,rfl,hy,h1,?_⟩,?_⟩
   ·rw[zbk0 hx h];exact hg
   ·show (x % y).toNat<y.toNat
    omega
  ·walk_at "wh"
   have e:x=(t.gcd b:Int):=by rw[← hg];exact (zby5 hx h).symm
   rw[e];exact q
@[irreducible] def zw1:Sp:=fun vs H Q _=>∃ t b:Int,vs=[.int t,.int b]/\b≠0/\-(10 ^ 200)<b/\b<10 ^ 200/\∀ p H',H p=none->Same H H'->H' p=some (.tup [.int (lowT t b),.int (lowB t b)])->Q (.ref p) H'
theorem zch2 {H:Hp}{t b:Int}{Q:VK}{E:XK}(h0:b≠0) (h1:-(10 ^ 200)<b) (h2:b<10 ^ 200) (q:∀ p H',H p=none->Same H H'->H' p=some (.tup [.int (lowT t b),.int (lowB t b)])->Q (.ref p) H'):zw1 [.int t,.int b] H Q E:=by
 unfold zw1;exact⟨t,b,rfl,h0,h1,h2,q⟩
theorem zci1 {f:Addr}{fd:FuncData}(F:Fun K "ratio" "ratio" zaf2 f fd) (N:Nm mg) (zct9:Def P w K mg base CX0 1 "common_divisor" ["one","other"] zd4):FnOk P w K mg base CX0 2 f fd ["top","bottom"] zw1:=by
 refine F.ok zar7 (fun vs H Q E h=>by unfold zw1 at h;obtain⟨n,k,rfl,_⟩:=h;rfl) (fun cdv A outer s H vs Q E hr h=>?_)
 unfold zw1 at h
 obtain⟨t,b,rfl,hb,hb1,hb2,q⟩:=h
 have hu:=hu40 hr
 refine⟨_,(za2 (psIf (ptC (oEqK (K:=K) rfl (by exact hu)) (pq 1) za3) (za5 zad8) zb6)
   (za2 (psS (i:=2) zar7.nd (pD zct9 hr zb5 (za0 (pB cAbs N.abs_ zcb1 (za0 (pq 0) za1)) (za0 (pB cAbs N.abs_ zcb1 (za0 (pq 1) za1)) za1))))
   (za2 (zad6 (psIf (ptC oLt (pq 1) za3) (za5 (psS (i:=2) zar7.nd (zbe0 uNeg (pq 2)))) zb6))
   (za5 (za8 (zm8 (za0 (zb4 oDiv (pq 0) (pq 2)) (za0 (zb4 oDiv (pq 1) (pq 2)) za1)))))))),?_⟩
 walk_at "st"
 refine zag2 (by walk_at "om") (by walk_at "om") ?_
 rw[zcl2]
 have g1:=zap1 (t:=t) hb
 have g2:=zci2 (t:=t) hb
 walk_at "wh"
 refine zag9 ?_
 refine zp5 (fun h=>?_) (fun h=>?_)
 ·have el:-((t.gcd b:Nat):Int)=lg t b:=by unfold lg;rw[if_pos h];omega
  refine zaf1 (by walk_at "om") (by walk_at "om") (by walk_at "om") ?_
  refine zaf1 (by walk_at "om") (by walk_at "om") (by walk_at "om") ?_
  refine zc7 (fun p H' hf hs ha=>?_)
  rw[el] at ha
  exact q _ _ hf hs ha
 ·have el:((t.gcd b:Nat):Int)=lg t b:=by unfold lg;rw[if_neg h]
  refine zaf1 (by walk_at "om") (by walk_at "om") (by walk_at "om") ?_
  refine zaf1 (by walk_at "om") (by walk_at "om") (by walk_at "om") ?_
  refine zc7 (fun p H' hf hs ha=>?_)
  rw[el] at ha
  exact q _ _ hf hs ha
@[irreducible] def zn3:Sp:=fun vs H Q _=>∃ (t st:Addr) (ts:List Addr) (F h:Nat) (T:Nat->Nat->Int) (rs:List (Addr×List Addr)) (xss:List (List (Int×Int×Int))),vs=[.ref t,.ref st]/\zd3 H t ts F (h+1) T/\1<=F/\StW H st rs xss/\1<=xss.length/\(xss.getD 0 []).length<=1000/\(0<((xss.getD 0 []).map fun z=>z.2.2).sum/\((xss.getD 0 []).map fun z=>z.2.2).sum<10 ^ 100)/\∀ p H',H p=none->Same H H'->H' p=some (.tup [.int (lowT (T 0 h) ((xss.getD 0 []).map fun z=>z.2.2).sum),.int (lowB (T 0 h) ((xss.getD 0 []).map fun z=>z.2.2).sum)])->Q (.ref p) H'
theorem zbc4 {H:Hp}{t st:Addr}{ts:List Addr}{F h:Nat}{T:Nat->Nat->Int}{rs:List (Addr×List Addr)}{xss:List (List (Int×Int×Int))}{Q:VK}{E:XK}(G:zd3 H t ts F (h+1) T) (h1:1<=F) (S:StW H st rs xss) (h2:1<=xss.length) (h3:(xss.getD 0 []).length<=1000) (h4:0<((xss.getD 0 []).map fun z=>z.2.2).sum/\((xss.getD 0 []).map fun z=>z.2.2).sum<10 ^ 100) (q:∀ p H',H p=none->Same H H'->H' p=some (.tup [.int (lowT (T 0 h) ((xss.getD 0 []).map fun z=>z.2.2).sum),.int (lowB (T 0 h) ((xss.getD 0 []).map fun z=>z.2.2).sum)])->Q (.ref p) H'):zn3 [.ref t,.ref st] H Q E:=by
 unfold zn3;exact⟨t,st,ts,F,h,T,rs,xss,rfl,G,h1,S,h2,h3,h4,q⟩
theorem zbf0 {f:Addr}{fd:FuncData}(F:Fun K "shown_by" "shown_by" zs6 f fd) (N:Nm mg) (zcx7:Def P w K mg base CX0 2 "ratio" ["top","bottom"] zw1) (zcu3:Def P w K mg base CX0 1 "whole_in" ["stream"] zl2):FnOk P w K mg base CX0 3 f fd ["table","stream"] zn3:=by
 refine F.ok zbd0 (fun vs H Q E h=>by unfold zn3 at h;obtain⟨_,_,_,_,_,_,_,_,rfl,_⟩:=h;rfl) (fun cdv A outer s H vs Q E hr h=>?_)
 unfold zn3 at h
 obtain⟨t,st,ts,F',h,T,rs,xss,rfl,G,h1,S,h2,h3,h4,q⟩:=h
 have hu:=hu40 hr
 obtain⟨t0,et0,ht0⟩:=G.some (i:=0) (by walk_at "om")
 refine⟨_,(za5 (za8 (pD zcx7 hr zb5 (za0 (za7 (K:=K) rfl (za7 (K:=K) rfl (pq 0) za3) (zbe0 uNeg za3)) (za0 (pD zcu3 hr zb5 (za0 (pq 1) za1)) za1))))),?_⟩
 refine zb9 (v:=.ref t0) G.out (zc5 (j:=0) (by rw[zcy2,et0];rfl)) ?_
 refine zb9 (v:=.int (T 0 h)) ht0 (zca5 (n:=h) (zn0 _ _) (zj0 (by walk_at "om"))) ?_
 refine zah9 S h2 h3 (fun H1 s1=>?_)
 have p:(10:Int) ^ 100<10 ^ 200:=by decide
 refine zch2 (by walk_at "om") (by generalize (10:Int) ^ 200=N at p ⊢;omega) (by generalize (10:Int) ^ 200=N at p ⊢;omega) (fun p2 H2 f2 s2 h2'=>?_)
 walk_at "wh"
 exact q p2 H2 (s1.free f2) (s1.trans s2) h2'
@[irreducible] def zv9:Sp:=fun vs H Q _=>∃ (b l st:Addr) (ps:List Addr) (n m:Nat) (sd:Bool) (fs:List Fd) (rs:List (Addr×List Addr)) (xss:List (List (Int×Int×Int))),vs=[.ref b,.str (wd sd),.ref st]/\StG H b l st ps n m sd fs rs xss/\zk1 (ownH sd n m) fs.length (stmD xss)=true/\sml (stmD xss)=true/\(0<((xss.getD 0 []).map fun z=>z.2.2).sum/\((xss.getD 0 []).map fun z=>z.2.2).sum<10 ^ 100)/\∀ p H',H p=none->Same H H'->H' p=some (.tup [.int (lowT (tabR sd (zc1 sd fs xss) (othH sd n m)) ((xss.getD 0 []).map fun z=>z.2.2).sum),.int (lowB (tabR sd (zc1 sd fs xss) (othH sd n m)) ((xss.getD 0 []).map fun z=>z.2.2).sum)])->Q (.ref p) H'
theorem zce2 {H:Hp}{b l st:Addr}{ps:List Addr}{n m:Nat}{sd:Bool}{fs:List Fd}{rs:List (Addr×List Addr)}{xss:List (List (Int×Int×Int))}{Q:VK}{E:XK}(S:StG H b l st ps n m sd fs rs xss) (hs:zk1 (ownH sd n m) fs.length (stmD xss)=true) (hm:sml (stmD xss)=true) (h4:0<((xss.getD 0 []).map fun z=>z.2.2).sum/\((xss.getD 0 []).map fun z=>z.2.2).sum<10 ^ 100) (q:∀ p H',H p=none->Same H H'->H' p=some (.tup [.int (lowT (tabR sd (zc1 sd fs xss) (othH sd n m)) ((xss.getD 0 []).map fun z=>z.2.2).sum),.int (lowB (tabR sd (zc1 sd fs xss) (othH sd n m)) ((xss.getD 0 []).map fun z=>z.2.2).sum)])->Q (.ref p) H'):zv9 [.ref b,.str (wd sd),.ref st] H Q E:=by
 unfold zv9;exact⟨b,l,st,ps,n,m,sd,fs,rs,xss,rfl,S,hs,hm,h4,q⟩
theorem zcf2 {f:Addr}{fd:FuncData}(F:Fun K "shown" "shown" zaf5 f fd) (N:Nm mg) (zcs5:Def P w K mg base CX0 5 "answer_to" ["battle","side","stream"] zg7) (zcr8:Def P w K mg base CX0 8 "look_own_stream" ["battle","side","stream"] zc3) (zcw6:Def P w K mg base CX0 3 "shown_by" ["table","stream"] zn3):FnOk P w K mg base CX0 9 f fd ["battle","side","stream"] zv9:=by
 refine F.ok zcd1 (fun vs H Q E h=>by unfold zv9 at h;obtain⟨_,_,_,_,_,_,_,_,_,_,rfl,_⟩:=h;rfl) (fun cdv A outer s H vs Q E hr h=>?_)
 unfold zv9 at h
 obtain⟨b,l,st,ps,n,m,sd,fs,rs,xss,rfl,S,hs,hm,h4,q⟩:=h
 have hu:=hu40 hr
 have o2:=S.2.1.2
 have xl:=S.2.2.2.2.1
 refine⟨_,(za2 (ze7 (pD zcr8 hr zb5 (za0 (pq 0) (za0 (pq 1) (za0 (pq 2) za1)))))
   (za5 (za8 (pD zcw6 hr zb5 (za0 (za7 (K:=K) rfl (pD zcs5 hr zb5 (za0 (pq 0) (za0 (pq 1) (za0 (pq 2) za1)))) za3) (za0 (pq 2) za1)))))),?_⟩
 refine zac0 S hs hm (fun H1 s1=>?_)
 refine zy6 ⟨S.1.same s1,S.2.1,S.2.2.1,S.2.2.2.1.same s1,S.2.2.2.2⟩ (fun p t pn ts H2 s2 h2 A2=>?_)
 have s12:=s1.trans s2
 refine za9 (v:=.ref t) h2 rfl ?_
 refine zbc4 (A2.tab.same (zr4 _ _)) (by walk_at "om") (S.2.2.2.1.same s12) (by walk_at "om") (by
  obtain⟨x0,ex0⟩:∃ x,xss[0]?=some x:=⟨_,zcx9 (by walk_at "om")⟩
  rw[show xss.getD 0 []=x0 by rw[zcy3,ex0];rfl]
  exact (S.2.2.2.2.2 x0 (zcy7 ex0)).1) h4 (fun p3 H3 f3 s3 h3=>?_)
 walk_at "wh"
 exact q p3 H3 (s12.free f3) (s12.trans s3) h3
abbrev Drw (ns:List Int):Prop:=ns.length=40/\∀ x∈ns,0<=x/\x<2147483629
@[irreducible] def zi7 (K:zcy1):Sp:=fun vs H Q _=>∃ (a:Addr) (ns:List Int),vs=[.ref a,.int 40]/\SqL K H a (ns.map V.int)/\ns.length<=63/\∀ r ds H',H r=none->Same H H'->H' r=some (.lst (ds.map V.int))->Drw ds->Q (.ref r) H'
theorem zcb4 {K:zcy1}{H:Hp}{a:Addr}{ns:List Int}{Q:VK}{E:XK}(h:SqL K H a (ns.map V.int)) (hl:ns.length<=63) (q:∀ r ds H',H r=none->Same H H'->H' r=some (.lst (ds.map V.int))->Drw ds->Q (.ref r) H'):zi7 K [.ref a,.int 40] H Q E:=by unfold zi7;exact⟨a,ns,rfl,h,hl,q⟩
theorem zas5 {P:Int->Prop}{ds:List Int}{d:Int}(h:∀ x∈ds,P x) (hd:P d):∀ x∈ds++[d],P x:=fun x hx=>by
 rcases zdd1.mp hx with hx|hx
 ·exact h x hx
 ·rw[zdb2.mp hx];exact hd
set_option maxHeartbeats 0 in
theorem zau0 {f:Addr}{fd:FuncData}(F:Fun K "_law_draws" "_law_draws" zo5 f fd) (N:Nm mg):FnOk P w K mg base CX0 1 f fd ["_law_script","_law_many"] (zi7 K):=by
 refine F.ok zd9 (fun vs H Q E h=>by unfold zi7 at h;obtain⟨_,_,rfl,_⟩:=h;rfl) (fun cdv A outer s H vs Q E hr h=>?_)
 unfold zi7 at h
 obtain⟨a,ns,rfl,hS,hlen,q⟩:=h
 have hu:=hu40 hr
 refine⟨_,(za2 (psS (i:=2) zd9.nd (zr9 za1))
   (za2 (zu5 PassesOwn.never rfl (zr0 N.range_ (za0 (pq 1) za1)) (za6 (i:=3) zd9.nd rfl (by first|exact Or.inl rfl|exact Or.inr rfl)) (za2 (psS (i:=4) zd9.nd za3)
   (za2 (zad6 (psIf (ptC oGt (pB (zp2 (K:=K) rfl) N.len_ zg0 (za0 (pq 0) za1)) za3) (za5 (psS (i:=4) zd9.nd (za7 (K:=K) rfl (pq 0) (zb4 oMod (zb4 oDiv (pq 3) za3) (pB (cMinK (K:=K) rfl rfl) N.min_ zbg8 (za0 za3 (za0 (pB (zp2 (K:=K) rfl) N.len_ zg0 (za0 (pq 0) za1)) za1))))))) zb6))
   (za5 (psIf (ptC oGe (pq 4) (zb4 oPow za3 za3)) (za2 (psS (i:=4) zd9.nd (zb4 oDiv (pq 4) (zb4 oPow za3 za3)))
   (za2 (zu5 PassesOwn.never rfl (zr0 N.range_ (za0 (zb4 oMod (pq 3) za3) za1)) (za6 (i:=5) zd9.nd rfl (by first|exact Or.inl rfl|exact Or.inr rfl)) (za5 (psS (i:=4) zd9.nd (zb4 oDiv (pq 4) za3))))
   (za5 (ze7 (zh8 (pq 2) (za0 (zb4 oMod (pq 4) za3) za1)))))) (za2 (psS (i:=6) zd9.nd (zb4 oMod (zb4 oAdd (pq 4) (zb4 oMul za3 (zb4 oAdd (pq 3) za3))) za3))
   (za2 (psS (i:=6) zd9.nd (zb4 oMod (zb4 oAdd (zb4 oMul (pq 6) (pq 6)) (pq 3)) za3))
   (za5 (ze7 (zh8 (pq 2) (za0 (zb4 oMod (zb4 oMul (pq 6) (pq 6)) za3) za1)))))))))))
   (za5 (za8 (pq 2))))),?_⟩
 refine ze6 (fun fo H1 f1 s1 h1=>?_)
 refine zg4 (by decide) (by decide) (by decide) (by decide) ?_
 refine zh7 (n:=40) (fun i σ I=>∃ (y4 y5 y6 y7:Option V) (ds:List Int),σ=[some (.ref a),some (.int 40),some (.ref fo),y4,y5,y6,y7]/\Same H I/\I fo=some (.lst (ds.map V.int))/\ds.length=i/\∀ x∈ds,0<=x/\x<2147483629) ?_ ?_ ?_
 ·exact⟨_,_,_,_,[],rfl,s1,h1,rfl,fun x hx=>by cases hx⟩
 ·rintro i σ I hi ⟨y4,y5,y6,y7,ds,rfl,sI,hfo,dl,db⟩
  have hi:i<40:=hi
  rw[zdc8]
  refine zan1 (fun σ J=>∃ c:Int,σ=[some (.ref a),some (.int 40),some (.ref fo),some (.int i),some (.int c),y6,y7]/\J=I) ?_ ?_
  ·walk_at "wh"
   refine zbj4 (sI.seq hS) ?_
   rw[zcy0]
   refine zp5 (fun e=>?_) (fun e=>?_)
   ·walk_at "wh"
    refine zx7 (by decide) (by decide) ?_
    refine zbj4 (sI.seq hS) ?_
    rw[zcy0]
    obtain⟨mn,emn,mn1,mn2⟩:∃ mn:Int,(if (ns.length:Int)<63 then (ns.length:Int) else 63)=mn/\0<mn/\mn<=ns.length:=⟨_,rfl,by split<;>omega,by split<;>omega⟩
    walk_at "wh"
    rw[emn]
    refine zaa5 mn1 ?_
    have z0:=zdg0 ((i:Int) / 20) (show mn≠0 by walk_at "om")
    have z1:=zde3 ((i:Int) / 20) mn1
    obtain⟨zn,ez⟩:∃ zn:Nat,((i:Int) / 20) % mn=zn:=⟨_,(Int.toNat_of_nonneg z0).symm⟩
    rw[ez]
    obtain⟨c,ec⟩:∃ c,ns[zn]?=some c:=⟨_,zcx9 (by walk_at "om")⟩
    refine zcm3 (v:=.int c) (sI.seq hS) (zc5 (by rw[zcy2,ec];rfl)) ?_
    walk_at "wh"
    exact⟨c,rfl,rfl⟩
   ·walk_at "wh"
    exact⟨0,rfl,rfl⟩
  rintro σ J ⟨c,rfl,rfl⟩
  walk_at "st"
  refine zp5 (fun e=>?_) (fun e=>?_)
  ·walk_at "st"
   refine zx7 (by walk_at "om") (by walk_at "om") ?_
   refine zaa5 (by decide) ?_
   have z0:=zdg0 (i:Int) (show (20:Int)≠0 by decide)
   have z1:=zde3 (i:Int) (show (0:Int)<20 by decide)
   refine zg4 (by decide) (by decide) (by walk_at "om") (by walk_at "om") ?_
   refine zh7 (fun j σ K1=>∃ (c:Int) (y6:Option V),σ=[some (.ref a),some (.int 40),some (.ref fo),some (.int i),some (.int c),y6,y7]/\K1=J) ?_ ?_ ?_
   ·exact⟨_,_,rfl,rfl⟩
   ·rintro j σ K1 hj ⟨c',y6',rfl,rfl⟩
    refine zx7 (by decide) (by decide) ?_
    walk_at "wh"
    exact⟨_,_,rfl,rfl⟩
   ·rintro σ K1 ⟨c',y6',rfl,rfl⟩
    refine zu7 hfo ?_
    refine zaa5 (by decide) ?_
    have w0:=zdg0 c' (show (5040:Int)≠0 by decide)
    have w1:=zde3 c' (show (0:Int)<5040 by decide)
    refine zx0 hfo (by rw[zcy0,sizeLine_eq];omega) (fun J3 c3 h3=>?_)
    walk_at "wh"
    exact⟨_,_,_,_,ds++[c' % 5040],rfl,sI.chg f1 c3,by rw[h3,zda3];rfl,by rw[zcz8,dl];rfl,zas5 db ⟨w0,by walk_at "om"⟩⟩
  ·walk_at "wh"
   refine zh6 (by decide) (by decide) ?_
   refine zh0 (by decide) (fun d1 d10 d11=>?_)
   refine zh6 (by walk_at "om") (by walk_at "om") ?_
   refine zh0 (by decide) (fun d2 d20 d21=>?_)
   refine zu7 hfo ?_
   refine zh6 (by walk_at "om") (by walk_at "om") ?_
   refine zh0 (by decide) (fun d3 d30 d31=>?_)
   refine zx0 hfo (by rw[zcy0,sizeLine_eq];omega) (fun J3 c3 h3=>?_)
   walk_at "wh"
   exact⟨_,_,_,_,ds++[d3],rfl,sI.chg f1 c3,by rw[h3,zda3];rfl,by rw[zcz8,dl];rfl,zas5 db ⟨d30,by walk_at "om"⟩⟩
 ·rintro σ I ⟨y4,y5,y6,y7,ds,rfl,sI,hfo,dl,db⟩
  walk_at "wh"
  exact q fo ds I f1 sI hfo ⟨dl,db⟩
def zsG (zs:List (List Int)):Nat->Nat->Int:=fun k c=>(zs.getD k []).getD c 0
@[irreducible] def zi5:Sp:=fun vs H Q _=>∃ (a:Addr) (ds:List Int) (n m k:Nat),vs=[.ref a,.int n,.int m,.int k]/\H a=some (.lst (ds.map V.int))/\Drw ds/\n<=10/\m<=10/\k<=10/\∀ p g H',Same H H'->FdAt (nw H H') p n m (.tab g)->(∀ x y,x<=n->y<=m->-9<=g x y/\g x y<=9)->Q (.ref p) H'
theorem zbx4 {H:Hp}{a:Addr}{ds:List Int}{n m k:Nat}{Q:VK}{E:XK}(h:H a=some (.lst (ds.map V.int))) (hd:Drw ds) (hn:n<=10) (hm:m<=10) (hk:k<=10) (q:∀ p g H',Same H H'->FdAt (nw H H') p n m (.tab g)->(∀ x y,x<=n->y<=m->-9<=g x y/\g x y<=9)->Q (.ref p) H'):zi5 [.ref a,.int n,.int m,.int k] H Q E:=by unfold zi5;exact⟨a,ds,n,m,k,rfl,h,hd,hn,hm,hk,q⟩
theorem zx3 {ds:List Int}(hd:Drw ds) {z:Int}(h0:0<=z) (h1:z<40):∃ x,atI (ds.map V.int) z=some (.int x)/\0<=x/\x<2147483629:=by
 obtain⟨zn,rfl⟩:∃ zn:Nat,z=zn:=⟨z.toNat,by walk_at "om"⟩
 have dl:=hd.1
 obtain⟨x,ex⟩:∃ x,ds[zn]?=some x:=⟨_,zcx9 (by walk_at "om")⟩
 exact⟨x,zc5 (by rw[zcy2,ex];rfl),hd.2 x (zcy7 ex)⟩
set_option maxHeartbeats 0 in
theorem zap5 {f:Addr}{fd:FuncData}(F:Fun K "_law_table" "_law_table" zo0 f fd) (N:Nm mg):FnOk P w K mg base CX0 1 f fd ["_law_draws_here","_law_first","_law_second","_law_k"] zi5:=by
 refine F.ok zm0 (fun vs H Q E h=>by unfold zi5 at h;obtain⟨_,_,_,_,_,rfl,_⟩:=h;rfl) (fun cdv A outer s H vs Q E hr h=>?_)
 unfold zi5 at h
 obtain⟨a,ds,n,m,k,rfl,ha,hd,hn,hm,hk,q⟩:=h
 have hu:=hu40 hr
 refine⟨_,(za2 (psS (i:=4) zm0.nd (zr9 za1))
   (za2 (zu5 PassesOwn.never rfl (zr0 N.range_ (za0 (zb4 oAdd (pq 1) za3) za1)) (za6 (i:=5) zm0.nd rfl (by first|exact Or.inl rfl|exact Or.inr rfl)) (za2 (psS (i:=6) zm0.nd (zr9 za1))
   (za2 (zu5 PassesOwn.never rfl (zr0 N.range_ (za0 (zb4 oAdd (pq 2) za3) za1)) (za6 (i:=7) zm0.nd rfl (by first|exact Or.inl rfl|exact Or.inr rfl)) (za2 (psS (i:=8) zm0.nd (zb4 oAdd (za7 (K:=K) rfl (pq 0) (zb4 oAdd za3 (zb4 oMod (zb4 oAdd (zb4 oAdd (zb4 oMul za3 (pq 5)) (zb4 oMul za3 (pq 7))) (pq 3)) za3))) (zb4 oMul za3 (za7 (K:=K) rfl (pq 0) (zb4 oAdd za3 (zb4 oMod (zb4 oAdd (zb4 oAdd (pq 5) (zb4 oMul za3 (pq 7))) (zb4 oMul za3 (pq 3))) za3))))))
   (za5 (ze7 (zh8 (pq 6) (za0 (zb4 oSub (zb4 oMod (zb4 oDiv (pq 8) (zb4 oAdd za3 (zb4 oMod (zb4 oAdd (zb4 oAdd (zb4 oMul za3 (pq 5)) (zb4 oMul za3 (pq 7))) (pq 3)) za3))) za3) za3) za1))))))
   (za5 (ze7 (zh8 (pq 4) (za0 (pq 6) za1)))))))
   (za5 (za8 (zm8 (za0 zf2 (za0 (pq 4) za1))))))),?_⟩
 refine ze6 (fun fo H1 f1 s1 h1=>?_)
 refine zg4 (by decide) (by decide) (by walk_at "om") (by walk_at "om") ?_
 rw[show ((n:Int)+1 - 0).toNat=n+1 by walk_at "om"]
 refine zh7 (fun i σ I=>∃ (y6 y7 y8 y9:Option V) (rs:List Addr) (zs:List (List Int)),σ=[some (.ref a),some (.int n),some (.int m),some (.int k),some (.ref fo),y6,y7,y8,y9]/\Same H I/\I fo=some (.lst (rs.map V.ref))/\rs.length=i/\zs.length=i/\∀ (j:Nat) p z,rs[j]?=some p->zs[j]?=some z->H p=none/\p≠fo/\I p=some (.lst (z.map V.int))/\z.length=m+1/\∀ y∈z,-9<=y/\y<=9) ?_ ?_ ?_
 ·exact⟨_,_,_,_,[],[],rfl,s1,h1,rfl,rfl,fun j p z e=>by simp at e⟩
 ·rintro i σ I hi ⟨y6,y7,y8,y9,rs,zs,rfl,sI,hfo,rl,zl,pr⟩
  have hi:i<n+1:=hi
  rw[zdc8]
  refine ze6 (fun ro I2 f2 s2 h2=>?_)
  have nro:ro≠fo:=Ne.symm (zb2 hfo f2)
  have fro:H ro=none:=sI.free f2
  refine zg4 (by decide) (by decide) (by walk_at "om") (by walk_at "om") ?_
  rw[show ((m:Int)+1 - 0).toNat=m+1 by walk_at "om"]
  refine zh7 (fun j σ J=>∃ (y8 y9:Option V) (z:List Int),σ=[some (.ref a),some (.int n),some (.int m),some (.int k),some (.ref fo),some (.int i),some (.ref ro),y8,y9]/\Same I J/\J ro=some (.lst (z.map V.int))/\z.length=j/\∀ y∈z,-9<=y/\y<=9) ?_ ?_ ?_
  ·exact⟨_,_,[],rfl,s2,h2,rfl,fun y hy=>by cases hy⟩
  ·rintro j σ J hj ⟨y8',y9',z,rfl,sJ,hro,zl',zb⟩
   have hj:j<m+1:=hj
   have haJ:=(sI.trans sJ) _ _ ha
   rw[zdc8]
   refine zh6 (by decide) (by decide) ?_
   refine zh6 (by decide) (by decide) ?_
   refine zh0 (by decide) (fun d1 d10 d11=>?_)
   obtain⟨x1,e1,x10,x11⟩:=zx3 hd (z:=8+d1) (by walk_at "om") (by walk_at "om")
   refine zb9 (v:=.int x1) haJ e1 ?_
   refine zh6 (by decide) (by decide) ?_
   refine zh6 (by decide) (by decide) ?_
   refine zh0 (by decide) (fun d2 d20 d21=>?_)
   obtain⟨x2,e2,x20,x21⟩:=zx3 hd (z:=8+d2) (by walk_at "om") (by walk_at "om")
   refine zb9 (v:=.int x2) haJ e2 ?_
   refine zh6 (by decide) (by decide) ?_
   refine zu7 hro ?_
   refine zh6 (by decide) (by decide) ?_
   refine zh6 (by decide) (by decide) ?_
   refine zh0 (by decide) (fun d3 d30 d31=>?_)
   refine zx7 (by walk_at "om") (by walk_at "om") ?_
   refine zh0 (by decide) (fun d4 d40 d41=>?_)
   refine zx0 hro (by rw[zcy0,sizeLine_eq];omega) (fun J3 c3 h3=>?_)
   walk_at "wh"
   exact⟨_,_,z++[d4 - 9],rfl,sJ.chg f2 c3,by rw[h3,zda3];rfl,by rw[zcz8,zl'];rfl,zas5 zb ⟨by walk_at "om",by walk_at "om"⟩⟩
  ·rintro σ J ⟨y8',y9',z,rfl,sJ,hro,zl',zb⟩
   have hfoJ:=sJ _ _ hfo
   refine zu7 hfoJ ?_
   refine zx0 hfoJ (by rw[zcy0,sizeLine_eq];omega) (fun J3 c3 h3=>?_)
   walk_at "wh"
   refine⟨_,_,_,_,rs++[ro],zs++[z],rfl,(sI.trans sJ).chg f1 c3,by rw[h3,zda3];rfl,by rw[zcz8,rl];rfl,by rw[zcz8,zl];rfl,fun j p z' g1 g2=>?_⟩
   rcases zc2 g1 with ⟨a1,a2⟩|⟨a1,a2⟩
   ·rcases zc2 g2 with ⟨b1,b2⟩|⟨b1,b2⟩
    ·obtain⟨w1,w2,w3,w4⟩:=pr j p z' a2 b2
     exact⟨w1,w2,c3 _ _ w2 (sJ _ _ w3),w4⟩
    ·omega
   ·rcases zc2 g2 with ⟨b1,b2⟩|⟨b1,b2⟩
    ·omega
    ·rw[a2,b2]
     exact⟨fro,nro,c3 _ _ nro hro,zl',zb⟩
 ·rintro σ I ⟨y6,y7,y8,y9,rs,zs,rfl,sI,hfo,rl,zl,pr⟩
  refine zc7 (fun p J f2 s2 h2=>?_)
  walk_at "wh"
  refine q p (zsG zs) J (sI.trans s2) ⟨fo,rs,zp7 (sI.free f2) h2,⟨zp7 f1 (s2 _ _ hfo),rl,fun i p' e=>?_⟩⟩ (fun x y hx hy=>?_)
  ·obtain⟨z,ez⟩:∃ z,zs[i]?=some z:=⟨_,zcx9 (by have:=(zcy4.mp e).1;omega)⟩
   obtain⟨w1,w2,w3,w4,_⟩:=pr i p' z e ez
   rw[zp7 w1 (s2 _ _ w3),zac4]
   congr 3
   unfold zsG
   rw[show zs.getD i []=z by rw[zcy3,ez];rfl]
   apply zdd0
   intro c
   rw[zcy2]
   by_cases hc:c<m+1
   ·rw[zdb0 hc,zcx9 (by walk_at "om")]
    show _=some (z.getD c 0)
    rw[zcy3,zcx9 (by walk_at "om")];rfl
   ·rw[zda0 (by walk_at "om"),zda0 (by rw[zda2];omega)];rfl
  ·obtain⟨z,ez⟩:∃ z,zs[x]?=some z:=⟨_,zcx9 (by walk_at "om")⟩
   obtain⟨p',ep⟩:∃ p',rs[x]?=some p':=⟨_,zcx9 (by walk_at "om")⟩
   obtain⟨_,_,_,w4,w5⟩:=pr x p' z ep ez
   unfold zsG
   rw[show zs.getD x []=z by rw[zcy3,ez];rfl,zcy3,zcx9 (by walk_at "om")]
   exact w5 _ (zde4 _)
theorem zi8 {c j p} {es:List Expr}{env:Env}:starEach (.Constant c j p :: es) env=(false,eval (.Constant c j p) env) :: starEach es env:=rfl
theorem zk0 {X:Cx}{i j pos}:PEI X (.Constant (.int i) j pos) (tC (.int i)):=by unfold PEI;exact za3
theorem zck2 {X:Cx}{es:List Expr}{x1} {t:TA}{pos:Pos}(h:PAI X es t):PEI X (.Tuple es x1 pos) (qTup t):=by unfold PEI PAI at *;exact zm8 h
theorem psIfI {X:Cx}{c:Expr}{a b:List Stmt}{tc:TT}{t u:TS}{pos:Pos}(hc:PT X c tc) (ha:PSsI X a t) (hb:PSsI X b u):PS X (.If c a b pos) (qIfS tc t u):=by unfold PSsI at ha hb;exact psIf hc ha hb
theorem zbe4 {X:Cx}{e:Expr}{te:TE}{pos:Pos}(he:PEI X e te):PSI X (.Return (some e) pos) (tRet te):=by unfold PEI at he;unfold PSI;exact za8 he
theorem zbr1 {X:Cx}{K:zcy1}{a b:Expr}{ta tb:TE}{pos:Pos}(hK:X.K=K) (ha:PEI X a ta) (hb:PEI X b tb) (hs:zas9 b:=by exact fun _ _=>rfl):PEI X (.Subscript a b pos) (tOp (rIxM K) ta tb):=by unfold PEI at *;exact za7 hK ha hb hs
theorem zt3 {X:Cx}{op:Operator}{r:R2}{a b:Expr}{ta tb:TE}{pos:Pos}(ho:OpR X (binaryOp op) r) (ha:PEI X a ta) (hb:PEI X b tb):PEI X (.BinOp a op b pos) (tOp r ta tb):=by unfold PEI at *;exact zb4 ho ha hb
@[irreducible] def zi3:Sp:=fun vs H Q _=>∃ (a:Addr) (ds:List Int) (n m k:Nat),vs=[.ref a,.int n,.int m,.int k]/\H a=some (.lst (ds.map V.int))/\Drw ds/\n<=10/\m<=10/\k<=10/\∀ p f H',Same H H'->FdAt (nw H H') p n m f->f.Ok->f.Bd n m->Q (.ref p) H'
theorem zbx2 {H:Hp}{a:Addr}{ds:List Int}{n m k:Nat}{Q:VK}{E:XK}(h:H a=some (.lst (ds.map V.int))) (hd:Drw ds) (hn:n<=10) (hm:m<=10) (hk:k<=10) (q:∀ p f H',Same H H'->FdAt (nw H H') p n m f->f.Ok->f.Bd n m->Q (.ref p) H'):zi3 [.ref a,.int n,.int m,.int k] H Q E:=by unfold zi3;exact⟨a,ds,n,m,k,rfl,h,hd,hn,hm,hk,q⟩
set_option maxHeartbeats 0 in
theorem zap3 {f:Addr}{fd:FuncData}(F:Fun K "_law_field" "_law_field" zn8 f fd) (N:Nm mg) (zcv5:Def P w K mg base CX0 1 "_law_table" ["_law_draws_here","_law_first","_law_second","_law_k"] zi5):FnOk P w K mg base CX0 2 f fd ["_law_draws_here","_law_first","_law_second","_law_k"] zi3:=by
 refine F.ok zr6 (fun vs H Q E h=>by unfold zi3 at h;obtain⟨_,_,_,_,_,rfl,_⟩:=h;rfl) (fun cdv A outer s H vs Q E hr h=>?_)
 unfold zi3 at h
 obtain⟨a,ds,n,m,k,rfl,ha,hd,hn,hm,hk,q⟩:=h
 have hu:=hu40 hr
 refine⟨_,(pssTo (zy5 (psIS (i:=4) zr6.nd (zbr1 (K:=K) rfl (zv7 (pq 0)) (zt3 oAdd zk0 (zv7 (pq 3)))))
   (zy5 (psOf (psS (i:=5) zr6.nd (zb4 oAdd za3 (zb4 oMod (zb4 oDiv (pq 4) za3) za3))))
   (zy5 (psIS (i:=6) zr6.nd (zbr1 (K:=K) rfl (peILst (zk3 zk0 (zk3 zk0 (zk3 zk0 (zk3 zk0 (zk3 zk0 (zk3 zk0 (zk3 zk0 (zk3 (zt3 oPow zk0 zk0) zba8) zi8) zi8) zi8) zi8) zi8) zi8) zi8)) (zt3 oMod (zt3 oDiv (zv7 (pq 4)) zk0) zk0)))
   (zy5 (psOf (psIfI (ptC (oEqK (K:=K) rfl (by exact hu)) (zb4 oMod (pq 4) za3) za3) (zaq8 (zbe4 (zck2 (zk3 zbz1 (zk3 (zt3 oMul (zv7 (pq 5)) (zv7 (pq 6))) (zk3 (zt3 oMul (zt3 oSub (zt3 oMod (zt3 oDiv (zv7 (pq 4)) zk0) (zt3 oAdd (zt3 oMul zk0 (zv7 (pq 5))) zk0)) (zv7 (pq 5))) (zv7 (pq 6))) zba8)) zi8)))) zbh7))
   (zy5 (psOf (psIfI (ptC (oEqK (K:=K) rfl (by exact hu)) (zb4 oMod (pq 4) za3) za3) (zaq8 (zbe4 (zck2 (zk3 zbz1 (zk3 (zt3 oMul (zv7 (pq 5)) (zv7 (pq 6))) (zk3 (zt3 oSub (zt3 oMod (zt3 oDiv (zv7 (pq 4)) zk0) zk0) zk0) zba8)) zi8)))) zbh7))
   (zaq8 (zbe4 (zv7 (pD zcv5 hr zb5 (za0 (pq 0) (za0 (pq 1) (za0 (pq 2) (za0 (pq 3) za1)))))))))))))),?_⟩
 obtain⟨x,ex,x0,x1⟩:=zx3 hd (z:=4+(k:Int)) (by walk_at "om") (by walk_at "om")
 refine zb9 (v:=.int x) ha ex ?_
 refine zx7 (by decide) (by decide) ?_
 refine zh0 (by decide) (fun d1 d10 d11=>?_)
 obtain⟨wo,ewo,w0,w1⟩:∃ wo:Int,1+d1=wo/\1<=wo/\wo<=9:=⟨_,rfl,by walk_at "om",by walk_at "om"⟩
 refine zck1 ⟨by decide,by decide,by decide⟩ ?_
 refine ze6 (fun p1 H1 f1 s1 h1=>?_)
 refine zx7 (by decide) (by decide) ?_
 refine zh0 (by decide) (fun d2 d20 d21=>?_)
 refine zbj8 h1 (by walk_at "om") (by simp only[zdb6,zdf9];omega) ?_
 intro v hv
 obtain⟨fa,rfl,fa0,fa1⟩:∃ t:Int,v=.int t/\1<=t/\t<=10 ^ 18:=by
  simp only[zcz5,zdb7,or_false] at hv
  rcases hv with rfl|rfl|rfl|rfl|rfl|rfl|rfl|rfl<;>exact⟨_,rfl,by decide,by decide⟩
 clear hv h1
 have big:wo*fa<=9*10 ^ 18:=Int.le_trans (zde9 w1 (by walk_at "om")) (zdf3 fa1 (by decide))
 have low:1<=wo*fa:=by
  have:=Int.mul_le_mul w0 fa0 (by decide) (by walk_at "om")
  omega
 walk_at "wh"
 rw[ewo]
 refine zh0 (by decide) (fun d3 d30 d31=>?_)
 refine zp5 (fun e0=>?_) (fun e0=>?_)
 ·walk_at "wh"
  refine zh6 (by walk_at "om") (by walk_at "om") ?_
  refine zx7 (by decide) (by decide) ?_
  refine zh6 (by decide) (by decide) ?_
  refine zh0 (by walk_at "om") (fun d4 d40 d41=>?_)
  refine zh6 (by walk_at "om") (by walk_at "om") ?_
  refine zc7 (fun p6 H6 f6 s6 h6=>?_)
  walk_at "wh"
  refine q p6 (.more (wo*fa) ((d4 - wo)*fa)) H6 (s1.trans s6) (zp7 (s1.free f6) h6) ⟨low,?_,?_⟩ (show wo*fa<=2*10 ^ 28 by walk_at "om")
  ·rw[← Int.neg_mul];exact zde9 (by walk_at "om") (by walk_at "om")
  ·exact zde9 (by walk_at "om") (by walk_at "om")
 refine zh0 (by decide) (fun d5 d50 d51=>?_)
 refine zp5 (fun e1=>?_) (fun e1=>?_)
 ·walk_at "wh"
  refine zh6 (by walk_at "om") (by walk_at "om") ?_
  refine zx7 (by decide) (by decide) ?_
  refine zh0 (by decide) (fun d4 d40 d41=>?_)
  refine zc7 (fun p6 H6 f6 s6 h6=>?_)
  walk_at "wh"
  exact q p6 (.lead (wo*fa) (d4 - 4)) H6 (s1.trans s6) (zp7 (s1.free f6) h6) low (show wo*fa<=2*10 ^ 28 by walk_at "om")
 refine zbx4 (s1 _ _ ha) hd hn hm hk (fun p g H2 s2 F gb=>?_)
 walk_at "wh"
 exact q p (.tab g) H2 (s1.trans s2) (F.same (zaj8 s1)) trivial (fun x y hx hy=>by have:=gb x y hx hy;omega)
@[irreducible] def zh1:Sp:=fun vs H Q _=>∃ (a:Addr) (ds:List Int) (t g:Nat),vs=[.ref a,.int t,.int g]/\H a=some (.lst (ds.map V.int))/\Drw ds/\t<=10/\(1<=g/\g<=5)/\∀ bt l ps n m fs H',Same H H'->zl4 (nw H H') bt l ps n m fs->OkB n m fs->(n<=t/\m<=t/\fs.length<=g)->(∀ f∈fs,f.Bd n m)->Q (.ref bt) H'
theorem zbn4 {H:Hp}{a:Addr}{ds:List Int}{t g:Nat}{Q:VK}{E:XK}(h:H a=some (.lst (ds.map V.int))) (hd:Drw ds) (ht:t<=10) (hg1:1<=g) (hg:g<=5) (q:∀ bt l ps n m fs H',Same H H'->zl4 (nw H H') bt l ps n m fs->OkB n m fs->(n<=t/\m<=t/\fs.length<=g)->(∀ f∈fs,f.Bd n m)->Q (.ref bt) H'):zh1 [.ref a,.int t,.int g] H Q E:=by unfold zh1;exact⟨a,ds,t,g,rfl,h,hd,ht,⟨hg1,hg⟩,q⟩
set_option maxHeartbeats 0 in
theorem zam5 {f:Addr}{fd:FuncData}(F:Fun K "_law_battle" "_law_battle" zm6 f fd) (N:Nm mg) (zcv6:Def P w K mg base CX0 2 "_law_field" ["_law_draws_here","_law_first","_law_second","_law_k"] zi3):FnOk P w K mg base CX0 3 f fd ["_law_draws_here","_law_hosts_here","_law_fields"] zh1:=by
 refine F.ok zq7 (fun vs H Q E h=>by unfold zh1 at h;obtain⟨_,_,_,_,rfl,_⟩:=h;rfl) (fun cdv A outer s H vs Q E hr h=>?_)
 unfold zh1 at h
 obtain⟨a,ds,t,g,rfl,ha,hd,ht,⟨hg1,hg⟩,q⟩:=h
 have hu:=hu40 hr
 refine⟨_,(za2 (psS (i:=3) zq7.nd (zb4 oMod (za7 (K:=K) rfl (pq 0) za3) (zb4 oAdd (pq 1) za3)))
   (za2 (psS (i:=4) zq7.nd (za7 (K:=K) rfl (zr9 (za0 (zb4 oMod (za7 (K:=K) rfl (pq 0) za3) (zb4 oAdd (pq 1) za3)) (za0 (pq 3) za1))) (zb4 oDiv (zb4 oMod (za7 (K:=K) rfl (pq 0) za3) za3) za3)))
   (za2 (psS (i:=5) zq7.nd (zb4 oAdd za3 (zb4 oMod (za7 (K:=K) rfl (pq 0) za3) (pq 2))))
   (za5 (za8 (zm8 (za0 (pq 3) (za0 (pq 4) (za0 (zj2 (N:=["_law_k","_law_draws_here","_law_first","_law_second"]) (ks:=[none,some 0,some 3,some 4]) (zr0 N.range_ (za0 (pq 5) za1)) (fun cl C s3 H3 fp=>(za6 (i:=0) nb_16 rfl (by first|exact Or.inl rfl|exact Or.inr rfl))) (fun cl C s3 H3 fp=>zd5) (fun cl C s3 H3 fp=>(pD zcv6 hr zb5 (za0 (pq 1) (za0 (pq 2) (za0 (pq 3) (za0 (pq 0) za1)))))) (.skip (.take rfl rfl (by first|exact Or.inl rfl|exact Or.inr rfl) (.take rfl rfl (by first|exact Or.inl rfl|exact Or.inr rfl) (.take rfl rfl (by first|exact Or.inl rfl|exact Or.inr rfl) .nil))))) za1))))))))),?_⟩
 obtain⟨x0,ex0,x00,x01⟩:=zx3 hd (z:=0) (by walk_at "om") (by walk_at "om")
 obtain⟨x1,ex1,x10,x11⟩:=zx3 hd (z:=1) (by walk_at "om") (by walk_at "om")
 obtain⟨x2,ex2,x20,x21⟩:=zx3 hd (z:=2) (by walk_at "om") (by walk_at "om")
 obtain⟨x3,ex3,x30,x31⟩:=zx3 hd (z:=3) (by walk_at "om") (by walk_at "om")
 refine zb9 (v:=.int x0) ha ex0 ?_
 refine zh0 (by walk_at "om") (fun d1 d10 d11=>?_)
 obtain⟨n,rfl⟩:∃ n:Nat,d1=n:=⟨d1.toNat,by walk_at "om"⟩
 refine zb9 (v:=.int x1) ha ex1 ?_
 refine zh0 (by walk_at "om") (fun d2 d20 d21=>?_)
 refine ze6 (fun p1 H1 f1 s1 h1=>?_)
 refine zb9 (v:=.int x2) (s1 _ _ ha) ex2 ?_
 refine zh0 (by decide) (fun d3 d30 d31=>?_)
 refine zx7 (by decide) (by decide) ?_
 refine zbj8 h1 (by walk_at "om") (by simp only[zdb6,zdf9];omega) ?_
 intro v hv
 obtain⟨m,rfl,hm⟩:∃ t':Nat,v=.int t'/\t'<=t:=by
  simp only[zcz5,zdb7,or_false] at hv
  rcases hv with rfl|rfl
  ·exact⟨d2.toNat,by rw[Int.toNat_of_nonneg d20],by walk_at "om"⟩
  ·exact⟨n,rfl,by walk_at "om"⟩
 clear hv h1
 refine zb9 (v:=.int x3) (s1 _ _ ha) ex3 ?_
 refine zh0 (by walk_at "om") (fun d4 d40 d41=>?_)
 refine zg4 (by decide) (by decide) (by walk_at "om") (by walk_at "om") ?_
 obtain⟨z,ez⟩:∃ z:Nat,(1+d4 - 0).toNat=z:=⟨_,rfl⟩
 rw[ez]
 have hz:1<=z/\z<=g:=by walk_at "om"
 refine zbp8 (n:=z) Wk.range (by rw[sizeLine_eq];omega) (fun acc j ys σ I=>∃ (t':Option V) (qs:List Addr) (fs:List Fd),σ=[t',some (.ref a),some (.int n),some (.int m)]/\ys=qs.map V.ref/\qs.length=j/\fs.length=j/\∀ (k:Nat) q f,qs[k]?=some q->fs[k]?=some f->FdAt (rm acc (nw H1 I)) q n m f/\f.Ok/\f.Bd n m) ?_ ?_ ?_ ?_
 ·intro acc I f2 s2 h2
  exact⟨none,[],[],rfl,rfl,rfl,rfl,fun k q f e=>by simp at e⟩
 ·rintro acc j ys σ I I' s' ⟨t',qs,fs,r1,r2,r3,r4,r5⟩
  exact⟨t',qs,fs,r1,r2,r3,r4,fun k q f e1 e2=>⟨(r5 k q f e1 e2).1.same (Same.rm (zbc3 s')),(r5 k q f e1 e2).2⟩⟩
 ·rintro acc j v ys σ I R S hj facc s2 hacc rfl ⟨t',qs,fs,rfl,rfl,ql,fl,pr⟩ kR _
  have hj:j<z:=hj
  refine br_T ?_
  rw[zdc8]
  refine zbx2 ((s1.trans s2) _ _ ha) hd (by walk_at "om") (by walk_at "om") (by walk_at "om") (fun p f I1 s3 F3 ok bd=>?_)
  walk_at "wh"
  refine kR _ _ _ s3 (fun I2 c2=>⟨_,qs++[p],fs++[f],rfl,by rw[zda3];rfl,by rw[zcz8,ql];rfl,by rw[zcz8,fl];rfl,fun k q' f' g1 g2=>?_⟩)
  have up:Same (rm acc (nw H1 I)) (rm acc (nw H1 I2)):=fun b o z=>by
   obtain⟨z1,z2⟩:=zz8 z
   obtain⟨z3,z4⟩:=zx2 z2
   exact zag1 z1 (zp7 z3 (c2 _ _ z1 (s3 _ _ z4)))
  have new:Same (nw I I1) (rm acc (nw H1 I2)):=fun b o z=>by
   obtain⟨z3,z4⟩:=zx2 z
   have nb:b≠acc:=fun w=>by rw[w,hacc] at z3;cases z3
   exact zag1 nb (zp7 (s2.free z3) (c2 _ _ nb z4))
  rcases zc2 g1 with ⟨a1,a2⟩|⟨a1,rfl⟩
  ·rcases zc2 g2 with ⟨b1,b2⟩|⟨b1,_⟩
   ·exact⟨(pr k q' f' a2 b2).1.same up,(pr k q' f' a2 b2).2⟩
   ·omega
  ·rcases zc2 g2 with ⟨b1,_⟩|⟨b1,rfl⟩
   ·omega
   ·exact⟨F3.same new,ok,bd⟩
 ·rintro acc ys σ I facc s2 hacc ⟨t',qs,fs,rfl,rfl,ql,fl,pr⟩
  refine zc7 (fun p7 H7 f7 s7 h7=>?_)
  walk_at "wh"
  have left:Same (nw H1 H7) (nw H H7):=zaj8 s1
  exact q p7 acc qs n m fs H7 ((s1.trans s2).trans s7) ⟨zp7 ((s1.trans s2).free f7) h7,zp7 (s1.free facc) (s7 _ _ hacc),by walk_at "om",fun i p f g1 g2=>⟨(((pr i p f g1 g2).1.same (zap9 _ _)).same (zbc3 s7)).same left,(pr i p f g1 g2).2.1⟩⟩ ⟨⟨by walk_at "om",by walk_at "om"⟩,by walk_at "om"⟩ ⟨by walk_at "om",by walk_at "om",by walk_at "om"⟩ (fun f hf=>by
   obtain⟨i,ei⟩:=zdb9 hf
   obtain⟨p,ep⟩:∃ p,qs[i]?=some p:=⟨_,zcx9 (by have:=(zcy4.mp ei).1;omega)⟩
   exact (pr i p f ep ei).2.2)
@[irreducible] def zk4:Sp:=fun vs H Q _=>∃ (p:Addr) (a c x y:Nat) (f:Fd),vs=[.ref p,.int x,.int y]/\FdAt H p a c f/\f.Ok/\f.Bd a c/\x<=a/\y<=c/\Q (.int (f.won x y)) H
theorem zbz3 {H:Hp}{p:Addr}{a c x y:Nat}{f:Fd}{Q:VK}{E:XK}(F:FdAt H p a c f) (O:f.Ok) (B:f.Bd a c) (h1:x<=a) (h2:y<=c) (q:Q (.int (f.won x y)) H):zk4 [.ref p,.int x,.int y] H Q E:=by unfold zk4;exact⟨p,a,c,x,y,f,rfl,F,O,B,h1,h2,q⟩
theorem zay3 {f:Addr}{fd:FuncData}(F:Fun K "_law_paid" "_law_paid" zq6 f fd) (N:Nm mg):FnOk P w K mg base CX0 1 f fd ["_law_field_here","_law_x","_law_y"] zk4:=by
 refine F.ok zay5 (fun vs H Q E h=>by unfold zk4 at h;obtain⟨_,_,_,_,_,_,rfl,_⟩:=h;rfl) (fun cdv A outer s H vs Q E hr h=>?_)
 unfold zk4 at h
 obtain⟨p,a,c,x,y,f,rfl,F,O,B,h1,h2,q⟩:=h
 have hu:=hu40 hr
 have mk:∀ {w i:Int},1<=w->w<=2*10 ^ 28->(i=1∨i=-1)->IntMulOk w i:=fun {w i} h1 h2 h3=>by
  have p:(2:Int)*10 ^ 28<10 ^ 240:=by decide
  have p0:(2:Int)<10 ^ 240:=by decide
  generalize (10:Int) ^ 240=N at p p0
  exact zz2 (by walk_at "om") (by walk_at "om") (by walk_at "om") (by walk_at "om")
 refine⟨_,(za2 (psIf (ptC (oEqK (K:=K) rfl (by exact hu)) (za7 (K:=K) rfl (pq 0) za3) zf2) (za5 (za8 (za7 (K:=K) rfl (za7 (K:=K) rfl (za7 (K:=K) rfl (pq 0) za3) (pq 1)) (pq 2)))) zb6)
   (za2 (psIf (ptC (oEqK (K:=K) rfl (by exact hu)) (za7 (K:=K) rfl (pq 0) za3) zf2) (za5 (za8 (zb4 oMul (za7 (K:=K) rfl (pq 0) za3) (zb4 oSub (zb4 oMul za3 (pT cInt N.int_ zaj6 (za0 (peC oGe (zb4 oSub (pq 1) (pq 2)) (za7 (K:=K) rfl (pq 0) za3)) za1))) za3)))) zb6)
   (za2 (psIf (ptC (oEqK (K:=K) rfl (by exact hu)) (pq 1) (pq 2)) (za5 (za8 (za7 (K:=K) rfl (pq 0) za3))) zb6)
   (za5 (za8 (zb4 oMul (za7 (K:=K) rfl (pq 0) za3) (zb4 oSub (zb4 oMul za3 (pT cInt N.int_ zaj6 (za0 (peC oGt (pq 1) (pq 2)) za1))) za3))))))),?_⟩
 cases f with
 | more wt t=>
  have F:H p=some (.tup [.str "more",.int wt,.int t]):=F
  have O:1<=wt/\-wt<=t/\t<=wt:=O
  have B:wt<=2*10 ^ 28:=B
  have q:Q (.int (if x=y then t else if y<x then wt else -wt)) H:=q
  refine za9 (v:=.str "more") F rfl ?_
  refine zw6 (by decide) ?_
  refine za9 (v:=.str "more") F rfl ?_
  refine zw6 (by decide) ?_
  refine zp5 (fun e=>?_) (fun e=>?_)
  ·rw[if_pos (show x=y by walk_at "om")] at q
   refine za9 (v:=.int t) F rfl ?_
   walk_at "wh"
   exact q
  ·rw[if_neg (show ¬ x=y by walk_at "om")] at q
   refine za9 (v:=.int wt) F rfl ?_
   by_cases g:y<x
   ·rw[if_pos g] at q
    walk_at "wh"
    rw[decide_eq_true (show (y:Int)<(x:Int) by walk_at "om")]
    refine zh6 (by decide) (by decide) ?_
    refine zw9 (mk O.1 B (.inl rfl)) ?_
    walk_at "wh"
    show Q (.int (wt*1)) H
    rw[Int.mul_one]
    exact q
   ·rw[if_neg g] at q
    walk_at "wh"
    rw[decide_eq_false (show ¬ (y:Int)<(x:Int) by walk_at "om")]
    refine zh6 (by decide) (by decide) ?_
    refine zw9 (mk O.1 B (.inr rfl)) ?_
    walk_at "wh"
    show Q (.int (wt*(-1))) H
    rw[Int.mul_neg,Int.mul_one]
    exact q
 | lead wt l=>
  have F:H p=some (.tup [.str "lead",.int wt,.int l]):=F
  have O:1<=wt:=O
  have B:wt<=2*10 ^ 28:=B
  have q:Q (.int (if l<=(x:Int) - y then wt else -wt)) H:=q
  refine za9 (v:=.str "lead") F rfl ?_
  refine zw6 (by decide) ?_
  refine za9 (v:=.str "lead") F rfl ?_
  refine zl3 rfl ?_
  refine za9 (v:=.int wt) F rfl ?_
  refine za9 (v:=.int l) F rfl ?_
  by_cases g:l<=(x:Int) - y
  ·rw[if_pos g] at q
   walk_at "wh"
   rw[decide_eq_true g]
   refine zh6 (by decide) (by decide) ?_
   refine zw9 (mk O B (.inl rfl)) ?_
   walk_at "wh"
   show Q (.int (wt*1)) H
   rw[Int.mul_one]
   exact q
  ·rw[if_neg g] at q
   walk_at "wh"
   rw[decide_eq_false g]
   refine zh6 (by decide) (by decide) ?_
   refine zw9 (mk O B (.inr rfl)) ?_
   walk_at "wh"
   show Q (.int (wt*(-1))) H
   rw[Int.mul_neg,Int.mul_one]
   exact q
 | tab g=>
  obtain⟨q',ps,F,G⟩:=F
  obtain⟨r,er,hr'⟩:=G.some (i:=x) (by walk_at "om")
  refine za9 (v:=.str "table") F rfl ?_
  refine zl3 rfl ?_
  refine za9 (v:=.ref q') F rfl ?_
  refine zb9 (v:=.ref r) G.out (zc5 (by rw[zcy2,er];rfl)) ?_
  refine zb9 (v:=.int (g x y)) hr' (zc5 (zj0 (by walk_at "om"))) ?_
  walk_at "wh"
  exact q
def zk5:Nat->Nat->List (List Nat)
 | 0,h=>[[h]]
 | f+1,h=>(List.range (h+1)).flatMap fun s=>(zk5 f (h - s)).map fun q=>s :: q
theorem zv6:∀ {f h:Nat}{q:List Nat},q∈zk5 f h->q.length=f+1/\q.sum=h
 | 0,h,q,hq=>by
  rw[zdb2.mp (show q∈[[h]] from hq)]
  exact⟨rfl,by simp⟩
 | f+1,h,q,hq=>by
  obtain⟨s,hs,hq⟩:=List.mem_flatMap.mp (show q∈(List.range (h+1)).flatMap fun s=>(zk5 f (h - s)).map fun q=>s :: q from hq)
  obtain⟨q',hq',rfl⟩:=zda1.mp hq
  obtain⟨a,b⟩:=zv6 hq'
  have:=zdc0.mp hs
  exact⟨by rw[zdb6,a],by rw[zdc7,b];omega⟩
theorem zan4:∀ (f h:Nat),h<=10->(zk5 f h).length<=11 ^ f
 | 0,h,_=>by show 1<=1;decide
 | f+1,h,hh=>by
  have step:∀ n,n<=11->(((List.range n).flatMap fun s=>(zk5 f (h - s)).map fun q=>s :: q).length)<=n*11 ^ f:=fun n=>by
   induction n with
   | zero=>intro _;simp
   | succ n ih=>
    intro hn
    have ih:=ih (by walk_at "om")
    rw[zde2,List.flatMap_append,zcz8]
    have:([n].flatMap fun s=>(zk5 f (h - s)).map fun q=>s :: q).length=(zk5 f (h - n)).length:=by simp
    rw[this,Nat.add_mul,Nat.one_mul]
    have:=zan4 f (h - n) (by walk_at "om")
    omega
  have:=step (h+1) (by walk_at "om")
  have e:11 ^ (f+1)=11*11 ^ f:=by rw[Nat.pow_succ,Nat.mul_comm]
  rw[e]
  exact zdb4 this (Nat.mul_le_mul_right _ (by walk_at "om"))
theorem zaz5 {f h:Nat}(h1:h<=10) (h2:f<=4):(zk5 f h).length<=20000:=by
 refine zdb4 (zan4 f h h1) (zdb4 (Nat.pow_le_pow_right (by decide) h2) (by decide))
theorem zaz2 (f h:Nat):zk5 f h≠[]:=by
 induction f generalizing h with
 | zero=>show [[h]]≠[];simp
 | succ f ih=>
  intro e
  have:zk5 f (h - 0)=[]:=by
   have e:(List.range (h+1)).flatMap (fun s=>(zk5 f (h - s)).map fun q=>s :: q)=[]:=e
   rw[List.flatMap_eq_nil_iff] at e
   have:=e 0 (zdc0.mpr (by walk_at "om"))
   exact List.map_eq_nil_iff.mp this
  exact ih _ this
def zr2 (f h:Nat):List (List Int):=(zk5 f h).map fun q=>q.map fun n=>((n:Nat):Int)
def zbb2:Nat->Sp
 | 0=>fun _ _ _ _=>False
 | n+1=>fun vs H Q _=>∃ (h f:Nat),vs=[.int h,.int ((f:Nat)+1:Int)]/\f<=n/\f<=4/\h<=10/\∀ r ps H',H r=none->Same H H'->zy4 H' r ps (zr2 f h)->Q (.ref r) H'
@[irreducible] def zg5:Sp:=zbb2 7
theorem zad7 {H:Hp}{h f:Nat}{Q:VK}{E:XK}(hf:f<=4) (hh:h<=10) (q:∀ r ps H',H r=none->Same H H'->zy4 H' r ps (zr2 f h)->Q (.ref r) H'):zg5 [.int h,.int ((f:Nat)+1:Int)] H Q E:=by unfold zg5;exact⟨h,f,rfl,zdb4 hf (by decide),hf,hh,q⟩
theorem zce1 {H:Hp}{r:Addr}{ps qs:List Addr}{a b:List (List Int)}(h:H r=some (.lst ((ps++qs).map V.ref))) (l1:ps.length=a.length) (l2:qs.length=b.length) (k1:∀ (i:Nat) p z,ps[i]?=some p->a[i]?=some z->H p=some (.lst (z.map V.int))) (k2:∀ (i:Nat) p z,qs[i]?=some p->b[i]?=some z->H p=some (.lst (z.map V.int))):zy4 H r (ps++qs) (a++b):=by
 refine⟨h,by rw[zcz8,zcz8,l1,l2],fun i p z e1 e2=>?_⟩
 by_cases hi:i<ps.length
 ·rw[zdc3 hi] at e1
  rw[zdc3 (by walk_at "om")] at e2
  exact k1 i p z e1 e2
 ·rw[zdc6 (by walk_at "om")] at e1 e2
  exact k2 (i - ps.length) p z e1 (by rw[l1];exact e2)
def zaq7 (f h k:Nat):List (List Int):=((List.range k).flatMap fun s=>(zk5 f (h - s)).map fun q=>s :: q).map fun q=>q.map fun n=>((n:Nat):Int)
theorem zaf4 (f h k:Nat):zaq7 f h (k+1)=zaq7 f h k++(zr2 f (h - k)).map fun z=>(k:Int) :: z:=by
 unfold zaq7 zr2
 rw[zde2,List.flatMap_append,zda3]
 congr 1
 simp
theorem zaw4 {f h k:Nat}(hk:k<=h+1):(zaq7 f h k).length<=(zr2 (f+1) h).length:=by
 show (zaq7 f h k).length<=(zaq7 f h (h+1)).length
 have:∀ d,(zaq7 f h k).length<=(zaq7 f h (k+d)).length:=fun d=>by
  induction d with
  | zero=>exact zcz6 _
  | succ d ih=>rw[← Nat.add_assoc,zaf4,zcz8];omega
 have:=this (h+1 - k)
 rwa [show k+(h+1 - k)=h+1 by walk_at "om"] at this
theorem zw2 {f h:Nat}(h1:h<=10) (h2:f<=4):(zr2 f h).length<=20000:=by unfold zr2;rw[zcy0];exact zaz5 h1 h2
set_option maxHeartbeats 0 in
theorem zao9 {f:Addr}{fd:FuncData}(F:Fun K "_law_plans" "_law_plans" zn9 f fd) (N:Nm mg) (hgR:mg "_law_plans"=some (.ref f)) (hkR:zcy9 K (.ref f)=true) (hbR:zam6 K fd ["_law_hosts_here","_law_many"] []):FnOk P w K mg base CX0 8 f fd ["_law_hosts_here","_law_many"] zg5:=by
 have key:∀ n,FnOk P w K mg base CX0 (n+1) f fd ["_law_hosts_here","_law_many"] (zbb2 n):=by
  intro n
  induction n with
  | zero=>exact F.ok zp3 (fun vs H Q E h=>h.elim) (fun cdv A outer s H vs Q E hr h=>h.elim)
  | succ n ih=>
   have zcr9:Def P w K mg base CX0 (n+1) "_law_plans" ["_law_hosts_here","_law_many"] (zbb2 n):=⟨f,fd,ih,hgR,hkR,hbR⟩
   refine F.ok zp3 (fun vs H Q E h=>by obtain⟨_,_,rfl,_⟩:=h;rfl) (fun cdv A outer s H vs Q E hr h=>?_)
   have hu:=hu40 hr
   refine⟨_,(za2 (psIf (ptC (zaf3 (K:=K) rfl (by exact hu)) (pq 1) za3) (za5 (za8 (zr9 (za0 (zr9 (za0 (pq 0) za1)) za1)))) zb6)
   (za2 (psS (i:=2) zp3.nd (zr9 za1))
   (za2 (zu5 PassesOwn.never rfl (zr0 N.range_ (za0 (zb4 oAdd (pq 0) za3) za1)) (za6 (i:=3) zp3.nd rfl (by first|exact Or.inl rfl|exact Or.inr rfl)) (za5 (psS (i:=2) zp3.nd (zb4 oAdd (pq 2) (zj2 (N:=["_law_rest","_law_sent"]) (ks:=[none,some 3]) (zk2 (K:=K) rfl (pD zcr9 hr zb5 (za0 (zb4 oSub (pq 0) (pq 3)) (za0 (zb4 oSub (pq 1) za3) za1)) (hk:=by walk_at "om"))) (fun cl C s3 H3 fp=>(za6 (i:=0) nb_17 rfl (by first|exact Or.inl rfl|exact Or.inr rfl))) (fun cl C s3 H3 fp=>zd5) (fun cl C s3 H3 fp=>(zb4 oAdd (zr9 (za0 (pq 1) za1)) (pq 0))) (.skip (.take rfl rfl (by first|exact Or.inl rfl|exact Or.inr rfl) .nil)))))))
   (za5 (za8 (pq 2)))))),?_⟩
   obtain⟨h,g,rfl,hn,hg,hh,q⟩:=h
   refine zp5 (fun e=>?_) (fun e=>?_)
   ·obtain rfl:g=0:=by walk_at "om"
    refine ze6 (fun p1 H1 f1 s1 h1=>?_)
    refine ze6 (fun p2 H2 f2 s2 h2=>?_)
    walk_at "wh"
    exact q p2 [p1] H2 (s1.free f2) (s1.trans s2) ⟨h2,rfl,fun i p z e1 e2=>by
     match i with
     | 0=>cases e1;cases e2;exact s2 _ _ h1
     | i+1=>simp at e1⟩
   ·obtain⟨g',rfl⟩:∃ g',g=g'+1:=⟨g - 1,by walk_at "om"⟩
    obtain⟨n',rfl⟩:∃ n',n=n'+1:=⟨n - 1,by walk_at "om"⟩
    refine ze6 (fun p1 H1 f1 s1 h1=>?_)
    refine zg4 (by decide) (by decide) (by walk_at "om") (by walk_at "om") ?_
    rw[show ((h:Int)+1 - 0).toNat=h+1 by walk_at "om"]
    refine zh7 (fun k σ I=>∃ (y4:Option V) (r:Addr) (ps:List Addr),σ=[some (.int h),some (.int ((((g'+1:Nat):Nat):Int)+1)),some (.ref r),y4]/\H r=none/\Same H I/\zy4 I r ps (zaq7 g' h k)) ?_ ?_ ?_
    ·exact⟨_,p1,[],rfl,f1,s1,⟨h1,rfl,fun i p z e1=>by simp at e1⟩⟩
    ·rintro k σ I hk ⟨y4,r,ps,rfl,fr,sI,R⟩
     have hk:k<h+1:=hk
     have sz:=zw2 (f:=g'+1) hh hg
     have sz2:=zw2 (f:=g') (h:=h - k) (by walk_at "om") (by walk_at "om")
     have u1:=zaw4 (f:=g') (h:=h) (k:=k) (by walk_at "om")
     have u2:=zaw4 (f:=g') (h:=h) (k:=k+1) (by walk_at "om")
     rw[zaf4,zcz8,zcy0] at u2
     have rl:=R.len
     rw[zdc8]
     walk_at "wh"
     rw[show (h:Int) - (k:Int)=((h - k:Nat):Int) by walk_at "om",show (((g'+1:Nat):Nat):Int)+1 - 1=((g':Nat):Int)+1 by walk_at "om"]
     refine⟨h - k,g',rfl,by walk_at "om",by walk_at "om",by walk_at "om",fun r2 ps2 I2 f2 s2 R2=>?_⟩
     have r2l:=R2.len
     refine zc8 R2.out ?_
     refine zav5 (n:=(ps2.map V.ref).length) (Wk.list (SqL.of R2.out)) (by rw[zcy0,sizeLine_eq];omega) (fun i=>.lst (((k:Int) :: (zr2 g' (h - k)).getD i []).map V.int)) (fun j σ=>∃ t:Option V,σ=[t,some (.int k)]) ⟨none,rfl⟩ ?_ ?_
     ·rintro i x σ J R' S' hi sJ hx ⟨_,rfl⟩ kk
      obtain⟨p,z,rfl,ep,ez,hp⟩:=(R2.same sJ).elt hx
      have zl:z.length<=10:=by
       have:=zcy7 ez
       unfold zr2 at this
       obtain⟨q',hq',rfl⟩:=zda1.mp this
       rw[zcy0,(zv6 hq').1]
       omega
      rw[show (zr2 g' (h - k)).getD i []=z by rw[zcy3,ez];rfl] at kk
      refine br_T ?_
      refine ze6 (fun p5 J5 f5 s5 h5=>?_)
      refine zbo5 h5 (s5 _ _ hp) (by rw[zcy0,sizeLine_eq,List.length_singleton];omega) (fun p6 J6 f6 s6 h6=>?_)
      walk_at "wh"
      exact kk _ p6 J6 (s5.free f6) (s5.trans s6) h6 ⟨_,rfl⟩
     intro acc qs J FL
     have ql:=FL.len
     rw[zcy0] at ql
     refine zbo5 ((s2.trans FL.same) _ _ R.out) FL.out (by rw[zcy0,zcy0,sizeLine_eq];omega) (fun r3 J3 f3 s3 h3=>?_)
     walk_at "wh"
     have sJ:Same I J:=s2.trans FL.same
     refine⟨_,r3,ps++qs,rfl,(sI.trans sJ).free f3,(sI.trans sJ).trans s3,?_⟩
     rw[zaf4]
     refine zce1 (by rw[h3,zda3]) rl (by rw[zcy0];omega) (fun i p z e1 e2=>(sJ.trans s3) _ _ (R.row i p z e1 e2)) (fun i p z e1 e2=>?_)
     rw[zcy2] at e2
     obtain⟨z',ez',rfl⟩:=zcy6.mp e2
     have:=s3 _ _ (FL.row i p e1).2
     rw[show (zr2 g' (h - k)).getD i []=z' by rw[zcy3,ez'];rfl] at this
     exact this
    ·rintro σ I ⟨y4,r,ps,rfl,fr,sI,R⟩
     walk_at "wh"
     exact q r ps I fr sI R
 unfold zg5
 exact key 7
theorem zce0 (f h:Nat):zr2 f h≠[]:=fun e=>zaz2 f h (List.map_eq_nil_iff.mp e)
theorem zby1 {f h:Nat}{z:List Int}(hz:z∈zr2 f h):(∀ n∈z,0<=n)/\z.length=f+1/\z.sum=h:=by
 unfold zr2 at hz
 obtain⟨q,hq,rfl⟩:=zda1.mp hz
 obtain⟨l,s⟩:=zv6 hq
 refine⟨fun n hn=>?_,by rw[zcy0,l],?_⟩
 ·obtain⟨k,_,rfl⟩:=zda1.mp hn
  omega
 ·have:=il_sum q
  unfold il at this
  rw[this,s]
@[irreducible] def zk9:Sp:=fun vs H Q _=>∃ (a r:Addr) (ds:List Int) (ps:List Addr) (t f h:Nat),vs=[.ref a,.int t,.ref r]/\H a=some (.lst (ds.map V.int))/\Drw ds/\t<=31/\zy4 H r ps (zr2 f h)/\f<=4/\h<=10/\∀ m ts ms H',Same H H'->zaf7 (nw H H') m ts ms->OkS ms h (f+1)->ms.length<=4->(∀ x∈ms,x.2<=10 ^ 20)->Q (.ref m) H'
theorem zbs2 {H:Hp}{a r:Addr}{ds:List Int}{ps:List Addr}{t f h:Nat}{Q:VK}{E:XK}(ha:H a=some (.lst (ds.map V.int))) (hd:Drw ds) (ht:t<=31) (R:zy4 H r ps (zr2 f h)) (hf:f<=4) (hh:h<=10) (q:∀ m ts ms H',Same H H'->zaf7 (nw H H') m ts ms->OkS ms h (f+1)->ms.length<=4->(∀ x∈ms,x.2<=10 ^ 20)->Q (.ref m) H'):zk9 [.ref a,.int t,.ref r] H Q E:=by
 unfold zk9;exact⟨a,r,ds,ps,t,f,h,rfl,ha,hd,ht,R,hf,hh,q⟩
theorem zby3 {α:Type}{P:α->Prop}{ds:List α}{d:α}(h:∀ x∈ds,P x) (hd:P d):∀ x∈ds++[d],P x:=fun x hx=>by
 rcases zdd1.mp hx with hx|hx
 ·exact h x hx
 ·rw[zdb2.mp hx];exact hd
set_option maxHeartbeats 0 in
theorem zbb4 {f:Addr}{fd:FuncData}(F:Fun K "_law_mix" "_law_mix" zs0 f fd) (N:Nm mg):FnOk P w K mg base CX0 1 f fd ["_law_draws_here","_law_at","_law_plans_here"] zk9:=by
 refine F.ok zw3 (fun vs H Q E h=>by unfold zk9 at h;obtain⟨_,_,_,_,_,_,_,rfl,_⟩:=h;rfl) (fun cdv A outer s H vs Q E hr h=>?_)
 unfold zk9 at h
 obtain⟨a,r,ds,ps,t,f,h,rfl,ha,hd,ht,R,hf,hh,q⟩:=h
 have hu:=hu40 hr
 have sz:=zw2 (f:=f) hh hf
 have rne:1<=(zr2 f h).length:=by
  have:=zce0 f h
  cases e:zr2 f h with
  | nil=>exact absurd e this
  | cons x xs=>simp
 have rl:=R.len
 refine⟨_,(za2 (psS (i:=3) zw3.nd (zr9 za1))
   (za2 (zu5 PassesOwn.never rfl (zr0 N.range_ (za0 (zb4 oAdd za3 (zb4 oMod (za7 (K:=K) rfl (pq 0) (pq 1)) za3)) za1)) (za6 (i:=4) zw3.nd rfl (by first|exact Or.inl rfl|exact Or.inr rfl)) (za2 (psS (i:=5) zw3.nd (za7 (K:=K) rfl (pq 2) (zb4 oMod (za7 (K:=K) rfl (pq 0) (zb4 oAdd (zb4 oAdd (pq 1) za3) (pq 4))) (pB (zp2 (K:=K) rfl) N.len_ zg0 (za0 (pq 2) za1)))))
   (za5 (ze7 (zh8 (pq 3) (za0 (zm8 (za0 (pT (zbg6 (K:=K) rfl) N.list_ zk6 (za0 (pq 5) za1)) (za0 (zb4 oAdd za3 (zb4 oMod (zb4 oDiv (za7 (K:=K) rfl (pq 0) (zb4 oAdd (zb4 oAdd (pq 1) za3) (pq 4))) za3) za3)) za1))) za1))))))
   (za5 (za8 (pq 3))))),?_⟩
 refine ze6 (fun fo H1 f1 s1 h1=>?_)
 obtain⟨x0,ex0,x00,x01⟩:=zx3 hd (z:=(t:Int)) (by walk_at "om") (by walk_at "om")
 refine zb9 (v:=.int x0) (s1 _ _ ha) ex0 ?_
 refine zh0 (by decide) (fun d1 d10 d11=>?_)
 refine zg4 (by decide) (by decide) (by walk_at "om") (by walk_at "om") ?_
 obtain⟨z,ez⟩:∃ z:Nat,(1+d1 - 0).toNat=z:=⟨_,rfl⟩
 rw[ez]
 have hz:1<=z/\z<=4:=by walk_at "om"
 refine zh7 (fun i σ I=>∃ (y5 y6:Option V) (ts:List (Addr×Addr)) (ms:List (List Int×Int)),σ=[some (.ref a),some (.int t),some (.ref r),some (.ref fo),y5,y6]/\Same H I/\I fo=some (.lst (ts.map fun t=>V.ref t.1))/\ts.length=i/\ms.length=i/\(∀ (j:Nat) t x,ts[j]?=some t->ms[j]?=some x->rm fo (nw H I) t.1=some (.tup [.ref t.2,.int x.2])/\rm fo (nw H I) t.2=some (.lst (x.1.map V.int)))/\∀ x∈ms,((∀ n∈x.1,0<=n)/\x.1.length=f+1/\x.1.sum=(h:Int)/\1<=x.2)/\x.2<=10 ^ 20) ?_ ?_ ?_
 ·exact⟨_,_,[],[],rfl,s1,h1,rfl,rfl,fun j t x e=>by simp at e,fun x hx=>by cases hx⟩
 ·rintro i σ I hi ⟨y5,y6,ts,ms,rfl,sI,hfo,tl,ml,pr,ok⟩
  have hi:i<z:=hi
  rw[zdc8]
  obtain⟨x1,ex1,x10,x11⟩:=zx3 hd (z:=(t:Int)+1+i) (by walk_at "om") (by walk_at "om")
  refine zb9 (v:=.int x1) (sI _ _ ha) ex1 ?_
  refine ze8 (sI _ _ R.out) ?_
  rw[zcy0,rl]
  refine zh0 (by walk_at "om") (fun d2 d20 d21=>?_)
  obtain⟨zn,rfl⟩:∃ zn:Nat,d2=zn:=⟨d2.toNat,by walk_at "om"⟩
  obtain⟨p,ep⟩:∃ p,ps[zn]?=some p:=⟨_,zcx9 (by walk_at "om")⟩
  obtain⟨w,ew⟩:∃ w,(zr2 f h)[zn]?=some w:=⟨_,zcx9 (by walk_at "om")⟩
  obtain⟨w1,w2,w3⟩:=zby1 (zcy7 ew)
  refine zb9 (v:=.ref p) (sI _ _ R.out) (zc5 (by rw[zcy2,ep];rfl)) ?_
  refine zu7 hfo ?_
  refine zah3 (SqL.of (sI _ _ (R.row zn p w ep ew))) (fun l I2 f2 s2 h2=>?_)
  refine zb9 (v:=.int x1) (s2 _ _ (sI _ _ ha)) ex1 ?_
  refine zx7 (by decide) (by decide) ?_
  refine zh0 (by decide) (fun d3 d30 d31=>?_)
  refine zc7 (fun tu I3 f3 s3 h3=>?_)
  have hfo3:=s3 _ _ (s2 _ _ hfo)
  have nl:l≠fo:=Ne.symm (zb2 hfo f2)
  have nt:tu≠fo:=Ne.symm (zb2 (s2 _ _ hfo) f3)
  refine zx0 hfo3 (by rw[zcy0,sizeLine_eq];omega) (fun I4 c4 h4=>?_)
  walk_at "wh"
  have up:Same (rm fo (nw H I)) (rm fo (nw H I4)):=fun b o z=>by
   obtain⟨z1,z2⟩:=zz8 z
   obtain⟨z3,z4⟩:=zx2 z2
   exact zag1 z1 (zp7 z3 (c4 _ _ z1 (s3 _ _ (s2 _ _ z4))))
  refine⟨_,_,ts++[(tu,l)],ms++[(w,1+d3)],rfl,((sI.trans s2).trans s3).chg f1 c4,by rw[h4,zda3];rfl,by rw[zcz8,tl];rfl,by rw[zcz8,ml];rfl,fun j t' x' g1 g2=>?_,zby3 ok ⟨⟨w1,w2,w3,show 1<=1+d3 by walk_at "om"⟩,show 1+d3<=10 ^ 20 by walk_at "om"⟩⟩
  rcases zc2 g1 with ⟨a1,a2⟩|⟨a1,rfl⟩
  ·rcases zc2 g2 with ⟨b1,b2⟩|⟨b1,_⟩
   ·exact⟨up _ _ (pr j t' x' a2 b2).1,up _ _ (pr j t' x' a2 b2).2⟩
   ·omega
  ·rcases zc2 g2 with ⟨b1,_⟩|⟨b1,rfl⟩
   ·omega
   ·exact⟨zag1 nt (zp7 ((sI.trans s2).free f3) (c4 _ _ nt h3)),zag1 nl (zp7 (sI.free f2) (c4 _ _ nl (s3 _ _ h2)))⟩
 ·rintro σ I ⟨y5,y6,ts,ms,rfl,sI,hfo,tl,ml,pr,ok⟩
  walk_at "wh"
  exact q fo ts ms I sI ⟨zp7 f1 hfo,by walk_at "om",fun i t x e1 e2=>⟨(zz8 (pr i t x e1 e2).1).2,(zz8 (pr i t x e1 e2).2).2⟩⟩ ⟨by walk_at "om",by walk_at "om",fun x hx=>(ok x hx).1⟩ (by walk_at "om") (fun x hx=>(ok x hx).2)
@[irreducible] def zf1:Sp:=fun vs H Q _=>∃ (m:Addr) (ts:List (Addr×Addr)) (ms:List (List Int×Int)) (f:Nat),vs=[.ref m]/\zaf7 H m ts ms/\(1<=ms.length/\ms.length<64)/\f<=100/\(∀ x∈ms,x.1.length=f)/\∀ r rs xss H',Same H H'->StW (nw H H') r rs xss->zbl8 ms f xss->Q (.ref r) H'
theorem zca7 {H:Hp}{m:Addr}{ts:List (Addr×Addr)}{ms:List (List Int×Int)}{f:Nat}{Q:VK}{E:XK}(M:zaf7 H m ts ms) (h1:1<=ms.length) (h2:ms.length<64) (h3:f<=100) (h4:∀ x∈ms,x.1.length=f) (q:∀ r rs xss H',Same H H'->StW (nw H H') r rs xss->zbl8 ms f xss->Q (.ref r) H'):zf1 [.ref m] H Q E:=by
 unfold zf1;exact⟨m,ts,ms,f,rfl,M,⟨h1,h2⟩,h3,h4,q⟩
theorem zbs9 {ms:List (List Int×Int)}{j:Nat}{x:List Int×Int}(h:ms[j]?=some x) (i:Nat):sumG (flw (ms.take (j+1)) i)=addG (sumG (flw (ms.take j) i)) (((x.1.drop i).sum,x.1.getD i 0),x.2):=by
 unfold flw
 rw[zdg5,h,zda3]
 exact zad4 _ _
theorem zbj1 (ms:List (List Int×Int)) (i:Nat):(sumG (flw ms i)).length<=ms.length:=by
 have:=zat7 (flw ms i)
 unfold flw at this ⊢
 rwa [zcy0] at this
set_option maxHeartbeats 0 in
theorem zal9 {f:Addr}{fd:FuncData}(F:Fun K "_law_stream" "_law_stream" zm2 f fd) (N:Nm mg):FnOk P w K mg base CX0 1 f fd ["_law_mix_here"] zf1:=by
 refine F.ok zh3 (fun vs H Q E h=>by unfold zf1 at h;obtain⟨_,_,_,_,rfl,_⟩:=h;rfl) (fun cdv A outer s H vs Q E hr h=>?_)
 unfold zf1 at h
 obtain⟨m,ts,ms,f,rfl,M,⟨m1,m2⟩,hf,fl,q⟩:=h
 have hu:=hu40 hr
 have ml:=M.len
 refine⟨_,(za2 (psS (i:=1) zh3.nd (zr9 za1))
   (za2 (zu5 PassesOwn.never rfl (zr0 N.range_ (za0 (pB (zp2 (K:=K) rfl) N.len_ zg0 (za0 (za7 (K:=K) rfl (za7 (K:=K) rfl (pq 0) za3) za3) za1)) za1)) (za6 (i:=2) zh3.nd rfl (by first|exact Or.inl rfl|exact Or.inr rfl)) (za2 (psS (i:=3) zh3.nd zbt4)
   (za2 (zu5 PassesOwn.never rfl (zk2 (K:=K) rfl (pq 0)) (zp0 (K:=K) (n:=2) rfl rfl (zb7 (za6 (i:=4) zh3.nd rfl (by first|exact Or.inl rfl|exact Or.inr rfl)) (zb7 (za6 (i:=5) zh3.nd rfl (by first|exact Or.inl rfl|exact Or.inr rfl)) zo3))) (za2 (psS (i:=6) zh3.nd (zm8 (za0 (pB (zbw3 (K:=K) rfl rfl) N.sum_ zav0 (za0 (zr7 (slXK (K:=K) rfl) (pq 4) (zy2 (pq 2)) zab3) za1)) (za0 (za7 (K:=K) rfl (pq 4) (pq 2)) za1))))
   (za5 (zcl1 (by exact hu) (pq 3) (pq 6) (zb4 oAdd (zbl0 (by exact hu) (pq 3) (pq 6) za3) (pq 5))))))
   (za5 (ze7 (zh8 (pq 1) (za0 (zj2 (N:=["_law_left","_law_sent","_law_flows"]) (ks:=[none,none,some 3]) (zk2 (K:=K) rfl (pB (cSortO rfl) N.sorted_ zby9 (za0 (pq 3) za1))) (fun cl C s3 H3 fp=>(zp0 (K:=K) (n:=2) rfl rfl (zb7 (za6 (i:=0) nb_18 rfl (by first|exact Or.inl rfl|exact Or.inr rfl)) (zb7 (za6 (i:=1) nb_18 rfl (by first|exact Or.inl rfl|exact Or.inr rfl)) zo3)))) (fun cl C s3 H3 fp=>zd5) (fun cl C s3 H3 fp=>(zm8 (za0 (pq 0) (za0 (pq 1) (za0 (peDGet (by exact hu) (pq 2) (zm8 (za0 (pq 0) (za0 (pq 1) za1)))) za1))))) (.skip (.skip (.take rfl rfl (by first|exact Or.inl rfl|exact Or.inr rfl) .nil)))) za1)))))))
   (za5 (za8 (pq 1))))),?_⟩
 obtain⟨x0,ex0⟩:∃ x,ms[0]?=some x:=⟨_,zcx9 (by walk_at "om")⟩
 obtain⟨t0,et0,at0,ht0,hp0⟩:=M.ix ex0
 have l0:=fl x0 (zcy7 ex0)
 refine ze6 (fun fo H1 f1 s1 h1=>?_)
 refine zb9 (v:=.ref t0.1) (s1 _ _ M.out) at0 ?_
 refine za9 (v:=.ref t0.2) (s1 _ _ ht0) rfl ?_
 refine ze8 (s1 _ _ hp0) ?_
 rw[zcy0,l0]
 refine zg4 (by decide) (by decide) (by walk_at "om") (by walk_at "om") ?_
 rw[show ((f:Int) - 0).toNat=f by walk_at "om"]
 refine zh7 (fun k σ I=>∃ (y3 y4 y5 y6 y7:Option V) (rs:List (Addr×List Addr)) (xss:List (List (Int×Int×Int))),σ=[some (.ref m),some (.ref fo),y3,y4,y5,y6,y7]/\Same H I/\I fo=some (.lst (rs.map fun r=>V.ref r.1))/\rs.length=k/\xss.length=k/\(∀ (i:Nat) r xs,rs[i]?=some r->xss[i]?=some xs->RwAt (rm fo (nw H I)) r.1 r.2 xs)/\∀ (i:Nat) xs,xss[i]?=some xs->zad3 ms i xs/\xs.length<=ms.length) ?_ ?_ ?_
 ·exact⟨_,_,_,_,_,[],[],rfl,s1,h1,rfl,rfl,fun i r xs e=>by simp at e,fun i xs e=>by simp at e⟩
 ·rintro k σ I hk ⟨y3,y4,y5,y6,y7,rs,xss,rfl,sI,hfo,rl,xl,rp,xp⟩
  have hk:k<f:=hk
  rw[zdc8]
  refine zck6 (fun d I1 fd1 sd1 hd1=>?_)
  have sI1:=sI.trans sd1
  have nd:d≠fo:=Ne.symm (zb2 hfo fd1)
  have fdH:H d=none:=sI.free fd1
  refine zc8 (sI1 _ _ M.out) ?_
  refine zt4 (xs:=ts.map fun t=>V.ref t.1) (fun j σ J=>∃ y5 y6 y7:Option V,σ=[some (.ref m),some (.ref fo),some (.int k),some (.ref d),y5,y6,y7]/\Same I J/\J d=some (.dT (dF pK (sumG (flw (ms.take j) k))))) ?_ ?_ ?_ ?_
  ·exact⟨_,_,_,rfl,sd1,hd1⟩
  ·rintro j σ J _ ⟨_,_,_,_,sJ,_⟩
   exact SqL.of ((sI.trans sJ) _ _ M.out)
  ·rintro j v σ J hj ⟨_,_,_,rfl,sJ,dh⟩
   obtain⟨t,x,rfl,e1,e2,e3,e4⟩:=(M.same (sI.trans sJ)).elt hj
   have jl:=(zcy4.mp e2).1
   have xl':=fl x (zcy7 e2)
   have kx:x.1[k]?=some (x.1.getD k 0):=by rw[zcy3,zcx9 (by walk_at "om")];rfl
   refine zg1 e3 ?_
   refine zaj7 (SqL.of e4) (fun p4 I4 f4 s4 h4=>?_)
   rw[zae1 (by walk_at "om"),show ((k:Int)).toNat=k by walk_at "om",← List.map_drop] at h4
   refine zay8 h4 ?_
   refine zb9 (v:=.int (x.1.getD k 0)) (s4 _ _ e4) (zc5 (by rw[zcy2,kx];rfl)) ?_
   refine zc7 (fun p5 I5 f5 s5 h5=>?_)
   have s35:=s4.trans s5
   have h5:I5 p5=some (.tup ((pK ((x.1.drop k).sum,x.1.getD k 0)).map kV)):=h5
   have dh5:=s35 _ _ dh
   refine zby2 dh5 ?_
   refine zbx8 dh5 (k:=pK ((x.1.drop k).sum,x.1.getD k 0)) h5 ?_
   have ev:(valV (dF pK (sumG (flw (ms.take j) k))) (pK ((x.1.drop k).sum,x.1.getD k 0))).getD (V.int 0)=.int ((valG (sumG (flw (ms.take j) k)) ((x.1.drop k).sum,x.1.getD k 0)).getD 0):=by
    rw[zak9 zal3]
    cases valG (sumG (flw (ms.take j) k)) ((x.1.drop k).sum,x.1.getD k 0)<;>rfl
   rw[ev]
   refine zck5 dh5 (k:=pK ((x.1.drop k).sum,x.1.getD k 0)) h5 (by unfold dF;rw[zcy0,sizeLine_eq];have:=zbj1 (ms.take j) k;rw[zdf4] at this;omega) (fun I6 c6 h6=>?_)
   rw[zbb8 zal3] at h6
   walk_at "wh"
   refine⟨_,_,_,rfl,(sJ.trans s35).chg fd1 c6,?_⟩
   rw[h6,zbs9 e2]
   rfl
  ·rintro σ J ⟨_,_,_,rfl,sJ,dh⟩
   rw[zcy0,ml,zde6] at dh
   have dh':J d=some (.dT (((sumG (flw ms k)).map fun z=>(z.1,V.int z.2)).map fun z=>(pK z.1,z.2))):=by rw[dh,zda5];rfl
   have sl:=zbj1 ms k
   have hfoJ:=sJ _ _ hfo
   refine zu7 hfoJ ?_
   refine soO_rd dh' (by rw[zcy0];omega) (fun p4 I4 bs ks f4 s4 pm od pr h4=>?_)
   have pm:ks.Perm ((sumG (flw ms k)).map (·.1)):=by rw[zda5] at pm;exact pm
   have bl:bs.length=ks.length:=pr.length
   have kl:ks.length<=ms.length:=by have:=pm.length_eq;rw[zcy0] at this;omega
   have eg:∀ x∈ks,valG (sumG (flw ms k)) x=some ((valG (sumG (flw ms k)) x).getD 0):=fun x hx=>by
    obtain⟨n,e⟩:=zbh8 (pm.mem_iff.mp hx)
    rw[e];rfl
   refine zc8 h4 ?_
   refine zav5 (n:=(bs.map V.ref).length) (Wk.list (SqL.of h4)) (by rw[zcy0,sizeLine_eq];omega) (fun j'=>.tup [.int (ks.getD j' (0,0)).1,.int (ks.getD j' (0,0)).2,.int ((valG (sumG (flw ms k)) (ks.getD j' (0,0))).getD 0)]) (fun j σ=>∃ t u:Option V,σ=[t,u,some (.ref d)]) ⟨none,none,rfl⟩ ?_ ?_
   ·rintro j' v σ H4 R' S' hj s5 hx ⟨t,u,rfl⟩ kk
    rw[zcy2] at hx
    obtain⟨b,eb,rfl⟩:=zcy6.mp hx
    obtain⟨x,ex⟩:∃ x,ks[j']?=some x:=⟨ks[j']'(by have:=(zcy4.mp eb).1;omega),zcx9 _⟩
    have eb':=s5 _ _ (zav3 pr j' b x eb ex)
    rw[show ks.getD j' (0,0)=x by rw[zcy3,ex];rfl] at kk
    have h4:=s5 _ _ (s4 _ _ dh)
    refine zg1 eb' ?_
    refine br_T ?_
    refine zc7 (fun p5 H5 f5 s5 h5=>?_)
    refine dgT_rd (s5 _ _ h4) (k:=pK x) h5 (by rw[zak9 zal3,eg x (zcy7 ex)];rfl) ?_
    refine zc7 (fun pa Ha fa sa ha=>?_)
    walk_at "wh"
    exact kk _ _ _ (s5.free fa) (s5.trans sa) ha ⟨_,_,rfl⟩
   intro acc4 ps H4 F4
   rw[zcy0] at F4
   have F4l:=F4.len
   have s34:=s4.trans F4.same
   have sI4:=sJ.trans s34
   have R4:RwAt (nw I H4) acc4 ps (ks.map fun x=>(x.1,x.2,(valG (sumG (flw ms k)) x).getD 0)):=⟨zp7 (sJ.free (s4.free F4.facc)) F4.out,by rw[zcy0];omega,fun j b x e1 e2=>by
    rw[zcy2] at e2
    obtain⟨y,ey,rfl⟩:=zcy6.mp e2
    obtain⟨z1,z2⟩:=F4.row j b e1
    rw[show ks.getD j (0,0)=y by rw[zcy3,ey];rfl] at z2
    exact zp7 (sJ.free (s4.free z1)) z2⟩
   have ri:zad3 ms k (ks.map fun x=>(x.1,x.2,(valG (sumG (flw ms k)) x).getD 0)):=by
    have em:(ks.map fun x=>(x.1,x.2,(valG (sumG (flw ms k)) x).getD 0)).map keyT=ks:=by
     rw[zda5]
     exact (zda4 fun x _=>rfl).trans (List.map_id _)
    refine⟨by rw[em];exact od,fun k=>by rw[em];exact pm.mem_iff,fun z hz=>?_⟩
    obtain⟨x,hx,rfl⟩:=zda1.mp hz
    exact eg x hx
   have xl1:(ks.map fun x=>(x.1,x.2,(valG (sumG (flw ms k)) x).getD 0)).length<=ms.length:=by rw[zcy0];exact kl
   generalize (ks.map fun x=>(x.1,x.2,(valG (sumG (flw ms k)) x).getD 0))=xs at R4 ri xl1
   refine zx0 (sI4 _ _ hfo) (by rw[zcy0,sizeLine_eq];omega) (fun I5 c5 h5=>?_)
   walk_at "wh"
   have up:Same (rm fo (nw H I)) (rm fo (nw H I5)):=fun b o z=>by
    obtain⟨z1,z2⟩:=zz8 z
    obtain⟨z3,z4⟩:=zx2 z2
    exact zag1 z1 (zp7 z3 (c5 _ _ z1 (sI4 _ _ z4)))
   have new:Same (nw I H4) (rm fo (nw H I5)):=fun b o z=>by
    obtain⟨z3,z4⟩:=zx2 z
    have nb:b≠fo:=fun w=>by rw[w,hfo] at z3;cases z3
    exact zag1 nb (zp7 (sI.free z3) (c5 _ _ nb z4))
   refine⟨_,_,_,_,_,rs++[(acc4,ps)],xss++[xs],rfl,(sI.trans sI4).chg f1 c5,by rw[h5,zda3];rfl,by rw[zcz8,rl];rfl,by rw[zcz8,xl];rfl,fun i r' xs' e1 e2=>?_,fun i xs' e=>?_⟩
   ·rcases zc2 e1 with ⟨a1,a2⟩|⟨a1,rfl⟩
    ·rcases zc2 e2 with ⟨b1,b2⟩|⟨b1,_⟩
     ·exact (rp i r' xs' a2 b2).same up
     ·omega
    ·rcases zc2 e2 with ⟨b1,_⟩|⟨b1,rfl⟩
     ·omega
     ·exact R4.same new
   ·rcases zc2 e with ⟨b1,b2⟩|⟨b1,rfl⟩
    ·exact xp i xs' b2
    ·rw[b1,xl]
     exact⟨ri,xl1⟩
 ·rintro σ I ⟨y3,y4,y5,y6,y7,rs,xss,rfl,sI,hfo,rl,xl,rp,xp⟩
  walk_at "wh"
  exact q fo rs xss I sI ⟨zp7 f1 hfo,by walk_at "om",fun i r xs e1 e2=>(rp i r xs e1 e2).same (zap9 _ _)⟩ ⟨xl,xp⟩
def wonK (sd:Bool) (fs:List Fd) (xss:List (List (Int×Int×Int))) (qs:List Nat) (k:Nat):Int:=((List.range k).map fun i=>dueS sd (fs.getD i (.more 0 0)) (xss.getD i []) (qs.getD i 0)).sum
theorem zbp1 (sd:Bool) (fs:List Fd) (xss:List (List (Int×Int×Int))) (qs:List Nat) (k:Nat):wonK sd fs xss qs (k+1)=wonK sd fs xss qs k+dueS sd (fs.getD k (.more 0 0)) (xss.getD k []) (qs.getD k 0):=by
 unfold wonK
 rw[zde2,zda3,zdf0]
 simp
theorem zcc2 {sd:Bool}{f:Fd}{xs:List (Int×Int×Int)}{c j:Nat}{z:Int×Int×Int}(h:xs[j]?=some z):dueS sd f (xs.take (j+1)) c=dueS sd f (xs.take j) c+z.2.2*wonS sd f z.2.1.toNat c:=by
 unfold dueS
 rw[zdg5,h,zda3,zdf0]
 simp
@[irreducible] def zi6:Sp:=fun vs H Q _=>∃ (b l st pn:Addr) (ps:List Addr) (n m:Nat) (sd:Bool) (fs:List Fd) (rs:List (Addr×List Addr)) (xss:List (List (Int×Int×Int))) (qs:List Nat),vs=[.ref b,.str (wd sd),.ref st,.ref pn]/\zl4 H b l ps n m fs/\(∀ f∈fs,f.Bd n m)/\fs.length<=5/\StW H st rs xss/\xss.length=fs.length/\(∀ xs∈xss,zac1 (ownH sd n m) xs)/\H pn=some (.lst (pl qs))/\qs.length=fs.length/\(∀ q∈qs,q<=othH sd n m)/\∀ H',Same H H'->Q (.int (wonK sd fs xss qs fs.length)) H'
theorem zbf2 {H:Hp}{b l st pn:Addr}{ps:List Addr}{n m:Nat}{sd:Bool}{fs:List Fd}{rs:List (Addr×List Addr)}{xss:List (List (Int×Int×Int))}{qs:List Nat}{Q:VK}{E:XK}(B:zl4 H b l ps n m fs) (D:∀ f∈fs,f.Bd n m) (h5:fs.length<=5) (S:StW H st rs xss) (hl:xss.length=fs.length) (ok:∀ xs∈xss,zac1 (ownH sd n m) xs) (hp:H pn=some (.lst (pl qs))) (hq:qs.length=fs.length) (hb:∀ q∈qs,q<=othH sd n m) (q:∀ H',Same H H'->Q (.int (wonK sd fs xss qs fs.length)) H'):zi6 [.ref b,.str (wd sd),.ref st,.ref pn] H Q E:=by
 unfold zi6;exact⟨b,l,st,pn,ps,n,m,sd,fs,rs,xss,qs,rfl,B,D,h5,S,hl,ok,hp,hq,hb,q⟩
theorem zbw0 {f:Fd}{a c x y:Nat}{fl:Int}(O:f.Ok) (B:f.Bd a c) (hx:x<=a) (hy:y<=c) (h0:0<=fl) (h1:fl<=10 ^ 31):IntMulOk fl (f.won x y):=by
 have:=Fd.won_bd O B hx hy
 have p:(2:Int)*10 ^ 28<10 ^ 240:=by decide
 have p0:(10:Int) ^ 31<10 ^ 240:=by decide
 generalize (10:Int) ^ 240=N at p p0
 exact zz2 (by walk_at "om") (by walk_at "om") (by walk_at "om") (by walk_at "om")
set_option maxHeartbeats 0 in
theorem zbf1 {f:Addr}{fd:FuncData}(F:Fun K "_law_won" "_law_won" zs3 f fd) (N:Nm mg) (zcv1:Def P w K mg base CX0 1 "_law_paid" ["_law_field_here","_law_x","_law_y"] zk4):FnOk P w K mg base CX0 2 f fd ["_law_battle_here","_law_side","_law_stream_here","_law_plan"] zi6:=by
 refine F.ok zg8 (fun vs H Q E h=>by unfold zi6 at h;obtain⟨_,_,_,_,_,_,_,_,_,_,_,_,rfl,_⟩:=h;rfl) (fun cdv A outer s H vs Q E hr h=>?_)
 unfold zi6 at h
 obtain⟨b,l,st,pn,ps,n,m,sd,fs,rs,xss,qs,rfl,B,D,h5,S,hl,ok,hp,hq,hb,q⟩:=h
 have hu:=hu40 hr
 have bl:=B.len
 have sl:=S.len
 refine⟨_,(za2 (psS (i:=4) zg8.nd za3)
   (za2 (zu5 PassesOwn.never rfl (zco3 (K:=K) rfl N.zip_ (za0 (za7 (K:=K) rfl (pq 0) za3) (za0 (pq 2) (za0 (pq 3) za1)))) (zp0 (K:=K) (n:=3) rfl rfl (zb7 (za6 (i:=5) zg8.nd rfl (by first|exact Or.inl rfl|exact Or.inr rfl)) (zb7 (za6 (i:=6) zg8.nd rfl (by first|exact Or.inl rfl|exact Or.inr rfl)) (zb7 (za6 (i:=7) zg8.nd rfl (by first|exact Or.inl rfl|exact Or.inr rfl)) zo3)))) (za5 (zu5 PassesOwn.never rfl (zk2 (K:=K) rfl (pq 6)) (zp0 (K:=K) (n:=3) rfl rfl (zb7 (za6 (i:=8) zg8.nd rfl (by first|exact Or.inl rfl|exact Or.inr rfl)) (zb7 (za6 (i:=9) zg8.nd rfl (by first|exact Or.inl rfl|exact Or.inr rfl)) (zb7 (za6 (i:=10) zg8.nd rfl (by first|exact Or.inl rfl|exact Or.inr rfl)) zo3)))) (za5 (psIf (ptC (oEqK (K:=K) rfl (by exact hu)) (pq 1) zf2) (za5 (psS (i:=4) zg8.nd (zb4 oAdd (pq 4) (zb4 oMul (pq 10) (pD zcv1 hr zb5 (za0 (pq 5) (za0 (pq 9) (za0 (pq 7) za1)))))))) (za5 (psS (i:=4) zg8.nd (zb4 oAdd (pq 4) (zb4 oMul (pq 10) (pD zcv1 hr zb5 (za0 (pq 5) (za0 (pq 7) (za0 (pq 9) za1)))))))))))))
   (za5 (za8 (pq 4))))),?_⟩
 refine za9 (v:=.ref l) B.out rfl ?_
 refine zcp1 (SqL.of B.lst) (SqL.of S.out) (SqL.of hp) ?_
 refine zbq2 (xs:=ps.map V.ref) (ys:=rs.map fun r=>V.ref r.1) (us:=pl qs) fs.length (by rw[zcy0,bl]) (by rw[zcy0];omega) (by rw[pl_len,hq]) (fun k σ I=>∃ y6 y7 y8 y9 y10 y11:Option V,σ=[some (.ref b),some (.str (wd sd)),some (.ref st),some (.ref pn),some (.int (wonK sd fs xss qs k)),y6,y7,y8,y9,y10,y11]/\Same H I) ?_ ?_ ?_ ?_
 ·exact⟨_,_,_,_,_,_,rfl,Same.refl _⟩
 ·rintro k σ I _ ⟨_,_,_,_,_,_,_,sI⟩
  exact⟨SqL.of (sI _ _ B.lst),SqL.of (sI _ _ S.out),SqL.of (sI _ _ hp)⟩
 ·rintro k v1 v2 v3 σ I tu I' g1 g2 g3 ⟨y6,y7,y8,y9,y10,y11,rfl,sI⟩ ft st' ht
  have sI':=sI.trans st'
  obtain⟨p,f,rfl,ep,ef,F,O⟩:=(B.same sI').elt g1
  rw[zcy2] at g2
  obtain⟨r,er,rfl⟩:=zcy6.mp g2
  obtain⟨c,rfl,ec⟩:=pl_of g3
  obtain⟨xs,ex⟩:∃ xs,xss[k]?=some xs:=⟨_,zcx9 (by have:=(zcy4.mp er).1;omega)⟩
  have R:=(S.row k r xs er ex).same sI'
  have okx:=ok xs (zcy7 ex)
  have hc:=hb c (zcy7 ec)
  have fb:=D f (zcy7 ef)
  have rl:=R.len
  refine zg1 ht ?_
  refine zc8 R.out ?_
  refine zt4 (xs:=r.2.map V.ref) (fun j σ J=>∃ y9 y10 y11:Option V,σ=[some (.ref b),some (.str (wd sd)),some (.ref st),some (.ref pn),some (.int (wonK sd fs xss qs k+dueS sd f (xs.take j) c)),some (.ref p),some (.ref r.1),some (.int c),y9,y10,y11]/\Same I' J) ?_ ?_ ?_ ?_
  ·exact⟨_,_,_,by rw[List.take_zero,show dueS sd f [] c=0 from rfl,Int.add_zero];rfl,Same.refl _⟩
  ·rintro j σ J _ ⟨_,_,_,_,sJ⟩
   exact SqL.of (sJ _ _ R.out)
  ·rintro j v σ J gj ⟨y9',y10',y11',rfl,sJ⟩
   rw[zcy2] at gj
   obtain⟨t,et,rfl⟩:=zcy6.mp gj
   obtain⟨z,ez⟩:∃ z,xs[j]?=some z:=⟨_,zcx9 (by have:=(zcy4.mp et).1;omega)⟩
   have hz:=sJ _ _ (R.row j t z et ez)
   obtain⟨⟨z0,z1⟩,z2,z3⟩:=okx.2 z (zcy7 ez)
   obtain⟨zn,ezn⟩:∃ zn:Nat,z.2.1=zn:=⟨z.2.1.toNat,by walk_at "om"⟩
   have nxt:wonK sd fs xss qs k+dueS sd f (xs.take (j+1)) c=wonK sd fs xss qs k+dueS sd f (xs.take j) c+z.2.2*wonS sd f zn c:=by rw[zcc2 ez,ezn];rw[zde1];omega
   rw[ezn] at hz z1
   have F':=F.same sJ
   refine zg1 hz ?_
   cases sd
   ·have z1:zn<=n:=by have:(zn:Int)<=(n:Nat):=z1;omega
    refine zl3 rfl ?_
    refine zbz3 F' O fb z1 hc ?_
    refine zw9 (zbw0 O fb z1 hc z2 z3) ?_
    walk_at "wh"
    exact⟨_,_,_,by rw[nxt];rfl,sJ⟩
   ·have z1:zn<=m:=by have:(zn:Int)<=(m:Nat):=z1;omega
    refine zw6 (by decide) ?_
    refine zbz3 F' O fb hc z1 ?_
    refine zw9 (zbw0 O fb hc z1 z2 z3) ?_
    walk_at "wh"
    exact⟨_,_,_,by rw[nxt];rfl,sJ⟩
  ·rintro σ J ⟨y9',y10',y11',rfl,sJ⟩
   rw[zcy0,rl,zde6]
   walk_at "wh"
   rw[zbp1,show fs.getD k (.more 0 0)=f by rw[zcy3,ef];rfl,show xss.getD k []=xs by rw[zcy3,ex];rfl,show qs.getD k 0=c by rw[zcy3,ec];rfl]
   exact⟨_,_,_,_,_,_,rfl,sI'.trans sJ⟩
 ·rintro σ I ⟨y6,y7,y8,y9,y10,y11,rfl,sI⟩
  walk_at "wh"
  exact q I sI
@[irreducible] def ze0:Sp:=fun vs H Q _=>∃ (b l:Addr) (n m:Nat) (sd:Bool),vs=[.ref b,.str (wd sd)]/\H b=some (.tup [.int n,.int m,.ref l])/\∀ p H',H p=none->Same H H'->H' p=some (.tup [.int (ownH sd n m),.int (othH sd n m)])->Q (.ref p) H'
theorem zae3 {H:Hp}{b l:Addr}{n m:Nat}{sd:Bool}{Q:VK}{E:XK}(h:H b=some (.tup [.int n,.int m,.ref l])) (q:∀ p H',H p=none->Same H H'->H' p=some (.tup [.int (ownH sd n m),.int (othH sd n m)])->Q (.ref p) H'):ze0 [.ref b,.str (wd sd)] H Q E:=by unfold ze0;exact⟨b,l,n,m,sd,rfl,h,q⟩
theorem zaq9 {f:Addr}{fd:FuncData}(F:Fun K "_law_hosts" "_law_hosts" zo8 f fd) (N:Nm mg):FnOk P w K mg base CX0 1 f fd ["_law_battle_here","_law_side"] ze0:=by
 refine F.ok zar9 (fun vs H Q E h=>by unfold ze0 at h;obtain⟨_,_,_,_,_,rfl,_⟩:=h;rfl) (fun cdv A outer s H vs Q E hr h=>?_)
 unfold ze0 at h
 obtain⟨b,l,n,m,sd,rfl,hb,q⟩:=h
 have hu:=hu40 hr
 refine⟨_,(za2 (psIf (ptC (oEqK (K:=K) rfl (by exact hu)) (pq 1) zf2) (za5 (za8 (zm8 (za0 (za7 (K:=K) rfl (pq 0) za3) (za0 (za7 (K:=K) rfl (pq 0) za3) za1))))) zb6)
   (za5 (za8 (zm8 (za0 (za7 (K:=K) rfl (pq 0) za3) (za0 (za7 (K:=K) rfl (pq 0) za3) za1)))))),?_⟩
 cases sd
 ·walk_at "wh"
  refine zl3 rfl ?_
  refine za9 (v:=.int n) hb rfl ?_
  refine za9 (v:=.int m) hb rfl ?_
  refine zc7 (fun p H1 f1 s1 h1=>?_)
  walk_at "wh"
  exact q p H1 f1 s1 h1
 ·walk_at "wh"
  refine zw6 (by decide) ?_
  refine za9 (v:=.int m) hb rfl ?_
  refine za9 (v:=.int n) hb rfl ?_
  refine zc7 (fun p H1 f1 s1 h1=>?_)
  walk_at "wh"
  exact q p H1 f1 s1 h1
@[irreducible] def zj1:Sp:=fun vs H Q _=>∃ i:Int,vs=[.int i]/\Q (.bl true) H
theorem zby7 {H:Hp}{i:Int}{Q:VK}{E:XK}(q:Q (.bl true) H):zj1 [.int i] H Q E:=by unfold zj1;exact⟨i,rfl,q⟩
theorem zaq2 {f:Addr}{fd:FuncData}(F:Fun K "_law_whole" "_law_whole" zo6 f fd) (N:Nm mg):FnOk P w K mg base CX0 1 f fd ["_law_found"] zj1:=by
 refine F.ok zaq6 (fun vs H Q E h=>by unfold zj1 at h;obtain⟨n,rfl,_⟩:=h;rfl) (fun cdv A outer s H vs Q E hr h=>?_)
 unfold zj1 at h
 obtain⟨i,rfl,q⟩:=h
 refine⟨_,(za5 (za8 (zy0 (pB (zy1 (K:=K) rfl) N.isinstance_ zb8 (za0 (pq 0) (za0 (pTy N.int_ zaj6) za1))) (zw8 (peNot (pB (zy1 (K:=K) rfl) N.isinstance_ zb8 (za0 (pq 0) (za0 (pTy N.bool_ zbu5) za1)))))))),?_⟩
 repeat walk_at "st"
 walk_at "wh"
 exact q
theorem zbw2 (sd:Bool):∀ {ds:List (Nat->Int)}{r:Nat},ds≠[]->∃ q∈zk5 (ds.length - 1) r,((List.range ds.length).map fun k=>(ds.getD k fun _=>0) (q.getD k 0)).sum=tabR sd ds r
 | [d],r,_=>⟨[r],by show [r]∈[[r]];simp,by show ([d r]:List Int).sum=d r;simp⟩
 | d :: e :: ds,r,_=>by
  obtain⟨s,hs,es⟩:=zda1.mp (zv8 sd (xs:=(List.range (r+1)).map fun s=>d s+tabR sd (e :: ds) (r - s)) (by simp))
  obtain⟨q,hq,eq⟩:=zbw2 sd (ds:=e :: ds) (r:=r - s) (by simp)
  refine⟨s :: q,?_,?_⟩
  ·show s :: q∈zk5 (ds.length+1) r
   exact List.mem_flatMap.mpr ⟨s,hs,zda1.mpr ⟨q,hq,rfl⟩⟩
  ·rw[zdb6,List.range_succ_eq_map,zda7,zdc7,zda5]
   show d s+_=optL sd ((List.range (r+1)).map fun s=>d s+tabR sd (e :: ds) (r - s))
   rw[← es,← eq]
   rfl
 | [],_,h=>absurd rfl h
theorem zcc5 {sd:Bool}{fs:List Fd}{xss:List (List (Int×Int×Int))}{r:Nat}(h1:1<=fs.length):optL sd ((zk5 (fs.length - 1) r).map fun q=>wonK sd fs xss q fs.length)=tabR sd (zc1 sd fs xss) r:=by
 have dl:(zc1 sd fs xss).length=fs.length:=by unfold zc1;rw[zcy0,zda2]
 have ne:zc1 sd fs xss≠[]:=fun e=>by rw[e] at dl;simp at dl;omega
 have sm:∀ q:List Nat,wonK sd fs xss q fs.length=((List.range (zc1 sd fs xss).length).map fun k=>((zc1 sd fs xss).getD k fun _=>0) (q.getD k 0)).sum:=fun q=>(zcf6 (n:=fs.length) rfl q).symm
 obtain⟨q,hq,eq⟩:=zbw2 sd (r:=r) ne
 refine (zab8 (zda1.mpr ⟨q,by rw[dl] at hq;exact hq,by rw[sm,eq]⟩) fun a ha=>?_).symm
 obtain⟨q',hq',rfl⟩:=zda1.mp ha
 obtain⟨l,s⟩:=zv6 hq'
 rw[sm]
 exact zav7 sd ne (by rw[l,dl];omega) s
theorem zax7 {α:Type}(xs:List α) (k i:Nat) (d:α):(xs.drop k).getD i d=xs.getD (k+i) d:=by rw[zcy3,zcy3,zde5]
theorem zbp2 (sd:Bool) (fs:List Fd) (xss:List (List (Int×Int×Int))) (k:Nat):zc1 sd (fs.drop k) (xss.drop k)=(zc1 sd fs xss).drop k:=by
 unfold zc1
 apply zdd0
 intro i
 rw[zde5,zcy2,zcy2,zdc2]
 by_cases h:k+i<fs.length
 ·rw[zdb0 (by walk_at "om"),zdb0 h]
  show some (dueS sd ((fs.drop k).getD i (.more 0 0)) ((xss.drop k).getD i []))=some (dueS sd (fs.getD (k+i) (.more 0 0)) (xss.getD (k+i) []))
  rw[zax7,zax7]
 ·rw[zda0 (by rw[zda2];omega),zda0 (by rw[zda2];omega)]
  rfl
theorem zl4.drop {H:Hp}{b l b' l':Addr}{ps:List Addr}{n m:Nat}{fs:List Fd}(B:zl4 H b l ps n m fs) (k:Nat) (h1:H b'=some (.tup [.int n,.int m,.ref l'])) (h2:H l'=some (.lst ((ps.drop k).map V.ref))):zl4 H b' l' (ps.drop k) n m (fs.drop k):=
 ⟨h1,h2,by rw[zdc2,zdc2,B.len],fun i p f e1 e2=>by
  rw[zde5] at e1 e2
  exact B.fld _ p f e1 e2⟩
theorem StW.drop {H:Hp}{p p':Addr}{rs:List (Addr×List Addr)}{xss:List (List (Int×Int×Int))}(R:StW H p rs xss) (k:Nat) (h:H p'=some (.lst ((rs.drop k).map fun r=>V.ref r.1))):StW H p' (rs.drop k) (xss.drop k):=
 ⟨h,by rw[zdc2,zdc2,R.len],fun i r xs e1 e2=>by
  rw[zde5] at e1 e2
  exact R.row _ r xs e1 e2⟩
theorem zby6 {f h i:Nat}{z:List Int}(e:(zr2 f h)[i]?=some z):∃ q,(zk5 f h)[i]?=some q/\z.map V.int=pl q:=by
 unfold zr2 at e
 rw[zcy2] at e
 obtain⟨q,eq,rfl⟩:=zcy6.mp e
 exact⟨q,eq,(pl_il q).symm⟩
theorem zbm1 {α:Type}{xs:List α}{d:α}{F:α->Int}{k:Nat}(hk:k=xs.length):((List.range k).map fun i=>V.int (F (xs.getD i d)))=(xs.map F).map V.int:=by
 subst hk
 apply zdd0
 intro i
 rw[zcy2,zcy2,zcy2]
 by_cases h:i<xs.length
 ·rw[zdb0 h,zcx9 h]
  simp[h]
 ·rw[zda0 (by simp;omega),zda0 (by walk_at "om")]
  rfl
@[irreducible] def zn7:Sp:=fun vs H Q _=>∃ (b l st:Addr) (ps:List Addr) (n m:Nat) (sd:Bool) (fs:List Fd) (rs:List (Addr×List Addr)) (xss:List (List (Int×Int×Int))) (k left:Nat),vs=[.ref b,.str (wd sd),.ref st,.int k,.int left]/\StG H b l st ps n m sd fs rs xss/\k<fs.length/\left<=othH sd n m/\∀ H',Same H H'->Q (.int (tabR sd ((zc1 sd fs xss).drop k) left)) H'
theorem zcq4 {H:Hp}{b l st:Addr}{ps:List Addr}{n m:Nat}{sd:Bool}{fs:List Fd}{rs:List (Addr×List Addr)}{xss:List (List (Int×Int×Int))}{k left:Nat}{Q:VK}{E:XK}(S:StG H b l st ps n m sd fs rs xss) (hk:k<fs.length) (hl:left<=othH sd n m) (q:∀ H',Same H H'->Q (.int (tabR sd ((zc1 sd fs xss).drop k) left)) H'):zn7 [.ref b,.str (wd sd),.ref st,.int k,.int left] H Q E:=by
 unfold zn7;exact⟨b,l,st,ps,n,m,sd,fs,rs,xss,k,left,rfl,S,hk,hl,q⟩
set_option maxHeartbeats 0 in
theorem zbc2 {f:Addr}{fd:FuncData}(F:Fun K "_law_due" "_law_due" zs2 f fd) (N:Nm mg) (zcr9:Def P w K mg base CX0 8 "_law_plans" ["_law_hosts_here","_law_many"] zg5) (zct0:Def P w K mg base CX0 2 "_law_won" ["_law_battle_here","_law_side","_law_stream_here","_law_plan"] zi6):FnOk P w K mg base CX0 9 f fd ["_law_battle_here","_law_side","_law_stream_here","_law_k","_law_left"] zn7:=by
 refine F.ok zab7 (fun vs H Q E h=>by unfold zn7 at h;obtain⟨_,_,_,_,_,_,_,_,_,_,_,_,rfl,_⟩:=h;rfl) (fun cdv A outer s H vs Q E hr h=>?_)
 unfold zn7 at h
 obtain⟨b,l,st,ps,n,m,sd,fs,rs,xss,k,left,rfl,⟨B,O,D,S,xl,ok⟩,hk,hl,q⟩:=h
 have hu:=hu40 hr
 have o2:=O.2
 obtain⟨ho,hw⟩:=zad5 O sd
 have bl:=B.len
 have sl:=S.len
 refine⟨_,(za2 (psS (i:=5) zab7.nd (zm8 (za0 (za7 (K:=K) rfl (pq 0) za3) (za0 (za7 (K:=K) rfl (pq 0) za3) (za0 (zr7 (slXK (K:=K) rfl) (za7 (K:=K) rfl (pq 0) za3) (zy2 (pq 3)) zab3) za1)))))
   (za2 (psC (i:=6) (N:=["_law_plan","_law_rest","_law_side","_law_stream_here","_law_k"]) (ks:=[none,some 5,some 1,some 2,some 3]) zab7.nd (zk2 (K:=K) rfl (pD zcr9 hr zb5 (za0 (pq 4) (za0 (pB (zp2 (K:=K) rfl) N.len_ zg0 (za0 (za7 (K:=K) rfl (pq 5) za3) za1)) za1)))) (fun cl C s3 H3 fp=>(za6 (i:=0) nb_20 rfl (by first|exact Or.inl rfl|exact Or.inr rfl))) (fun cl C s3 H3 fp=>zd5) (fun cl C s3 H3 fp=>(pD zct0 hr zb5 (za0 (pq 1) (za0 (pq 2) (za0 (zr7 (slXK (K:=K) rfl) (pq 3) (zy2 (pq 4)) zab3) (za0 (pq 0) za1)))))) (.skip (.take rfl rfl (by first|exact Or.inl rfl|exact Or.inr rfl) (.take rfl rfl (by first|exact Or.inl rfl|exact Or.inr rfl) (.take rfl rfl (by first|exact Or.inl rfl|exact Or.inr rfl) (.take rfl rfl (by first|exact Or.inl rfl|exact Or.inr rfl) .nil))))))
   (za2 (psIf (ptC (zaf3 (K:=K) rfl (by exact hu)) (pq 1) zf2) (za5 (za8 (pB (cMinK (K:=K) rfl rfl) N.min_ zbg8 (za0 (pq 6) za1)))) zb6)
   (za5 (za8 (pB (cMaxK (K:=K) rfl rfl) N.max_ zbu7 (za0 (pq 6) za1))))))),?_⟩
 refine za9 (v:=.int n) B.out rfl ?_
 refine za9 (v:=.int m) B.out rfl ?_
 refine za9 (v:=.ref l) B.out rfl ?_
 refine zaj7 (SqL.of B.lst) (fun l' H1 f1 s1 h1=>?_)
 rw[zae1 (by walk_at "om"),zde1,← List.map_drop] at h1
 refine zc7 (fun b' H2 f2 s2 h2=>?_)
 have s02:=s1.trans s2
 have B2:=(B.same s02).drop k h2 (s2 _ _ h1)
 have fl:(fs.drop k).length=fs.length - k:=zdc2
 refine za9 (v:=.ref l') h2 rfl ?_
 refine ze8 B2.lst ?_
 rw[zcy0,B2.len,fl,show ((fs.length - k:Nat):Int)=((fs.length - k - 1:Nat):Int)+1 by walk_at "om"]
 refine zad7 (by walk_at "om") (by walk_at "om") (fun r pp H3 f3 s3 R3=>?_)
 have s03:=s02.trans s3
 have sz:=zw2 (f:=fs.length - k - 1) (h:=left) (by walk_at "om") (by walk_at "om")
 have rl:=R3.len
 have pl3:(zr2 (fs.length - k - 1) left).length=(zk5 (fs.length - k - 1) left).length:=by unfold zr2;rw[zcy0]
 refine zc8 R3.out ?_
 refine zo4 (n:=(pp.map V.ref).length) (Wk.list (SqL.of R3.out)) (by rw[zcy0,sizeLine_eq];omega) (fun i=>.int (wonK sd (fs.drop k) (xss.drop k) ((zk5 (fs.length - k - 1) left).getD i []) (fs.drop k).length)) (fun _=>true) (fun j σ=>∃ t:Option V,σ=[t,some (.ref b'),some (.str (wd sd)),some (.ref st),some (.int k)]) ⟨none,rfl⟩ ?_ ?_
 ·rintro j x σ J R' S' hj sJ hx ⟨_,rfl⟩ kk _
  obtain⟨p,z,rfl,ep,ez,hp⟩:=(R3.same sJ).elt hx
  obtain⟨qq,eq,hz⟩:=zby6 ez
  rw[hz] at hp
  rw[show (zk5 (fs.length - k - 1) left).getD j []=qq by rw[zcy3,eq];rfl] at kk
  obtain⟨ql,qs⟩:=zv6 (zcy7 eq)
  refine br_T ?_
  refine zaj7 (SqL.of ((s03.trans sJ) _ _ S.out)) (fun st' J1 f4 s4 h4=>?_)
  rw[zae1 (by walk_at "om"),zde1,← List.map_drop] at h4
  have S4:=(S.same ((s03.trans sJ).trans s4)).drop k h4
  refine zbf2 (B2.same ((s3.trans sJ).trans s4)) (fun f hf=>D f (List.mem_of_mem_drop hf)) (by walk_at "om") S4 (by rw[zdc2,zdc2,xl]) (fun xs hx=>ok xs (List.mem_of_mem_drop hx)) (s4 _ _ hp) (by walk_at "om") (fun q hq=>by have:=zam8 q hq;omega) (fun J2 s5=>?_)
  walk_at "wh"
  exact kk rfl _ _ (s4.trans s5) ⟨_,rfl⟩
 intro acc H4 f4 s4 h4
 rw[ze3,zbm1 (F:=fun q=>wonK sd (fs.drop k) (xss.drop k) q (fs.drop k).length) (by rw[zcy0];omega)] at h4
 have best:=zcc5 (sd:=sd) (fs:=fs.drop k) (xss:=xss.drop k) (r:=left) (by walk_at "om")
 rw[fl] at best
 rw[zbp2] at best
 rw[fl] at h4
 have ne:(zk5 (fs.length - k - 1) left).map (fun q=>wonK sd (fs.drop k) (xss.drop k) q (fs.length - k))≠[]:=fun e=>zaz2 _ _ (List.map_eq_nil_iff.mp e)
 have lp:=List.length_pos_iff.mpr ne
 generalize (zk5 (fs.length - k - 1) left).map (fun q=>wonK sd (fs.drop k) (xss.drop k) q (fs.length - k))=ws at h4 best lp
 rw[← best] at q
 cases sd
 ·walk_at "wh"
  refine zl3 rfl ?_
  refine zbd7 (SqL.of h4) lp (fun M hM hb=>?_)
  rw[zab8 (sd:=false) hM hb]
  walk_at "wh"
  exact q _ (s03.trans s4)
 ·walk_at "wh"
  refine zw6 (by decide) ?_
  refine zbb0 (SqL.of h4) lp (fun M hM hb=>?_)
  rw[zab8 (sd:=true) hM hb]
  walk_at "wh"
  exact q _ (s03.trans s4)
@[irreducible] def zd1:Sp:=fun vs H Q _=>∃ (b l st t:Addr) (ps ts:List Addr) (n m:Nat) (sd:Bool) (fs:List Fd) (rs:List (Addr×List Addr)) (xss:List (List (Int×Int×Int))),vs=[.ref b,.str (wd sd),.ref st,.ref t]/\StG H b l st ps n m sd fs rs xss/\zd3 H t ts fs.length (othH sd n m+1) (fun k=>tabR sd ((zc1 sd fs xss).drop k))/\∀ H',Same H H'->Q (.bl true) H'
theorem zbo3 {H:Hp}{b l st t:Addr}{ps ts:List Addr}{n m:Nat}{sd:Bool}{fs:List Fd}{rs:List (Addr×List Addr)}{xss:List (List (Int×Int×Int))}{Q:VK}{E:XK}(S:StG H b l st ps n m sd fs rs xss) (G:zd3 H t ts fs.length (othH sd n m+1) (fun k=>tabR sd ((zc1 sd fs xss).drop k))) (q:∀ H',Same H H'->Q (.bl true) H'):zd1 [.ref b,.str (wd sd),.ref st,.ref t] H Q E:=by
 unfold zd1;exact⟨b,l,st,t,ps,ts,n,m,sd,fs,rs,xss,rfl,S,G,q⟩
set_option maxHeartbeats 0 in
theorem zab0 {f:Addr}{fd:FuncData}(F:Fun K "_law_table_is_so" "_law_table_is_so" ze5 f fd) (N:Nm mg) (zcw7:Def P w K mg base CX0 9 "_law_due" ["_law_battle_here","_law_side","_law_stream_here","_law_k","_law_left"] zn7) (zcs0:Def P w K mg base CX0 1 "_law_hosts" ["_law_battle_here","_law_side"] ze0) (zcv7:Def P w K mg base CX0 1 "_law_whole" ["_law_found"] zj1):FnOk P w K mg base CX0 10 f fd ["_law_battle_here","_law_side","_law_stream_here","_law_table_here"] zd1:=by
 refine F.ok zf7 (fun vs H Q E h=>by unfold zd1 at h;obtain⟨_,_,_,_,_,_,_,_,_,_,_,_,rfl,_⟩:=h;rfl) (fun cdv A outer s H vs Q E hr h=>?_)
 unfold zd1 at h
 obtain⟨b,l,st,t,ps,ts,n,m,sd,fs,rs,xss,rfl,SG,G,q⟩:=h
 obtain⟨B,O,D,S,xl,ok⟩:=SG
 have hu:=hu40 hr
 have o2:=O.2
 obtain⟨ho,hw⟩:=zad5 O sd
 have bl:=B.len
 have gl:=G.len
 refine⟨_,(za2 (psS (i:=4) zf7.nd (za7 (K:=K) rfl (pD zcs0 hr zb5 (za0 (pq 0) (za0 (pq 1) za1))) za3))
   (za2 (psIf (ptW (pwOr (zm9 (ptV (pB (zy1 (K:=K) rfl) N.isinstance_ zb8 (za0 (pq 3) (za0 (pTy N.list_ zk6) za1))))) (zac6 (ptC (zae5 (K:=K) rfl (by exact hu)) (pB (zp2 (K:=K) rfl) N.len_ zg0 (za0 (pq 3) za1)) (pB (zp2 (K:=K) rfl) N.len_ zg0 (za0 (za7 (K:=K) rfl (pq 0) za3) za1)))))) (za5 (za8 zu4)) zb6)
   (za2 (zu5 PassesOwn.never rfl (zr0 N.range_ (za0 (pB (zp2 (K:=K) rfl) N.len_ zg0 (za0 (pq 3) za1)) za1)) (za6 (i:=5) zf7.nd rfl (by first|exact Or.inl rfl|exact Or.inr rfl)) (za2 (psIf (ptW (pwOr (zm9 (ptV (pB (zy1 (K:=K) rfl) N.isinstance_ zb8 (za0 (za7 (K:=K) rfl (pq 3) (pq 5)) (za0 (pTy N.list_ zk6) za1))))) (zac6 (ptC (zae5 (K:=K) rfl (by exact hu)) (pB (zp2 (K:=K) rfl) N.len_ zg0 (za0 (za7 (K:=K) rfl (pq 3) (pq 5)) za1)) (zb4 oAdd (pq 4) za3))))) (za5 (za8 zu4)) zb6)
   (za5 (zu5 PassesOwn.never rfl (zr0 N.range_ (za0 (zb4 oAdd (pq 4) za3) za1)) (za6 (i:=6) zf7.nd rfl (by first|exact Or.inl rfl|exact Or.inr rfl)) (za2 (psS (i:=7) zf7.nd (pD zcw7 hr zb5 (za0 (pq 0) (za0 (pq 1) (za0 (pq 2) (za0 (pq 5) (za0 (pq 6) za1)))))))
   (za5 (psIf (ptW (pwOr (zm9 (ptV (pD zcv7 hr zb5 (za0 (za7 (K:=K) rfl (za7 (K:=K) rfl (pq 3) (pq 5)) (pq 6)) za1)))) (zac6 (ptC (zae5 (K:=K) rfl (by exact hu)) (za7 (K:=K) rfl (za7 (K:=K) rfl (pq 3) (pq 5)) (pq 6)) (pq 7))))) (za5 (za8 zu4)) zb6)))))))
   (za5 (za8 zu4))))),?_⟩
 refine zae3 B.out (fun p1 H1 f1 s1 h1=>?_)
 refine za9 (v:=.int (othH sd n m)) h1 rfl ?_
 refine zy8 (s1 _ _ G.out) ?_ (by rfl)
 refine zd2 (br_T ?_)
 refine ze8 (s1 _ _ G.out) ?_
 refine za9 (v:=.ref l) (s1 _ _ B.out) rfl ?_
 refine ze8 (s1 _ _ B.lst) ?_
 rw[zcy0,zcy0,gl,bl]
 refine zd2 (zl3 rfl ?_)
 refine ze8 (s1 _ _ G.out) ?_
 rw[zcy0,gl]
 refine zg4 (by decide) (by decide) (by walk_at "om") (by walk_at "om") ?_
 rw[show ((fs.length:Int) - 0).toNat=fs.length by walk_at "om"]
 refine zh7 (fun k σ I=>∃ y6 y7 y8:Option V,σ=[some (.ref b),some (.str (wd sd)),some (.ref st),some (.ref t),some (.int (othH sd n m)),y6,y7,y8]/\Same H I) ?_ ?_ ?_
 ·exact⟨_,_,_,rfl,s1⟩
 ·rintro k σ I hk ⟨y6,y7,y8,rfl,sI⟩
  have hk:k<fs.length:=hk
  rw[zdc8]
  obtain⟨r,er,hr'⟩:=(G.same sI).some hk
  have at1:atI (ts.map V.ref) (k:Int)=some (.ref r):=zc5 (by rw[zcy2,er];rfl)
  refine zb9 (v:=.ref r) (sI _ _ G.out) at1 ?_
  refine zy8 hr' ?_ (by rfl)
  refine zd2 (br_T ?_)
  refine zb9 (v:=.ref r) (sI _ _ G.out) at1 ?_
  refine ze8 hr' ?_
  rw[zn0]
  refine zd2 (zl3 (by walk_at "om") ?_)
  refine zg4 (by decide) (by decide) (by walk_at "om") (by walk_at "om") ?_
  rw[show ((othH sd n m:Int)+1 - 0).toNat=othH sd n m+1 by walk_at "om"]
  refine zh7 (fun j σ J=>∃ y7 y8:Option V,σ=[some (.ref b),some (.str (wd sd)),some (.ref st),some (.ref t),some (.int (othH sd n m)),some (.int k),y7,y8]/\Same I J) ?_ ?_ ?_
  ·exact⟨_,_,rfl,Same.refl _⟩
  ·rintro j σ J hj ⟨y7',y8',rfl,sJ⟩
   have hj:j<othH sd n m+1:=hj
   have sIJ:=sI.trans sJ
   rw[zdc8]
   refine zcq4 (k:=k) (left:=j) ⟨B.same sIJ,O,D,S.same sIJ,xl,ok⟩ hk (by walk_at "om") (fun J2 s2=>?_)
   have sJ2:=sJ.trans s2
   have e1:atI (rowV (othH sd n m+1) (tabR sd ((zc1 sd fs xss).drop k))) (j:Int)=some (.int (tabR sd ((zc1 sd fs xss).drop k) j)):=zc5 (zj0 hj)
   refine zb9 (v:=.ref r) ((sI.trans sJ2) _ _ G.out) at1 ?_
   refine zb9 (v:=.int (tabR sd ((zc1 sd fs xss).drop k) j)) (sJ2 _ _ hr') e1 ?_
   refine zby7 ?_
   refine zd2 (br_T ?_)
   refine zb9 (v:=.ref r) ((sI.trans sJ2) _ _ G.out) at1 ?_
   refine zb9 (v:=.int (tabR sd ((zc1 sd fs xss).drop k) j)) (sJ2 _ _ hr') e1 ?_
   refine zd2 (zl3 rfl ?_)
   walk_at "wh"
   exact⟨_,_,rfl,sJ2⟩
  ·rintro σ J ⟨y7',y8',rfl,sJ⟩
   walk_at "wh"
   exact⟨_,_,_,rfl,sI.trans sJ⟩
 ·rintro σ I ⟨y6,y7,y8,rfl,sI⟩
  walk_at "wh"
  exact q I sI
structure PapS (H:Hp) (p st tb:Addr) (rs:List (Addr×List Addr)) (xss:List (List (Int×Int×Int))) (qs:List Addr) (F k:Nat) (T:Nat->Nat->Int):Prop where
 out:H p=some (.tup [.ref st,.ref tb])
 stm:StW H st rs xss
 tab:zd3 H tb qs F k T
theorem PapS.same {H H':Hp}{p st tb:Addr}{rs:List (Addr×List Addr)}{xss:List (List (Int×Int×Int))}{qs:List Addr}{F k:Nat}{T:Nat->Nat->Int}(A:PapS H p st tb rs xss qs F k T) (s:Same H H'):PapS H' p st tb rs xss qs F k T:=⟨s _ _ A.out,A.stm.same s,A.tab.same s⟩
@[irreducible] def zi4:Sp:=fun vs H Q _=>∃ (b l p st tb:Addr) (ps:List Addr) (n m:Nat) (sd:Bool) (fs:List Fd) (rs:List (Addr×List Addr)) (xss:List (List (Int×Int×Int))) (qs:List Addr) (T:Nat->Nat->Int),vs=[.ref b,.str (wd sd),.ref p]/\zl4 H b l ps n m fs/\OkB n m fs/\PapS H p st tb rs xss qs fs.length (othH sd n m+1) T/\zk1 (ownH sd n m) fs.length (stmD xss)=true/\sml (stmD xss)=true/\∀ H',Same H H'->Q .non H'
theorem zas7 {H:Hp}{b l p st tb:Addr}{ps:List Addr}{n m:Nat}{sd:Bool}{fs:List Fd}{rs:List (Addr×List Addr)}{xss:List (List (Int×Int×Int))}{qs:List Addr}{T:Nat->Nat->Int}{Q:VK}{E:XK}(B:zl4 H b l ps n m fs) (O:OkB n m fs) (A:PapS H p st tb rs xss qs fs.length (othH sd n m+1) T) (hs:zk1 (ownH sd n m) fs.length (stmD xss)=true) (hm:sml (stmD xss)=true) (q:∀ H',Same H H'->Q .non H'):zi4 [.ref b,.str (wd sd),.ref p] H Q E:=by
 unfold zi4;exact⟨b,l,p,st,tb,ps,n,m,sd,fs,rs,xss,qs,T,rfl,B,O,A,hs,hm,q⟩
theorem zat6 {f:Addr}{fd:FuncData}(F:Fun K "wrong_form" "wrong_form" zp1 f fd) (N:Nm mg) (zct5:Def P w K mg base CX0 7 "is_stream" ["hosts","fields","stream"] zh9) (zcu2:Def P w K mg base CX0 3 "is_table" ["many_rows","many_numbers","rows"] zk7) (zcs1:Def P w K mg base CX0 1 "other_hosts" ["battle","side"] zd8) (zct7:Def P w K mg base CX0 1 "own_hosts" ["battle","side"] zi0):FnOk P w K mg base CX0 8 f fd ["battle","side","paper"] zi4:=by
 refine F.ok zad9 (fun vs H Q E h=>by unfold zi4 at h;obtain⟨_,_,_,_,_,_,_,_,_,_,_,_,_,_,rfl,_⟩:=h;rfl) (fun cdv A outer s H vs Q E hr h=>?_)
 unfold zi4 at h
 obtain⟨b,l,p,st,tb,ps,n,m,sd,fs,rs,xss,qs,T,rfl,B,O,PA,hs,hm,q⟩:=h
 have hu:=hu40 hr
 have bl:=B.len
 have o2:=O.2
 obtain⟨ho,hw⟩:=zad5 O sd
 refine⟨_,(za2 (psS (i:=3) zad9.nd (pB (zp2 (K:=K) rfl) N.len_ zg0 (za0 (za7 (K:=K) rfl (pq 0) za3) za1)))
   (za2 (psIf (ptW (pwOr (zm9 (ptV (pB (zy1 (K:=K) rfl) N.isinstance_ zb8 (za0 (pq 2) (za0 (pTy N.tuple_ zw0) za1))))) (zac6 (ptC (zae5 (K:=K) rfl (by exact hu)) (pB (zp2 (K:=K) rfl) N.len_ zg0 (za0 (pq 2) za1)) za3)))) (za5 (za8 (zm8 (za0 zf2 za1)))) zb6)
   (za2 (psIf (zm9 (ptV (pD zct5 hr zb5 (za0 (pD zct7 hr zb5 (za0 (pq 0) (za0 (pq 1) za1))) (za0 (pq 3) (za0 (za7 (K:=K) rfl (pq 2) za3) za1)))))) (za5 (za8 (zm8 (za0 zf2 za1)))) zb6)
   (za2 (psIf (zm9 (ptV (pD zcu2 hr zb5 (za0 (pq 3) (za0 (zb4 oAdd (pD zcs1 hr zb5 (za0 (pq 0) (za0 (pq 1) za1))) za3) (za0 (za7 (K:=K) rfl (pq 2) za3) za1)))))) (za5 (za8 (zm8 (za0 zf2 za1)))) zb6)
   (za5 (za8 zae4)))))),?_⟩
 refine za9 (v:=.ref l) B.out rfl ?_
 refine ze8 B.lst ?_
 rw[zcy0,bl]
 refine zx4 PA.out ?_
 refine zd2 (br_T ?_)
 refine zw5 PA.out ?_
 refine zd2 (zl3 rfl ?_)
 refine zag6 B.out ?_
 refine za9 (v:=.ref st) PA.out rfl ?_
 refine zam9 PA.stm.sh hm (fun H1 s1=>?_)
 rw[hs]
 refine zd2 (br_T ?_)
 refine zu9 (s1 _ _ B.out) ?_
 refine za9 (v:=.ref tb) (s1 _ _ PA.out) rfl ?_
 walk_at "wh"
 rw[show (othH sd n m:Int)+1=((othH sd n m+1:Nat):Int) by walk_at "om"]
 refine zal1 (PA.tab.same s1) (by walk_at "om") (by walk_at "om") (fun H2 s2=>?_)
 refine zd2 (br_T ?_)
 walk_at "wh"
 exact q _ (s1.trans s2)
def bndS (D T:Nat->Nat->Int) (F k c:Nat):List Int:=if k+1<F then (List.range (c+1)).map fun s=>D k s+T (k+1) (c - s) else [D k c]
@[irreducible] def zf8:Sp:=fun vs H Q _=>∃ (b l p st tb:Addr) (ps:List Addr) (n m:Nat) (sd:Bool) (fs:List Fd) (rs:List (Addr×List Addr)) (xss:List (List (Int×Int×Int))) (qs:List Addr) (T:Nat->Nat->Int),vs=[.ref b,.str (wd sd),.ref p]/\zl4 H b l ps n m fs/\OkB n m fs/\(∀ f∈fs,f.Bd n m)/\PapS H p st tb rs xss qs fs.length (othH sd n m+1) T/\xss.length=fs.length/\(∀ xs∈xss,zac1 (ownH sd n m) xs)/\(∀ k c,k<fs.length->c<=othH sd n m->∀ x∈bndS (fun k=>dueS sd (fs.getD k (.more 0 0)) (xss.getD k [])) T fs.length k c,zp8 sd (T k c) x=true)/\∀ H',Same H H'->Q .non H'
theorem zak5 {H:Hp}{b l p st tb:Addr}{ps:List Addr}{n m:Nat}{sd:Bool}{fs:List Fd}{rs:List (Addr×List Addr)}{xss:List (List (Int×Int×Int))}{qs:List Addr}{T:Nat->Nat->Int}{Q:VK}{E:XK}(B:zl4 H b l ps n m fs) (O:OkB n m fs) (D:∀ f∈fs,f.Bd n m) (A:PapS H p st tb rs xss qs fs.length (othH sd n m+1) T) (hl:xss.length=fs.length) (ok:∀ xs∈xss,zac1 (ownH sd n m) xs) (hb:∀ k c,k<fs.length->c<=othH sd n m->∀ x∈bndS (fun k=>dueS sd (fs.getD k (.more 0 0)) (xss.getD k [])) T fs.length k c,zp8 sd (T k c) x=true) (q:∀ H',Same H H'->Q .non H'):zf8 [.ref b,.str (wd sd),.ref p] H Q E:=by
 unfold zf8;exact⟨b,l,p,st,tb,ps,n,m,sd,fs,rs,xss,qs,T,rfl,B,O,D,A,hl,ok,hb,q⟩
theorem zav9 {sd:Bool}{t:Int}{ns:List Int}{k:Nat}(hk:k=ns.length):((List.range k).map fun i=>V.bl (zp8 sd t (ns.getD i 0)))=(ns.map (zp8 sd t)).map V.bl:=by
 subst hk
 apply zdd0
 intro i
 rw[zcy2,zcy2,zcy2]
 by_cases h:i<ns.length
 ·rw[zdb0 h,zcx9 h]
  simp[h]
 ·rw[zda0 (by simp;omega),zda0 (by walk_at "om")]
  rfl
set_option maxHeartbeats 0 in
theorem zaj1 {f:Addr}{fd:FuncData}(F:Fun K "wrong_number" "wrong_number" zj3 f fd) (N:Nm mg) (zcu0:Def P w K mg base CX0 1 "bounds" ["field_dues","behind","count"] zl1) (zcx2:Def P w K mg base CX0 4 "dues" ["battle","side","stream"] zx8) (zcw8:Def P w K mg base CX0 1 "keeps" ["side","number","bound"] zu6):FnOk P w K mg base CX0 5 f fd ["battle","side","paper"] zf8:=by
 refine F.ok zf9 (fun vs H Q E h=>by unfold zf8 at h;obtain⟨_,_,_,_,_,_,_,_,_,_,_,_,_,_,rfl,_⟩:=h;rfl) (fun cdv A outer s H vs Q E hr h=>?_)
 unfold zf8 at h
 obtain⟨b,l,p,st,tb,ps,n,m,sd,fs,rs,xss,qs,T,rfl,B,O,D,PA,hl,ok,hb,q⟩:=h
 have hu:=hu40 hr
 have o2:=O.2
 obtain⟨ho,hw⟩:=zad5 O sd
 have tl:=PA.tab.len
 refine⟨_,(za2 (psS (i:=3) zf9.nd (za7 (K:=K) rfl (pq 2) za3))
   (za2 (zu5 PassesOwn.never rfl (zbf3 (K:=K) rfl N.enumerate_ (za0 (pD zcx2 hr zb5 (za0 (pq 0) (za0 (pq 1) (za0 (za7 (K:=K) rfl (pq 2) za3) za1)))) za1)) (zp0 (K:=K) (n:=2) rfl rfl (zb7 (za6 (i:=4) zf9.nd rfl (by first|exact Or.inl rfl|exact Or.inr rfl)) (zb7 (za6 (i:=5) zf9.nd rfl (by first|exact Or.inl rfl|exact Or.inr rfl)) zo3))) (za2 (psS (i:=6) zf9.nd (peIf (ptC (oLtX (by exact hu)) (zb4 oAdd (pq 4) za3) (pB (zp2 (K:=K) rfl) N.len_ zg0 (za0 (pq 3) za1))) (za7 (K:=K) rfl (pq 3) (zb4 oAdd (pq 4) za3)) zae4))
   (za5 (zu5 PassesOwn.never rfl (zbf3 (K:=K) rfl N.enumerate_ (za0 (za7 (K:=K) rfl (pq 3) (pq 4)) za1)) (zp0 (K:=K) (n:=2) rfl rfl (zb7 (za6 (i:=7) zf9.nd rfl (by first|exact Or.inl rfl|exact Or.inr rfl)) (zb7 (za6 (i:=8) zf9.nd rfl (by first|exact Or.inl rfl|exact Or.inr rfl)) zo3))) (za5 (psIf (zm9 (ptV (pB (zap7 (K:=K) rfl rfl) N.all_ zad0 (za0 (zj2 (N:=["bound","side","number"]) (ks:=[none,some 1,some 8]) (zk2 (K:=K) rfl (pD zcu0 hr zb5 (za0 (pq 5) (za0 (pq 6) (za0 (pq 7) za1))))) (fun cl C s3 H3 fp=>(za6 (i:=0) nb_15 rfl (by first|exact Or.inl rfl|exact Or.inr rfl))) (fun cl C s3 H3 fp=>zd5) (fun cl C s3 H3 fp=>(pD zcw8 hr zb5 (za0 (pq 1) (za0 (pq 2) (za0 (pq 0) za1))))) (.skip (.take rfl rfl (by first|exact Or.inl rfl|exact Or.inr rfl) (.take rfl rfl (by first|exact Or.inl rfl|exact Or.inr rfl) .nil)))) za1)))) (za5 (za8 (zm8 (za0 zf2 (za0 (pq 4) (za0 (pq 7) za1)))))) zb6))))))
   (za5 (za8 zae4)))),?_⟩
 refine za9 (v:=.ref tb) PA.out rfl ?_
 refine za9 (v:=.ref st) PA.out rfl ?_
 refine zbz9 B O D PA.stm hl ok (fun r gs H1 f1 s1 G1=>?_)
 have gl:=G1.len
 refine zar3 G1.out ?_
 refine zae0 (xs:=gs.map V.ref) (fun i σ I=>∃ y5 y6 y7 y8 y9:Option V,σ=[some (.ref b),some (.str (wd sd)),some (.ref p),some (.ref tb),y5,y6,y7,y8,y9]/\Same H1 I) ?_ ?_ ?_ ?_
 ·exact⟨_,_,_,_,_,rfl,Same.refl _⟩
 ·rintro i σ I _ ⟨_,_,_,_,_,_,sI⟩
  exact SqL.of (sI _ _ G1.out)
 ·rintro i y σ I e I' hy ⟨y5,y6,y7,y8,y9,rfl,sI⟩ fe sE he
  rw[zcy2] at hy
  obtain⟨g,eg,rfl⟩:=zcy6.mp hy
  have hi:i<fs.length:=by have:=(zcy4.mp eg).1;omega
  have s1I:=sI.trans sE
  have s0I:=s1.trans s1I
  have hg:=s1I _ _ (G1.row i g eg)
  have PI:=PA.same s0I
  obtain⟨t0,et0,ht0⟩:=PI.tab.some hi
  refine zg1 he ?_
  refine ze8 PI.tab.out ?_
  rw[zcy0,tl]
  walk_at "wh"
  have inner:∀ (bv:V) (Q1:St->Hp->Prop),(bv=.non/\¬ i+1<fs.length∨∃ t1:Addr,bv=.ref t1/\i+1<fs.length/\I' t1=some (.lst (rowV (othH sd n m+1) (T (i+1)))))->True:=fun _ _ _=>trivial
  refine zp5 (fun hl1=>?_) (fun hl1=>?_)
  ·have hi1:i+1<fs.length:=by walk_at "om"
   obtain⟨t1,et1,ht1⟩:=PI.tab.some hi1
   refine zb9 (v:=.ref t1) PI.tab.out (by rw[show (i:Int)+1=((i+1:Nat):Int) by walk_at "om"];exact zc5 (by rw[zcy2,et1];rfl)) ?_
   refine zb9 (v:=.ref t0) PI.tab.out (zc5 (by rw[zcy2,et0];rfl)) ?_
   refine zar3 ht0 ?_
   refine zae0 (xs:=rowV (othH sd n m+1) (T i)) (fun c σ J=>∃ y8 y9:Option V,σ=[some (.ref b),some (.str (wd sd)),some (.ref p),some (.ref tb),some (.int i),some (.ref g),some (.ref t1),y8,y9]/\Same I' J) ?_ ?_ ?_ ?_
   ·exact⟨_,_,rfl,Same.refl _⟩
   ·rintro c σ J _ ⟨_,_,_,sJ⟩
    exact SqL.of (sJ _ _ ht0)
   ·rintro c y σ J e2 J' hy ⟨y8,y9,rfl,sJ⟩ fe2 sE2 he2
    have hc:c<othH sd n m+1:=by have:=(zcy4.mp hy).1;rwa [zn0] at this
    rw[zj0 hc] at hy
    cases hy
    have sJ2:=sJ.trans sE2
    refine zg1 he2 ?_
    refine zag5 (sJ2 _ _ hg) (sJ2 _ _ ht1) hc (by walk_at "om") (fun r3 J3 f3 s3 h3=>?_)
    refine zc8 h3 ?_
    refine zo4 (Wk.list (SqL.of h3)) (by rw[zcy0,zcy0,zda2,sizeLine_eq];omega) (fun j=>.bl (zp8 sd (T i c) (((List.range (c+1)).map fun s=>dueS sd (fs.getD i (.more 0 0)) (xss.getD i []) s+T (i+1) (c - s)).getD j 0))) (fun _=>true) (fun j σ=>∃ t:Option V,σ=[t,some (.str (wd sd)),some (.int (T i c))]) ⟨none,rfl⟩ ?_ ?_
    ·rintro j x σ J4 R' S' hj s4 hx ⟨_,rfl⟩ kk _
     rw[zcy2] at hx
     obtain⟨bd,ebd,rfl⟩:=zcy6.mp hx
     rw[show ((List.range (c+1)).map fun s=>dueS sd (fs.getD i (.more 0 0)) (xss.getD i []) s+T (i+1) (c - s)).getD j 0=bd by rw[zcy3,ebd];rfl] at kk
     refine br_T ?_
     refine zar1 ?_
     walk_at "wh"
     exact kk rfl _ _ (Same.refl _) ⟨_,rfl⟩
    intro acc J5 f5 s5 h5
    rw[ze3,zav9 (by rw[zcy0])] at h5
    refine zaa2 h5 ?_
    have all:(((List.range (c+1)).map fun s=>dueS sd (fs.getD i (.more 0 0)) (xss.getD i []) s+T (i+1) (c - s)).map (zp8 sd (T i c))).all id=true:=by
     rw[zde8,zda9]
     intro x hx
     exact hb i c hi (by walk_at "om") x (by unfold bndS;rw[if_pos hi1];exact hx)
    rw[all]
    refine zd2 (br_T ?_)
    walk_at "wh"
    exact⟨_,_,rfl,(sJ2.trans s3).trans s5⟩
   ·rintro σ J ⟨y8,y9,rfl,sJ⟩
    exact⟨_,_,_,_,_,rfl,s1I.trans sJ⟩
  ·have hi1:¬ i+1<fs.length:=by walk_at "om"
   refine zb9 (v:=.ref t0) PI.tab.out (zc5 (by rw[zcy2,et0];rfl)) ?_
   refine zar3 ht0 ?_
   refine zae0 (xs:=rowV (othH sd n m+1) (T i)) (fun c σ J=>∃ y8 y9:Option V,σ=[some (.ref b),some (.str (wd sd)),some (.ref p),some (.ref tb),some (.int i),some (.ref g),some .non,y8,y9]/\Same I' J) ?_ ?_ ?_ ?_
   ·exact⟨_,_,rfl,Same.refl _⟩
   ·rintro c σ J _ ⟨_,_,_,sJ⟩
    exact SqL.of (sJ _ _ ht0)
   ·rintro c y σ J e2 J' hy ⟨y8,y9,rfl,sJ⟩ fe2 sE2 he2
    have hc:c<othH sd n m+1:=by have:=(zcy4.mp hy).1;rwa [zn0] at this
    rw[zj0 hc] at hy
    cases hy
    have sJ2:=sJ.trans sE2
    refine zg1 he2 ?_
    refine zan7 (sJ2 _ _ hg) hc (by walk_at "om") (fun r3 J3 f3 s3 h3=>?_)
    refine zc8 h3 ?_
    refine zo4 (Wk.list (SqL.of h3)) (by rw[sizeLine_eq];simp only[zda7,List.map_nil,zdb6,zdf9];decide) (fun j=>.bl (zp8 sd (T i c) ([dueS sd (fs.getD i (.more 0 0)) (xss.getD i []) c].getD j 0))) (fun _=>true) (fun j σ=>∃ t:Option V,σ=[t,some (.str (wd sd)),some (.int (T i c))]) ⟨none,rfl⟩ ?_ ?_
    ·rintro j x σ J4 R' S' hj s4 hx ⟨_,rfl⟩ kk _
     rw[zcy2] at hx
     obtain⟨bd,ebd,rfl⟩:=zcy6.mp hx
     rw[show [dueS sd (fs.getD i (.more 0 0)) (xss.getD i []) c].getD j 0=bd by rw[zcy3,ebd];rfl] at kk
     refine br_T ?_
     refine zar1 ?_
     walk_at "wh"
     exact kk rfl _ _ (Same.refl _) ⟨_,rfl⟩
    intro acc J5 f5 s5 h5
    rw[ze3,zav9 (by rw[zcy0])] at h5
    refine zaa2 h5 ?_
    have all:([dueS sd (fs.getD i (.more 0 0)) (xss.getD i []) c].map (zp8 sd (T i c))).all id=true:=by
     rw[zde8,zda9]
     intro x hx
     exact hb i c hi (by walk_at "om") x (by unfold bndS;rw[if_neg hi1];exact hx)
    rw[all]
    refine zd2 (br_T ?_)
    walk_at "wh"
    exact⟨_,_,rfl,(sJ2.trans s3).trans s5⟩
   ·rintro σ J ⟨y8,y9,rfl,sJ⟩
    exact⟨_,_,_,_,_,rfl,s1I.trans sJ⟩
 ·rintro σ I ⟨y5,y6,y7,y8,y9,rfl,sI⟩
  walk_at "wh"
  exact q _ (s1.trans sI)
@[irreducible] def zg9:Sp:=fun vs H Q _=>∃ (b l p st tb w:Addr) (ps:List Addr) (n m:Nat) (sd:Bool) (fs:List Fd) (rs:List (Addr×List Addr)) (xss:List (List (Int×Int×Int))) (qs:List Addr) (T:Nat->Nat->Int) (w0 w1:Int),vs=[.ref b,.str (wd sd),.ref w,.ref p]/\zl4 H b l ps n m fs/\OkB n m fs/\PapS H p st tb rs xss qs fs.length (othH sd n m+1) T/\xss.length=fs.length/\(xss.getD 0 []).length<=1000/\H w=some (.tup [.int w0,.int w1])/\(-(10 ^ 200)<w0/\w0<10 ^ 200)/\(-(10 ^ 200)<w1/\w1<10 ^ 200)/\(-(10 ^ 200)<T 0 (othH sd n m)/\T 0 (othH sd n m)<10 ^ 200)/\(-(10 ^ 200)<((xss.getD 0 []).map fun z=>z.2.2).sum/\((xss.getD 0 []).map fun z=>z.2.2).sum<10 ^ 200) /\
 (zp8 sd (w0*((xss.getD 0 []).map fun z=>z.2.2).sum) (T 0 (othH sd n m)*w1)=true->∀ H',Same H H'->Q .non H')/\(zp8 sd (w0*((xss.getD 0 []).map fun z=>z.2.2).sum) (T 0 (othH sd n m)*w1)=false->∀ r H',H r=none->Same H H'->H' r=some (.tup [.str "worth"])->Q (.ref r) H')
theorem zam7 {H:Hp}{b l p st tb w:Addr}{ps:List Addr}{n m:Nat}{sd:Bool}{fs:List Fd}{rs:List (Addr×List Addr)}{xss:List (List (Int×Int×Int))}{qs:List Addr}{T:Nat->Nat->Int}{w0 w1:Int}{Q:VK}{E:XK}(B:zl4 H b l ps n m fs) (O:OkB n m fs) (A:PapS H p st tb rs xss qs fs.length (othH sd n m+1) T) (hl:xss.length=fs.length) (h0:(xss.getD 0 []).length<=1000) (hw:H w=some (.tup [.int w0,.int w1])) (b0:-(10 ^ 200)<w0/\w0<10 ^ 200) (b1:-(10 ^ 200)<w1/\w1<10 ^ 200) (b2:-(10 ^ 200)<T 0 (othH sd n m)/\T 0 (othH sd n m)<10 ^ 200) (b3:-(10 ^ 200)<((xss.getD 0 []).map fun z=>z.2.2).sum/\((xss.getD 0 []).map fun z=>z.2.2).sum<10 ^ 200) (q1:zp8 sd (w0*((xss.getD 0 []).map fun z=>z.2.2).sum) (T 0 (othH sd n m)*w1)=true->∀ H',Same H H'->Q .non H') (q2:zp8 sd (w0*((xss.getD 0 []).map fun z=>z.2.2).sum) (T 0 (othH sd n m)*w1)=false->∀ r H',H r=none->Same H H'->H' r=some (.tup [.str "worth"])->Q (.ref r) H'):zg9 [.ref b,.str (wd sd),.ref w,.ref p] H Q E:=by
 unfold zg9;exact⟨b,l,p,st,tb,w,ps,n,m,sd,fs,rs,xss,qs,T,w0,w1,rfl,B,O,A,hl,h0,hw,b0,b1,b2,b3,q1,q2⟩
set_option maxHeartbeats 0 in
theorem zam2 {f:Addr}{fd:FuncData}(F:Fun K "wrong_worth" "wrong_worth" zm5 f fd) (N:Nm mg) (zcw8:Def P w K mg base CX0 1 "keeps" ["side","number","bound"] zu6) (zcs1:Def P w K mg base CX0 1 "other_hosts" ["battle","side"] zd8) (zcu3:Def P w K mg base CX0 1 "whole_in" ["stream"] zl2):FnOk P w K mg base CX0 2 f fd ["battle","side","worth","paper"] zg9:=by
 refine F.ok zaa1 (fun vs H Q E h=>by unfold zg9 at h;obtain⟨_,_,_,_,_,_,_,_,_,_,_,_,_,_,_,_,_,rfl,_⟩:=h;rfl) (fun cdv A outer s H vs Q E hr h=>?_)
 unfold zg9 at h
 obtain⟨b,l,p,st,tb,w,ps,n,m,sd,fs,rs,xss,qs,T,w0,w1,rfl,B,O,PA,hl,h0,hw,b0,b1,b2,b3,q1,q2⟩:=h
 have hu:=hu40 hr
 have o2:=O.2
 obtain⟨t0,et0,ht0⟩:=PA.tab.some (i:=0) (by walk_at "om")
 refine⟨_,(za2 (psS (i:=4) zaa1.nd (za7 (K:=K) rfl (za7 (K:=K) rfl (za7 (K:=K) rfl (pq 3) za3) za3) (pD zcs1 hr zb5 (za0 (pq 0) (za0 (pq 1) za1)))))
   (za2 (psIf (ptV (pD zcw8 hr zb5 (za0 (pq 1) (za0 (zb4 oMul (za7 (K:=K) rfl (pq 2) za3) (pD zcu3 hr zb5 (za0 (za7 (K:=K) rfl (pq 3) za3) za1))) (za0 (zb4 oMul (pq 4) (za7 (K:=K) rfl (pq 2) za3)) za1))))) (za5 (za8 zae4)) zb6)
   (za5 (za8 (zm8 (za0 zf2 za1)))))),?_⟩
 refine za9 (v:=.ref tb) PA.out rfl ?_
 refine zb9 (v:=.ref t0) PA.tab.out (zc5 (j:=0) (by rw[zcy2,et0];rfl)) ?_
 refine zu9 B.out ?_
 refine zb9 (v:=.int (T 0 (othH sd n m))) ht0 (zc5 (zj0 (by walk_at "om"))) ?_
 refine za9 (v:=.int w0) hw rfl ?_
 refine za9 (v:=.ref st) PA.out rfl ?_
 refine zah9 PA.stm (by walk_at "om") h0 (fun H1 s1=>?_)
 refine zw9 (zz2 (by walk_at "om") (by walk_at "om") (by walk_at "om") (by walk_at "om")) ?_
 refine za9 (v:=.int w1) (s1 _ _ hw) rfl ?_
 refine zw9 (zz2 (by walk_at "om") (by walk_at "om") (by walk_at "om") (by walk_at "om")) ?_
 refine zar1 ?_
 cases ek:zp8 sd (w0*((xss.getD 0 []).map fun z=>z.2.2).sum) (T 0 (othH sd n m)*w1)
 ·walk_at "wh"
  refine br_F ?_
  refine zc7 (fun r H2 f2 s2 h2=>?_)
  walk_at "wh"
  exact q2 ek r H2 (s1.free f2) (s1.trans s2) h2
 ·walk_at "wh"
  refine br_T ?_
  walk_at "wh"
  exact q1 ek _ s1
@[irreducible] def zt2:Sp:=fun vs H Q _=>∃ (b w l p st tb:Addr) (ps:List Addr) (n m:Nat) (sd:Bool) (fs:List Fd) (rs:List (Addr×List Addr)) (xss:List (List (Int×Int×Int))) (qs:List Addr) (T:Nat->Nat->Int) (w0 w1:Int),vs=[.ref b,.str (wd sd),.ref w,.ref p]/\zl4 H b l ps n m fs/\OkB n m fs/\(∀ f∈fs,f.Bd n m)/\PapS H p st tb rs xss qs fs.length (othH sd n m+1) T/\zk1 (ownH sd n m) fs.length (stmD xss)=true/\sml (stmD xss)=true/\xss.length=fs.length/\(∀ xs∈xss,zac1 (ownH sd n m) xs)/\(∀ k c,k<fs.length->c<=othH sd n m->∀ x∈bndS (fun k=>dueS sd (fs.getD k (.more 0 0)) (xss.getD k [])) T fs.length k c,zp8 sd (T k c) x=true) /\
   H w=some (.tup [.int w0,.int w1])/\(-(10 ^ 200)<w0/\w0<10 ^ 200)/\(-(10 ^ 200)<w1/\w1<10 ^ 200)/\(-(10 ^ 200)<T 0 (othH sd n m)/\T 0 (othH sd n m)<10 ^ 200)/\(-(10 ^ 200)<((xss.getD 0 []).map fun z=>z.2.2).sum/\((xss.getD 0 []).map fun z=>z.2.2).sum<10 ^ 200) /\
   (zp8 sd (w0*((xss.getD 0 []).map fun z=>z.2.2).sum) (T 0 (othH sd n m)*w1)=true->∀ H',Same H H'->Q .non H')/\(zp8 sd (w0*((xss.getD 0 []).map fun z=>z.2.2).sum) (T 0 (othH sd n m)*w1)=false->∀ r H',H r=none->Same H H'->H' r=some (.tup [.str "worth"])->Q (.ref r) H')
theorem zaz9 {H:Hp}{b l p st tb w:Addr}{ps:List Addr}{n m:Nat}{sd:Bool}{fs:List Fd}{rs:List (Addr×List Addr)}{xss:List (List (Int×Int×Int))}{qs:List Addr}{T:Nat->Nat->Int}{w0 w1:Int}{Q:VK}{E:XK}(B:zl4 H b l ps n m fs) (O:OkB n m fs) (D:∀ f∈fs,f.Bd n m) (A:PapS H p st tb rs xss qs fs.length (othH sd n m+1) T) (hs:zk1 (ownH sd n m) fs.length (stmD xss)=true) (hm:sml (stmD xss)=true) (hl:xss.length=fs.length) (ok:∀ xs∈xss,zac1 (ownH sd n m) xs) (hb:∀ k c,k<fs.length->c<=othH sd n m->∀ x∈bndS (fun k=>dueS sd (fs.getD k (.more 0 0)) (xss.getD k [])) T fs.length k c,zp8 sd (T k c) x=true)
  (hw:H w=some (.tup [.int w0,.int w1])) (b0:-(10 ^ 200)<w0/\w0<10 ^ 200) (b1:-(10 ^ 200)<w1/\w1<10 ^ 200) (b2:-(10 ^ 200)<T 0 (othH sd n m)/\T 0 (othH sd n m)<10 ^ 200) (b3:-(10 ^ 200)<((xss.getD 0 []).map fun z=>z.2.2).sum/\((xss.getD 0 []).map fun z=>z.2.2).sum<10 ^ 200)
  (q1:zp8 sd (w0*((xss.getD 0 []).map fun z=>z.2.2).sum) (T 0 (othH sd n m)*w1)=true->∀ H',Same H H'->Q .non H') (q2:zp8 sd (w0*((xss.getD 0 []).map fun z=>z.2.2).sum) (T 0 (othH sd n m)*w1)=false->∀ r H',H r=none->Same H H'->H' r=some (.tup [.str "worth"])->Q (.ref r) H'):zt2 [.ref b,.str (wd sd),.ref w,.ref p] H Q E:=by
 unfold zt2;exact⟨b,w,l,p,st,tb,ps,n,m,sd,fs,rs,xss,qs,T,w0,w1,rfl,B,O,D,A,hs,hm,hl,ok,hb,hw,b0,b1,b2,b3,q1,q2⟩
set_option maxHeartbeats 0 in
theorem zbp0 {f:Addr}{fd:FuncData}(F:Fun K "judged" "judged" zz3 f fd) (N:Nm mg) (zcs9:Def P w K mg base CX0 6 "look_battle" ["battle"] zf3) (zct6:Def P w K mg base CX0 1 "look_side" ["side"] zi1) (zcv8:Def P w K mg base CX0 8 "wrong_form" ["battle","side","paper"] zi4) (zcu8:Def P w K mg base CX0 5 "wrong_number" ["battle","side","paper"] zf8) (zcv2:Def P w K mg base CX0 2 "wrong_worth" ["battle","side","worth","paper"] zg9):FnOk P w K mg base CX0 9 f fd ["battle","side","worth","paper"] zt2:=by
 refine F.ok zac9 (fun vs H Q E h=>by unfold zt2 at h;obtain⟨_,_,_,_,_,_,_,_,_,_,_,_,_,_,_,_,_,rfl,_⟩:=h;rfl) (fun cdv A outer s H vs Q E hr h=>?_)
 unfold zt2 at h
 obtain⟨b,w,l,p,st,tb,ps,n,m,sd,fs,rs,xss,qs,T,w0,w1,rfl,B,O,D,PA,hs,hm,hl,ok,hb,hw,b0,b1,b2,b3,q1,q2⟩:=h
 have hu:=hu40 hr
 refine⟨_,(za2 (ze7 (pD zcs9 hr zb5 (za0 (pq 0) za1)))
   (za2 (ze7 (pD zct6 hr zb5 (za0 (pq 1) za1)))
   (za2 (psS (i:=4) zac9.nd (pD zcv8 hr zb5 (za0 (pq 0) (za0 (pq 1) (za0 (pq 3) za1)))))
   (za2 (zad6 (psIf (ptC oIsX (pq 4) zae4) (za5 (psS (i:=4) zac9.nd (pD zcu8 hr zb5 (za0 (pq 0) (za0 (pq 1) (za0 (pq 3) za1)))))) zb6))
   (za2 (zad6 (psIf (ptC oIsX (pq 4) zae4) (za5 (psS (i:=4) zac9.nd (pD zcv2 hr zb5 (za0 (pq 0) (za0 (pq 1) (za0 (pq 2) (za0 (pq 3) za1))))))) zb6))
   (za5 (za8 (pq 4)))))))),?_⟩
 ·have o2:=O.2
  refine zaa6 B O (fun H1 s1=>?_)
  refine zag7 (fun H2 s2=>?_)
  have s02:=s1.trans s2
  refine zas7 (B.same s02) O (PA.same s02) hs hm (fun H3 s3=>?_)
  have s03:=s02.trans s3
  refine zan1 (fun σ J=>σ=[some (.ref b),some (.str (wd sd)),some (.ref w),some (.ref p),some .non]/\Same H J) ?_ ?_
  ·walk_at "wh"
   first|refine br_T ?_|refine zl3 rfl ?_
   refine zak5 (B.same s03) O D (PA.same s03) hl ok hb (fun H4 s4=>?_)
   walk_at "wh"
   exact⟨rfl,s03.trans s4⟩
  rintro σ H4 ⟨rfl,s04⟩
  refine zan1 (fun σ J=>(σ=[some (.ref b),some (.str (wd sd)),some (.ref w),some (.ref p),some .non]/\Q .non J)∨∃ r,σ=[some (.ref b),some (.str (wd sd)),some (.ref w),some (.ref p),some (.ref r)]/\Q (.ref r) J) ?_ ?_
  ·walk_at "wh"
   first|refine br_T ?_|refine zl3 rfl ?_
   refine zam7 (B.same s04) O (PA.same s04) hl (by
    obtain⟨x0,ex0⟩:∃ x,xss[0]?=some x:=⟨_,zcx9 (by walk_at "om")⟩
    rw[show xss.getD 0 []=x0 by rw[zcy3,ex0];rfl]
    exact (ok x0 (zcy7 ex0)).1) (s04 _ _ hw) b0 b1 b2 b3 (fun ek H5 s5=>?_) (fun ek r H5 f5 s5 h5=>?_)
   ·walk_at "wh"
    exact .inl ⟨rfl,q1 ek _ (s04.trans s5)⟩
   ·walk_at "wh"
    exact .inr ⟨r,rfl,q2 ek r _ (s04.free f5) (s04.trans s5) h5⟩
  rintro σ H5 (⟨rfl,q⟩|⟨r,rfl,q⟩)
  ·walk_at "wh"
   exact q
  ·walk_at "wh"
   exact q
theorem zah2 (sd:Bool) (fs:List Fd) (xss:List (List (Int×Int×Int))):(zc1 sd fs xss).length=fs.length:=by unfold zc1;rw[zcy0,zda2]
theorem zt9 {sd:Bool}{fs:List Fd}{xss:List (List (Int×Int×Int))}{k:Nat}(hk:k<fs.length):(zc1 sd fs xss).drop k=dueS sd (fs.getD k (.more 0 0)) (xss.getD k []) :: (zc1 sd fs xss).drop (k+1):=by
 rw[zdd8 (by rw[zah2];exact hk)]
 congr 1
 unfold zc1
 rw[zdg4,List.getElem_range]
theorem zce3 {sd:Bool}{fs:List Fd}{xss:List (List (Int×Int×Int))}{k c:Nat}{T:Nat->Nat->Int}(hk:k<fs.length) (hT:k+1<fs.length->∀ c',T (k+1) c'=tabR sd ((zc1 sd fs xss).drop (k+1)) c'):bndS (fun k=>dueS sd (fs.getD k (.more 0 0)) (xss.getD k [])) T fs.length k c=zba1 sd ((zc1 sd fs xss).drop k) c:=by
 unfold bndS
 rw[zt9 hk]
 by_cases h:k+1<fs.length
 ·rw[if_pos h]
  have e:∀ s,T (k+1) (c - s)=tabR sd (dueS sd (fs.getD (k+1) (.more 0 0)) (xss.getD (k+1) []) :: (zc1 sd fs xss).drop (k+1+1)) (c - s):=fun s=>by rw[hT h,zt9 h]
  rw[zt9 h]
  exact zda4 fun s _=>by rw[e]
 ·rw[if_neg h,zdd7 (by rw[zah2];omega)]
  rfl
theorem zco9 {sd:Bool}{fs:List Fd}{xss:List (List (Int×Int×Int))}{k:Nat}(hk:k<fs.length):(zc1 sd fs xss).drop k≠[]:=by rw[zt9 hk];simp
theorem zak3 {α:Type}(c:Int):∀ xs:List α,(xs.map fun _=>c).sum=(xs.length:Int)*c
 | []=>by simp
 | x :: xs=>by
  rw[zda7,zdc7,zak3 c xs,zdb6]
  push_cast
  rw[Int.add_mul,Int.one_mul,Int.add_comm]
theorem zbh2 {ms:List (List Int×Int)}{h:Int}{f:Nat}(O:OkS ms h f) (hl:ms.length<=5) (hw:∀ x∈ms,x.2<=10 ^ 20):1<=zo2 ms/\zo2 ms<=5*10 ^ 20:=by
 have ne:=O.ne
 have h1:=zaz6 (f:=fun _:List Int×Int=>(1:Int)) (g:=fun x=>x.2) (xs:=ms) fun x hx=>(O.all x hx).2.2.2
 have h2:=zaz6 (f:=fun x:List Int×Int=>x.2) (g:=fun _=>(10:Int) ^ 20) (xs:=ms) hw
 rw[zak3] at h1 h2
 unfold zo2
 exact⟨by walk_at "om",by walk_at "om"⟩
theorem zax3 {ms:List (List Int×Int)}{h:Int}{f i:Nat}{xs:List (Int×Int×Int)}(O:OkS ms h f) (hi:i<f) (R:zad3 ms i xs):(xs.map fun z=>z.2.2).sum=zo2 ms:=by
 have e1:(xs.map fun z=>z.2.2)=(xs.map keyT).map fun k=>atG (flw ms i) k*(fun _=>(1:Int)) k:=by
  rw[zda5]
  exact zda4 fun z hz=>by
   show z.2.2=atG (flw ms i) (keyT z)*1
   rw[← (zw4 O hi R hz).2.2.1,Int.mul_one]
 rw[e1,zar0 R.1.1 (fun _=>(1:Int)) fun z hz=>(R.2.1 _).mpr ((zq8 _).2 _ |>.mpr (zda1.mpr ⟨z,hz,rfl⟩))]
 unfold flw zo2
 rw[zda5]
 exact congrArg List.sum (zda4 fun x _=>Int.mul_one _)
theorem zcc4 {ms:List (List Int×Int)}{h:Nat}{f i:Nat}{xs:List (Int×Int×Int)}(O:OkS ms h f) (hl:ms.length<=5) (hw:∀ x∈ms,x.2<=10 ^ 20) (hi:i<f) (R:zad3 ms i xs) (hx:xs.length<=ms.length):zac1 h xs:=by
 refine⟨by walk_at "om",fun z hz=>?_⟩
 obtain⟨x,hx,e1,e2⟩:=zas2 R hz
 obtain⟨nn,xl,xs',_⟩:=O.all x hx
 obtain⟨a,b,c,d⟩:=zw4 O hi R hz
 have m1:=(zt7 nn).1 (x.1.getD i 0) (by
  rw[zcy3,zcx9 (by walk_at "om")]
  exact zde4 _)
 have m2:z.2.2<=zo2 ms:=by
  rw[← zax3 O hi R]
  exact (zt7 (ns:=xs.map fun z=>z.2.2) (fun y hy=>by
   obtain⟨z',hz',rfl⟩:=zda1.mp hy
   have:=(zw4 O hi R hz').2.2.2
   omega)).1 _ (zda1.mpr ⟨z,hz,rfl⟩)
 have:=zbh2 O hl hw
 exact⟨⟨a,by walk_at "om"⟩,by walk_at "om",by walk_at "om"⟩
theorem zcc9 {ms:List (List Int×Int)}{h:Nat}{f:Nat}{xss:List (List (Int×Int×Int))}(O:OkS ms h f) (hl:ms.length<=5) (hw:∀ x∈ms,x.2<=10 ^ 20) (S:zbl8 ms f xss):∀ xs∈xss,zac1 h xs/\xs.length<64:=fun xs hx=>by
 obtain⟨i,ei⟩:=zdb9 hx
 have:=(zcy4.mp ei).1
 have sl:=S.1
 obtain⟨R,l⟩:=S.2 i xs ei
 exact⟨zcc4 O hl hw (by walk_at "om") R l,by walk_at "om"⟩
theorem due_bd {ms:List (List Int×Int)}{n m:Nat}{f i c:Nat}{sd:Bool}{fd:Fd}{xs:List (Int×Int×Int)}(O:OkS ms (ownH sd n m:Nat) f) (hl:ms.length<=5) (hw:∀ x∈ms,x.2<=10 ^ 20) (ok:fd.Ok) (bd:fd.Bd n m) (hi:i<f) (R:zad3 ms i xs) (hc:c<=othH sd n m):-(10 ^ 50)<=dueS sd fd xs c/\dueS sd fd xs c<=10 ^ 50:=by
 rw[due_eq O hi R]
 have each:∀ x∈ms,-(2*10 ^ 48)<=x.2*wonS sd fd (x.1.getD i 0).toNat c/\x.2*wonS sd fd (x.1.getD i 0).toNat c<=2*10 ^ 48:=fun x hx=>by
  obtain⟨nn,xl,xs',x1⟩:=O.all x hx
  have x2:=hw x hx
  have m1:=(zt7 nn).1 (x.1.getD i 0) (by
   rw[zcy3,zcx9 (by walk_at "om")]
   exact zde4 _)
  have wb:-(2*10 ^ 28)<=wonS sd fd (x.1.getD i 0).toNat c/\wonS sd fd (x.1.getD i 0).toNat c<=2*10 ^ 28:=by
   cases sd
   ·have xs':x.1.sum=(n:Int):=xs'
    have hc:c<=m:=hc
    exact Fd.won_bd ok bd (by walk_at "om") hc
   ·have xs':x.1.sum=(m:Int):=xs'
    have hc:c<=n:=hc
    exact Fd.won_bd ok bd hc (by walk_at "om")
  generalize wonS sd fd (x.1.getD i 0).toNat c=y at wb ⊢
  have p1:=zdf3 wb.2 (show 0<=x.2 by walk_at "om")
  have p2:=zdf3 wb.1 (show 0<=x.2 by walk_at "om")
  generalize x.2*y=z at p1 p2 ⊢
  exact⟨by walk_at "om",by walk_at "om"⟩
 have h1:=zaz6 (f:=fun _:List Int×Int=>-(2*(10:Int) ^ 48)) (xs:=ms) fun x hx=>(each x hx).1
 have h2:=zaz6 (g:=fun _:List Int×Int=>2*(10:Int) ^ 48) (xs:=ms) fun x hx=>(each x hx).2
 rw[zak3] at h1 h2
 exact⟨by walk_at "om",by walk_at "om"⟩
theorem zci4 {sd:Bool}{C:Nat}{B:Int}(hB:0<=B):∀ {ds:List (Nat->Int)},(∀ d∈ds,∀ c,c<=C->-B<=d c/\d c<=B)->∀ r,r<=C->-((ds.length:Int)*B)<=tabR sd ds r/\tabR sd ds r<=(ds.length:Int)*B
 | [],_,r,_=>by
  show -(((0:Nat):Int)*B)<=0/\0<=((0:Nat):Int)*B
  simp
 | [d],h,r,hr=>by
  have:=h d (.head _) r hr
  show -(((1:Nat):Int)*B)<=d r/\d r<=((1:Nat):Int)*B
  simpa using this
 | d :: e :: ds,h,r,hr=>by
  have ih:=zci4 (sd:=sd) hB (ds:=e :: ds) (fun x hx=>h x (.tail _ hx))
  obtain⟨s,hs,es⟩:=zda1.mp (zv8 sd (xs:=(List.range (r+1)).map fun s=>d s+tabR sd (e :: ds) (r - s)) (by simp))
  have hs:=zdc0.mp hs
  show -(((d :: e :: ds).length:Int)*B)<=optL sd ((List.range (r+1)).map fun s=>d s+tabR sd (e :: ds) (r - s))/\optL sd ((List.range (r+1)).map fun s=>d s+tabR sd (e :: ds) (r - s))<=((d :: e :: ds).length:Int)*B
  rw[← es]
  have a1:=h d (.head _) s (by walk_at "om")
  have a2:=ih (r - s) (by walk_at "om")
  have e3:((d :: e :: ds).length:Int)*B=((e :: ds).length:Int)*B+B:=by
   rw[zdb6]
   push_cast
   rw[Int.add_mul,Int.one_mul]
  rw[e3]
  exact⟨by walk_at "om",by walk_at "om"⟩
theorem top_bd {ms:List (List Int×Int)}{n m:Nat}{sd:Bool}{fs:List Fd}{xss:List (List (Int×Int×Int))}(O:OkS ms (ownH sd n m:Nat) fs.length) (hl:ms.length<=5) (hw:∀ x∈ms,x.2<=10 ^ 20) (S:zbl8 ms fs.length xss) (ok:∀ f∈fs,f.Ok) (bd:∀ f∈fs,f.Bd n m) (h5:fs.length<=5):-(10 ^ 60)<=tabR sd (zc1 sd fs xss) (othH sd n m)/\tabR sd (zc1 sd fs xss) (othH sd n m)<=10 ^ 60:=by
 have t:=zci4 (sd:=sd) (C:=othH sd n m) (B:=10 ^ 50) (by decide) (ds:=zc1 sd fs xss) (fun d hd c hc=>by
  unfold zc1 at hd
  obtain⟨k,hk,rfl⟩:=zda1.mp hd
  have hk:=zdc0.mp hk
  have g1:fs.getD k (.more 0 0)∈fs:=by rw[zcy3,zcx9 hk];exact zde4 _
  have g2:xss[k]?=some (xss.getD k []):=by rw[zcy3,zcx9 (by rw[S.1];exact hk)];rfl
  exact due_bd O hl hw (ok _ g1) (bd _ g1) hk (S.2 k _ g2).1 hc) (othH sd n m) (zcz6 _)
 rw[zah2] at t
 exact⟨by walk_at "om",by walk_at "om"⟩
theorem lg_pos {t b:Int}(hb:0<b):0<lg t b:=by
 have:=zap1 (t:=t) (b:=b) (by walk_at "om")
 unfold lg;rw[if_neg (by walk_at "om")];exact this
theorem zaw1 (t b:Int):lowT t b*b=t*lowB t b:=by
 have e1:=zbk1 t b
 have e2:=zat1 t b
 have e3:lowT t b*(lg t b*lowB t b)=(lg t b*lowT t b)*lowB t b:=by
  rw[← Int.mul_assoc,Int.mul_comm (lowT t b)]
 rw[← e1,← e2] at e3
 exact e3
theorem zcj8 {t b u c:Int}(hb:0<b) (hc:0<c):(lowT u c*b<=t*lowB u c↔u*b<=t*c)/\(t*lowB u c<=lowT u c*b↔t*c<=u*b):=by
 have g:=lg_pos (t:=u) hc
 have e1:lg u c*(lowT u c*b)=u*b:=by rw[← Int.mul_assoc,← zbk1]
 have e2:lg u c*(t*lowB u c)=t*c:=by rw[Int.mul_left_comm,← zat1]
 rw[← e1,← e2]
 exact⟨(Int.mul_le_mul_left g).symm,(Int.mul_le_mul_left g).symm⟩
theorem low_bd {t b:Int}(ht:-(10 ^ 60)<=t/\t<=10 ^ 60) (hb:1<=b/\b<=5*10 ^ 20):(-(10 ^ 200)<lowT t b/\lowT t b<10 ^ 200)/\(-(10 ^ 200)<lowB t b/\lowB t b<10 ^ 200):=by
 have h1:=zbc8 t b
 have h2:=zbd4 t b
 have p:(10:Int) ^ 60<10 ^ 200:=by decide
 have p2:5*(10:Int) ^ 20<10 ^ 200:=by decide
 generalize (10:Int) ^ 200=N at p p2 ⊢
 exact⟨⟨by walk_at "om",by walk_at "om"⟩,by walk_at "om",by walk_at "om"⟩
theorem zbg1 {xs:List V}{x:V}{k:Nat}(e:xs[k]?=some x):cutV xs (some (k:Int)) (some ((k:Int)+1))=[x]:=by
 have hk:=(zcy4.mp e).1
 unfold cutV
 rw[HT.sIx_nat,show (k:Int)+1=((k+1:Nat):Int) by walk_at "om",HT.sIx_nat,Nat.min_eq_left (by walk_at "om"),Nat.min_eq_left (by walk_at "om"),show k+1 - k=1 by walk_at "om"]
 rw[zdd8 hk,(zcy4.mp e).2]
 rfl
theorem zcf5 (sd:Bool) (f:Fd) (xs:List (Int×Int×Int)) (c:Nat):wonK sd [f] [xs] [c] 1=dueS sd f xs c:=by
 show ([dueS sd f xs c]:List Int).sum=_
 simp
@[irreducible] def zf6:Sp:=fun vs H Q _=>∃ (b l st:Addr) (ps:List Addr) (n m:Nat) (sd:Bool) (fs:List Fd) (rs:List (Addr×List Addr)) (xss:List (List (Int×Int×Int))),vs=[.ref b,.str (wd sd),.ref st]/\StG H b l st ps n m sd fs rs xss/\∀ t ts H',Same H H'->zd3 H' t ts fs.length (othH sd n m+1) (fun k=>tabR sd ((zc1 sd fs xss).drop k))->Q (.ref t) H'
theorem zbz0 {H:Hp}{b l st:Addr}{ps:List Addr}{n m:Nat}{sd:Bool}{fs:List Fd}{rs:List (Addr×List Addr)}{xss:List (List (Int×Int×Int))}{Q:VK}{E:XK}(S:StG H b l st ps n m sd fs rs xss) (q:∀ t ts H',Same H H'->zd3 H' t ts fs.length (othH sd n m+1) (fun k=>tabR sd ((zc1 sd fs xss).drop k))->Q (.ref t) H'):zf6 [.ref b,.str (wd sd),.ref st] H Q E:=by
 unfold zf6;exact⟨b,l,st,ps,n,m,sd,fs,rs,xss,rfl,S,q⟩
theorem zcn6 {n i:Nat}{v:V}(h:(((List.range n).map fun i=>V.int ((i:Nat):Int)).reverse)[i]?=some v):i<n/\v=.int ((n - 1 - i:Nat):Int):=by
 have hi:=(zcy4.mp h).1
 rw[zdd4,zcy0,zda2] at hi
 rw[zdf8 (by rw[zcy0,zda2];exact hi),zcy2,zcy0,zda2,zdb0 (by walk_at "om")] at h
 cases h
 exact⟨hi,rfl⟩
theorem zbr7 {H:Hp}{t t' r:Addr}{ts:List Addr}{i w:Nat}{g g':Nat->Nat->Int}(G:zd3 H t ts i w g) (h:H t'=some (.lst ([.ref r]++ts.map V.ref))) (hr:H r=some (.lst (rowV w (g' 0)))) (e:∀ j,g' (j+1)=g j):zd3 H t' (r :: ts) (i+1) w g':=by
 refine⟨h,by rw[zdb6,G.len],fun j p ep=>?_⟩
 cases j with
 | zero=>cases ep;exact hr
 | succ j=>rw[e];exact G.row j p ep
set_option maxHeartbeats 0 in
theorem zai8 {f:Addr}{fd:FuncData}(F:Fun K "_law_by_left" "_law_by_left" zj4 f fd) (N:Nm mg) (zcs0:Def P w K mg base CX0 1 "_law_hosts" ["_law_battle_here","_law_side"] ze0) (zct0:Def P w K mg base CX0 2 "_law_won" ["_law_battle_here","_law_side","_law_stream_here","_law_plan"] zi6):FnOk P w K mg base CX0 3 f fd ["_law_battle_here","_law_side","_law_stream_here"] zf6:=by
 refine F.ok zc6 (fun vs H Q E h=>by unfold zf6 at h;obtain⟨_,_,_,_,_,_,_,_,_,_,rfl,_⟩:=h;rfl) (fun cdv A outer s H vs Q E hr h=>?_)
 unfold zf6 at h
 obtain⟨b,l,st,ps,n,m,sd,fs,rs,xss,rfl,⟨B,O,D,S,xl,ok⟩,q⟩:=h
 have hu:=hu40 hr
 have o2:=O.2
 obtain⟨ho,hw⟩:=zad5 O sd
 have bl:=B.len
 have sl:=S.len
 refine⟨_,(za2 (psS (i:=3) zc6.nd (za7 (K:=K) rfl (pD zcs0 hr zb5 (za0 (pq 0) (za0 (pq 1) za1))) za3))
   (za2 (psS (i:=4) zc6.nd (zr9 za1))
   (za2 (zu5 PassesOwn.never rfl (zk2 (K:=K) rfl (peRv (K:=K) rfl (peLRng N.list_ N.range_ (za0 (pB (zp2 (K:=K) rfl) N.len_ zg0 (za0 (za7 (K:=K) rfl (pq 0) za3) za1)) za1)))) (za6 (i:=5) zc6.nd rfl (by first|exact Or.inl rfl|exact Or.inr rfl)) (za2 (psS (i:=6) zc6.nd (zm8 (za0 (za7 (K:=K) rfl (pq 0) za3) (za0 (za7 (K:=K) rfl (pq 0) za3) (za0 (zr7 (slXK (K:=K) rfl) (za7 (K:=K) rfl (pq 0) za3) (zy2 (pq 5)) (zy2 (zb4 oAdd (pq 5) za3))) za1)))))
   (za2 (psS (i:=7) zc6.nd (zj2 (N:=["_law_y","_law_rest","_law_side","_law_stream_here","_law_k"]) (ks:=[none,some 6,some 1,some 2,some 5]) (zr0 N.range_ (za0 (zb4 oAdd (pq 3) za3) za1)) (fun cl C s3 H3 fp=>(za6 (i:=0) nb_21 rfl (by first|exact Or.inl rfl|exact Or.inr rfl))) (fun cl C s3 H3 fp=>zd5) (fun cl C s3 H3 fp=>(pD zct0 hr zb5 (za0 (pq 1) (za0 (pq 2) (za0 (zr7 (slXK (K:=K) rfl) (pq 3) (zy2 (pq 4)) (zy2 (zb4 oAdd (pq 4) za3))) (za0 (zr9 (za0 (pq 0) za1)) za1)))))) (.skip (.take rfl rfl (by first|exact Or.inl rfl|exact Or.inr rfl) (.take rfl rfl (by first|exact Or.inl rfl|exact Or.inr rfl) (.take rfl rfl (by first|exact Or.inl rfl|exact Or.inr rfl) (.take rfl rfl (by first|exact Or.inl rfl|exact Or.inr rfl) .nil)))))))
   (za2 (psS (i:=8) zc6.nd (pT (zbg6 (K:=K) rfl) N.list_ zk6 (za0 (pq 7) za1)))
   (za2 (zad6 (psIf (ptC (zae5 (K:=K) rfl (by exact hu)) (pq 4) (zr9 za1)) (za2 (psS (i:=8) zc6.nd (zr9 za1))
   (za5 (zu5 PassesOwn.never rfl (zr0 N.range_ (za0 (zb4 oAdd (pq 3) za3) za1)) (za6 (i:=9) zc6.nd rfl (by first|exact Or.inl rfl|exact Or.inr rfl)) (za2 (psC (i:=10) (N:=["_law_y","_law_here","_law_found","_law_left"]) (ks:=[none,some 7,some 4,some 9]) zc6.nd (zr0 N.range_ (za0 (zb4 oAdd (pq 9) za3) za1)) (fun cl C s3 H3 fp=>(za6 (i:=0) nb_22 rfl (by first|exact Or.inl rfl|exact Or.inr rfl))) (fun cl C s3 H3 fp=>zd5) (fun cl C s3 H3 fp=>(zb4 oAdd (za7 (K:=K) rfl (pq 1) (pq 0)) (za7 (K:=K) rfl (za7 (K:=K) rfl (pq 2) za3) (zb4 oSub (pq 3) (pq 0))))) (.skip (.take rfl rfl (by first|exact Or.inl rfl|exact Or.inr rfl) (.take rfl rfl (by first|exact Or.inl rfl|exact Or.inr rfl) (.take rfl rfl (by first|exact Or.inl rfl|exact Or.inr rfl) .nil)))))
   (za5 (ze7 (zh8 (pq 8) (za0 (za7 (K:=K) rfl (zr9 (za0 (pB (cMaxK (K:=K) rfl rfl) N.max_ zbu7 (za0 (pq 10) za1)) (za0 (pB (cMinK (K:=K) rfl rfl) N.min_ zbg8 (za0 (pq 10) za1)) za1))) (pT cInt N.int_ zaj6 (za0 (peC (zaf3 (K:=K) rfl (by exact hu)) (pq 1) zf2) za1))) za1)))))))) zb6))
   (za5 (psS (i:=4) zc6.nd (zb4 oAdd (zr9 (za0 (pq 8) za1)) (pq 4)))))))))
   (za5 (za8 (pq 4)))))),?_⟩
 refine zae3 B.out (fun p1 H1 f1 s1 h1=>?_)
 refine za9 (v:=.int (othH sd n m)) h1 rfl ?_
 refine ze6 (fun fo H2 f2 s2 h2=>?_)
 have s02:=s1.trans s2
 refine za9 (v:=.ref l) (s02 _ _ B.out) rfl ?_
 refine ze8 (s02 _ _ B.lst) ?_
 rw[zcy0,bl]
 refine zcq6 (by walk_at "om") (by walk_at "om") (fun q3 H3 f3 s3 h3=>?_)
 rw[zde1] at h3
 refine rv_rd (SqL.of h3) (fun q4 H4 f4 s4 h4=>?_)
 have s04:=(s02.trans s3).trans s4
 have ll:(((List.range fs.length).map fun i=>V.int ((i:Nat):Int)).reverse).length=fs.length:=by rw[zdd4,zcy0,zda2]
 refine zc8 h4 ?_
 refine zt4 (xs:=((List.range fs.length).map fun i=>V.int ((i:Nat):Int)).reverse) (fun i σ I=>∃ (y6 y7 y8 y9 y10 y11:Option V) (t:Addr) (ts:List Addr),σ=[some (.ref b),some (.str (wd sd)),some (.ref st),some (.int (othH sd n m)),some (.ref t),y6,y7,y8,y9,y10,y11]/\i<=fs.length/\Same H4 I/\zd3 I t ts i (othH sd n m+1) (fun j=>tabR sd ((zc1 sd fs xss).drop (fs.length - i+j)))) ?_ ?_ ?_ ?_
 ·exact⟨_,_,_,_,_,_,fo,[],rfl,zda6 _,Same.refl _,(s3.trans s4) _ _ h2,rfl,fun j p e=>by simp at e⟩
 ·rintro i σ I _ ⟨_,_,_,_,_,_,_,_,_,_,sI,_⟩
  exact SqL.of (sI _ _ h4)
 ·rintro i v σ I hv ⟨y6,y7,y8,y9,y10,y11,t,ts,rfl,_,sI,G⟩
  obtain⟨hi,rfl⟩:=zcn6 hv
  obtain⟨k,ek⟩:∃ k:Nat,fs.length - 1 - i=k:=⟨_,rfl⟩
  rw[ek]
  have hk:k<fs.length:=by walk_at "om"
  have s0I:=s04.trans sI
  obtain⟨p,ep⟩:∃ p,ps[k]?=some p:=⟨_,zcx9 (by walk_at "om")⟩
  obtain⟨f,ef⟩:∃ f,fs[k]?=some f:=⟨_,zcx9 (by walk_at "om")⟩
  obtain⟨r,er⟩:∃ r,rs[k]?=some r:=⟨_,zcx9 (by walk_at "om")⟩
  obtain⟨xs,ex⟩:∃ xs,xss[k]?=some xs:=⟨_,zcx9 (by walk_at "om")⟩
  obtain⟨F0,Fok⟩:=B.fld k p f ep ef
  have fb:=D f (zcy7 ef)
  have okx:=ok xs (zcy7 ex)
  have egf:fs.getD k (.more 0 0)=f:=by rw[zcy3,ef];rfl
  have egx:xss.getD k []=xs:=by rw[zcy3,ex];rfl
  refine za9 (v:=.int n) (s0I _ _ B.out) rfl ?_
  refine za9 (v:=.int m) (s0I _ _ B.out) rfl ?_
  refine za9 (v:=.ref l) (s0I _ _ B.out) rfl ?_
  refine zaj7 (SqL.of (s0I _ _ B.lst)) (fun l' I1 f1' s1' h1'=>?_)
  rw[zbg1 (x:=.ref p) (by rw[zcy2,ep];rfl)] at h1'
  refine zc7 (fun b' I2 f2' s2' h2'=>?_)
  have sI2:=s1'.trans s2'
  have s0I2:=s0I.trans sI2
  have B2:zl4 I2 b' l' [p] n m [f]:=⟨h2',s2' _ _ h1',rfl,fun i p' f' e1 e2=>by
   cases i with
   | zero=>cases e1;cases e2;exact⟨F0.same s0I2,Fok⟩
   | succ i=>simp at e1⟩
  refine zg4 (by decide) (by decide) (by walk_at "om") (by walk_at "om") ?_
  rw[show ((othH sd n m:Int)+1 - 0).toNat=othH sd n m+1 by walk_at "om"]
  refine zo4 (n:=othH sd n m+1) Wk.range (by rw[sizeLine_eq];omega) (fun j=>.int (dueS sd f xs j)) (fun _=>true) (fun j σ=>∃ t:Option V,σ=[t,some (.ref b'),some (.str (wd sd)),some (.ref st),some (.int k)]) ⟨none,rfl⟩ ?_ ?_
  ·rintro j x σ J R' S' hj sJ rfl ⟨_,rfl⟩ kk _
   have hj:j<othH sd n m+1:=hj
   have s0J:=s0I2.trans sJ
   rw[zdc8]
   refine br_T ?_
   refine zaj7 (SqL.of (s0J _ _ S.out)) (fun st' J1 f5 s5 h5=>?_)
   rw[zbg1 (x:=.ref r.1) (by rw[zcy2,er];rfl)] at h5
   refine ze6 (fun pn J2 f6 s6 h6=>?_)
   have S6:StW J2 st' [r] [xs]:=⟨s6 _ _ h5,rfl,fun i r' xs' e1 e2=>by
    cases i with
    | zero=>cases e1;cases e2;exact (S.row k r xs er ex).same ((s0J.trans s5).trans s6)
    | succ i=>simp at e1⟩
   refine zbf2 (qs:=[j]) (B2.same ((sJ.trans s5).trans s6)) (fun f' hf=>by rw[zdb2.mp hf];exact fb) (by simp) S6 rfl (fun xs' hx=>by rw[zdb2.mp hx];exact okx) h6 rfl (fun q hq=>by rw[zdb2.mp hq];omega) (fun J3 s7=>?_)
   rw[show ([f]:List Fd).length=1 from rfl,zcf5]
   walk_at "wh"
   exact kk rfl _ _ ((s5.trans s6).trans s7) ⟨_,rfl⟩
  intro he I3 f3' s3' h3'
  rw[ze3] at h3'
  have h3':I3 he=some (.lst (rowV (othH sd n m+1) (dueS sd f xs))):=h3'
  refine zah3 (SqL.of h3') (fun ro I4 f4' s4' h4'=>?_)
  have sI4:=(sI2.trans s3').trans s4'
  have he4:=s4' _ _ h3'
  have G4:=G.same sI4
  refine zan1 (fun σ J=>∃ (y10 y11:Option V) (ro:Addr),σ=[some (.ref b),some (.str (wd sd)),some (.ref st),some (.int (othH sd n m)),some (.ref t),some (.int k),some (.ref b'),some (.ref he),some (.ref ro),y10,y11]/\Same I4 J/\J ro=some (.lst (rowV (othH sd n m+1) (tabR sd ((zc1 sd fs xss).drop k))))) ?_ ?_
  ·walk_at "wh"
   refine ze6 (fun ni I5 f5 s5 h5=>?_)
   refine zbo8 (EqR.nilR (s5 _ _ G4.out) h5) ?_
   rw[zcy0,G.len]
   refine zd2 ?_
   refine zp5 (fun e0=>?_) (fun e0=>?_)
   ·walk_at "wh"
    refine⟨_,_,ro,rfl,s5,?_⟩
    rw[s5 _ _ h4']
    congr 3
    funext c
    have:(zc1 sd fs xss).drop k=[dueS sd f xs]:=by
     rw[zt9 hk,zdd7 (by rw[zah2];omega),egf,egx]
    rw[this]
    rfl
   ·walk_at "wh"
    refine ze6 (fun ro2 I6 f6 s6 h6=>?_)
    have s46:=s5.trans s6
    refine zg4 (by decide) (by decide) (by walk_at "om") (by walk_at "om") ?_
    rw[show ((othH sd n m:Int)+1 - 0).toNat=othH sd n m+1 by walk_at "om"]
    refine zh7 (fun c σ J=>∃ y10 y11:Option V,σ=[some (.ref b),some (.str (wd sd)),some (.ref st),some (.int (othH sd n m)),some (.ref t),some (.int k),some (.ref b'),some (.ref he),some (.ref ro2),y10,y11]/\Same I5 J/\J ro2=some (.lst (rowV c (tabR sd ((zc1 sd fs xss).drop k))))) ?_ ?_ ?_
    ·exact⟨_,_,rfl,s6,h6⟩
    ·rintro c σ J hc ⟨y10',y11',rfl,sJ,hro⟩
     have hc:c<othH sd n m+1:=hc
     have s4J:=s5.trans sJ
     rw[zdc8]
     refine zg4 (by decide) (by decide) (by walk_at "om") (by walk_at "om") ?_
     rw[show ((c:Int)+1 - 0).toNat=c+1 by walk_at "om"]
     refine zo4 (n:=c+1) Wk.range (by rw[sizeLine_eq];omega) (fun y=>.int (dueS sd f xs y+tabR sd ((zc1 sd fs xss).drop (k+1)) (c - y))) (fun _=>true) (fun j σ=>∃ t':Option V,σ=[t',some (.ref he),some (.ref t),some (.int c)]) ⟨none,rfl⟩ ?_ ?_
     ·rintro y x σ L R' S' hy sL rfl ⟨_,rfl⟩ kk _
      have hy:y<c+1:=hy
      rw[zdc8]
      obtain⟨t0,et0,ht0⟩:=(G4.same (s4J.trans sL)).some (i:=0) (by walk_at "om")
      refine br_T ?_
      refine zb9 (v:=.int (dueS sd f xs y)) ((s4J.trans sL) _ _ he4) (zc5 (zj0 (by walk_at "om"))) ?_
      refine zb9 (v:=.ref t0) ((s4J.trans sL) _ _ G4.out) (zc5 (j:=0) (by rw[zcy2,et0];rfl)) ?_
      refine zb9 (v:=.int (tabR sd ((zc1 sd fs xss).drop (k+1)) (c - y))) ht0 (by
       rw[show (c:Int) - (y:Int)=((c - y:Nat):Int) by walk_at "om",show fs.length - i+0=k+1 by walk_at "om"]
       exact zc5 (zj0 (by walk_at "om"))) ?_
      walk_at "wh"
      exact kk rfl _ _ (Same.refl _) ⟨_,rfl⟩
     intro so J1 f7 s7 h7
     rw[ze3] at h7
     have h7:J1 so=some (.lst (((List.range (c+1)).map fun y=>dueS sd f xs y+tabR sd ((zc1 sd fs xss).drop (k+1)) (c - y)).map V.int)):=by rw[h7,zda5];rfl
     have opt:optL sd ((List.range (c+1)).map fun y=>dueS sd f xs y+tabR sd ((zc1 sd fs xss).drop (k+1)) (c - y))=tabR sd ((zc1 sd fs xss).drop k) c:=by
      rw[zt9 hk,zt9 (show k+1<fs.length by walk_at "om"),egf,egx]
      rfl
     have ne:(List.range (c+1)).map (fun y=>dueS sd f xs y+tabR sd ((zc1 sd fs xss).drop (k+1)) (c - y))≠[]:=by simp
     have lp:=List.length_pos_iff.mpr ne
     generalize (List.range (c+1)).map (fun y=>dueS sd f xs y+tabR sd ((zc1 sd fs xss).drop (k+1)) (c - y))=ws at h7 opt lp
     have hro1:=s7 _ _ hro
     refine zu7 hro1 ?_
     refine zbb0 (SqL.of h7) lp (fun M hM hMb=>?_)
     refine zbd7 (SqL.of h7) lp (fun W hW hWb=>?_)
     refine ze6 (fun pr J2 f8 s8 h8=>?_)
     have hro2:=s8 _ _ hro1
     have fin:∀ J3,Chg ro2 J2 J3->J3 ro2=some (.lst (rowV c (tabR sd ((zc1 sd fs xss).drop k))++[.int (tabR sd ((zc1 sd fs xss).drop k) c)]))->Same I5 J3/\J3 ro2=some (.lst (rowV (c+1) (tabR sd ((zc1 sd fs xss).drop k)))):=fun J3 c3 h3=>⟨((sJ.trans s7).trans s8).chg f6 c3,by rw[h3];unfold rowV;rw[zde2,zda3];rfl⟩
     cases sd
     ·walk_at "wh"
      refine zb9 (v:=.int W) h8 rfl ?_
      rw[zab8 (sd:=false) hW hWb,opt]
      refine zx0 hro2 (by rw[zn0,sizeLine_eq];omega) (fun J3 c3 h3=>?_)
      walk_at "wh"
      exact⟨_,_,rfl,fin J3 c3 h3⟩
     ·walk_at "wh"
      refine zb9 (v:=.int M) h8 rfl ?_
      rw[zab8 (sd:=true) hM hMb,opt]
      refine zx0 hro2 (by rw[zn0,sizeLine_eq];omega) (fun J3 c3 h3=>?_)
      walk_at "wh"
      exact⟨_,_,rfl,fin J3 c3 h3⟩
    ·rintro σ J ⟨y10',y11',rfl,sJ,hro⟩
     walk_at "wh"
     exact⟨_,_,ro2,rfl,s5.trans sJ,hro⟩
  rintro σ J ⟨y10',y11',ro',rfl,sJ,hro⟩
  refine ze6 (fun on J1 f5 s5 h5=>?_)
  refine zbo5 h5 ((sJ.trans s5) _ _ G4.out) (by rw[zcy0,G.len,sizeLine_eq,List.length_singleton];omega) (fun t' J2 f6 s6 h6=>?_)
  walk_at "wh"
  refine⟨_,_,_,_,_,_,t',ro' :: ts,rfl,by walk_at "om",((sI.trans sI4).trans sJ).trans (s5.trans s6),zbr7 (G4.same ((sJ.trans s5).trans s6)) h6 ?_ (fun j=>?_)⟩
  ·rw[show fs.length - (i+1)+0=k by walk_at "om"]
   exact (s5.trans s6) _ _ hro
  ·show tabR sd _=tabR sd _
   rw[show fs.length - (i+1)+(j+1)=fs.length - i+j by walk_at "om"]
 ·rintro σ I ⟨y6,y7,y8,y9,y10,y11,t,ts,rfl,_,sI,G⟩
  walk_at "wh"
  rw[ll] at G
  refine q t ts I (s04.trans sI) ?_
  have e:(fun j=>tabR sd ((zc1 sd fs xss).drop (fs.length - fs.length+j)))=fun k=>tabR sd ((zc1 sd fs xss).drop k):=by
   funext j
   rw[Nat.sub_self,Nat.zero_add]
  rw[e] at G
  exact G
theorem zci6 {H:Hp}{b l st:Addr}{ps:List Addr}{n m:Nat}{sd:Bool}{fs:List Fd}{rs:List (Addr×List Addr)}{xss:List (List (Int×Int×Int))}{ms:List (List Int×Int)}(B:zl4 H b l ps n m fs) (O:OkB n m fs) (D:∀ f∈fs,f.Bd n m) (S:StW H st rs xss) (SI:zbl8 ms fs.length xss) (OS:OkS ms (ownH sd n m:Nat) fs.length) (ml:ms.length<=4) (mw:∀ x∈ms,x.2<=10 ^ 20):StG H b l st ps n m sd fs rs xss/\zk1 (ownH sd n m) fs.length (stmD xss)=true/\okD 3 (stmD xss)/\∀ xs∈xss,xs.length<64:=by
 have rowsOk:=zcc9 OS (zdb4 ml (by decide)) mw SI
 have o2:=O.2
 have xl:=SI.1
 refine⟨⟨B,O,D,S,xl,fun xs hx=>(rowsOk xs hx).1⟩,stm_ok OS SI,?_,fun xs hx=>(rowsOk xs hx).2⟩
 rw[zcd5]
 exact zcl4 (by walk_at "om") (fun xs hx=>(rowsOk xs hx).2)
@[irreducible] def zd0:Sp:=fun vs H Q _=>∃ (b l a:Addr) (ps:List Addr) (n m:Nat) (sd:Bool) (fs:List Fd) (ds:List Int),vs=[.ref b,.str (wd sd),.ref a]/\zl4 H b l ps n m fs/\OkB n m fs/\(∀ f∈fs,f.Bd n m)/\H a=some (.lst (ds.map V.int))/\Drw ds/\∀ H',Same H H'->Q .non H'
theorem zcd7 {H:Hp}{b l a:Addr}{ps:List Addr}{n m:Nat}{sd:Bool}{fs:List Fd}{ds:List Int}{Q:VK}{E:XK}(B:zl4 H b l ps n m fs) (O:OkB n m fs) (D:∀ f∈fs,f.Bd n m) (ha:H a=some (.lst (ds.map V.int))) (hd:Drw ds) (q:∀ H',Same H H'->Q .non H'):zd0 [.ref b,.str (wd sd),.ref a] H Q E:=by
 unfold zd0;exact⟨b,l,a,ps,n,m,sd,fs,ds,rfl,B,O,D,ha,hd,q⟩
set_option maxHeartbeats 0 in
theorem zab4 {f:Addr}{fd:FuncData}(F:Fun K "_law_asked_apart" "_law_asked_apart" ze4 f fd) (N:Nm mg) (zcs0:Def P w K mg base CX0 1 "_law_hosts" ["_law_battle_here","_law_side"] ze0) (zcu4:Def P w K mg base CX0 1 "_law_mix" ["_law_draws_here","_law_at","_law_plans_here"] zk9) (zcr9:Def P w K mg base CX0 8 "_law_plans" ["_law_hosts_here","_law_many"] zg5) (zct1:Def P w K mg base CX0 1 "_law_stream" ["_law_mix_here"] zf1) (zcs4:Def P w K mg base CX0 9 "answer_table" ["battle","side","stream"] ze2) (zcs6:Def P w K mg base CX0 9 "best_answer" ["battle","side","stream"] zf0):FnOk P w K mg base CX0 10 f fd ["_law_battle_here","_law_side","_law_draws_here"] zd0:=by
 refine F.ok zn1 (fun vs H Q E h=>by unfold zd0 at h;obtain⟨_,_,_,_,_,_,_,_,_,rfl,_⟩:=h;rfl) (fun cdv A outer s H vs Q E hr h=>?_)
 unfold zd0 at h
 obtain⟨b,l,a,ps,n,m,sd,fs,ds,rfl,B,O,D,ha,hd,q⟩:=h
 have hu:=hu40 hr
 have o2:=O.2
 obtain⟨ho,hw⟩:=zad5 O sd
 have bl:=B.len
 refine⟨_,(za2 (psS (i:=3) zn1.nd (za7 (K:=K) rfl (pD zcs0 hr zb5 (za0 (pq 0) (za0 (pq 1) za1))) za3))
   (za2 (psS (i:=4) zn1.nd (pD zct1 hr zb5 (za0 (pD zcu4 hr zb5 (za0 (pq 2) (za0 za3 (za0 (pD zcr9 hr zb5 (za0 (pq 3) (za0 (pB (zp2 (K:=K) rfl) N.len_ zg0 (za0 (za7 (K:=K) rfl (pq 0) za3) za1)) za1))) za1)))) za1)))
   (za2 (ze7 (pD zcs4 hr zb5 (za0 (pq 0) (za0 (pq 1) (za0 (pq 4) za1)))))
   (za5 (ze7 (pD zcs6 hr zb5 (za0 (pq 0) (za0 (pq 1) (za0 (pq 4) za1))))))))),?_⟩
 refine zae3 B.out (fun p1 H1 f1 s1 h1=>?_)
 refine za9 (v:=.int (ownH sd n m)) h1 rfl ?_
 refine za9 (v:=.ref l) (s1 _ _ B.out) rfl ?_
 refine ze8 (s1 _ _ B.lst) ?_
 rw[zcy0,bl,show ((fs.length:Nat):Int)=((fs.length - 1:Nat):Int)+1 by walk_at "om"]
 refine zad7 (by walk_at "om") (by walk_at "om") (fun r pp H2 f2 s2 R2=>?_)
 have s02:=s1.trans s2
 refine zbs2 (t:=31) (s02 _ _ ha) hd (by walk_at "om") R2 (by walk_at "om") (by walk_at "om") (fun mx ts ms H3 s3 M3 OS ml mw=>?_)
 rw[show fs.length - 1+1=fs.length by walk_at "om"] at OS
 have s03:=s02.trans s3
 refine zca7 (M3.same (zr4 _ _)) OS.ne (by walk_at "om") (by walk_at "om") (fun x hx=>(OS.all x hx).2.1) (fun st rs xss H4 s4 S4 SI=>?_)
 have s04:=s03.trans s4
 obtain⟨SG,hs,od,_⟩:=zci6 (B.same s04) O D (S4.same (zr4 _ _)) SI OS ml mw
 refine zu2 SG hs od.1 (fun t pn ts H5 s5 A5=>?_)
 refine zv0 ⟨SG.1.same s5,SG.2.1,SG.2.2.1,SG.2.2.2.1.same s5,SG.2.2.2.2⟩ hs od.1 (fun t' pn' ts' H6 s6 A6=>?_)
 walk_at "wh"
 exact q _ ((s04.trans s5).trans s6)
theorem zax6 {sd:Bool}{fs:List Fd}{xss:List (List (Int×Int×Int))}{k c:Nat}(hk:k<fs.length):∀ x∈bndS (fun k=>dueS sd (fs.getD k (.more 0 0)) (xss.getD k [])) (fun k=>tabR sd ((zc1 sd fs xss).drop k)) fs.length k c,zp8 sd (tabR sd ((zc1 sd fs xss).drop k) c) x=true:=fun x hx=>by
 rw[zce3 hk (fun _ _=>rfl)] at hx
 rw[zai0,(zcl5 sd (zco9 (sd:=sd) (xss:=xss) hk) c).1]
 exact zae2 sd x hx
theorem zch7 (sd:Bool) (t b:Int):zp8 sd (lowT t b*b) (t*lowB t b)=true:=by
 rw[zai0,zaw1]
 unfold leS
 split<;>exact Int.le_refl _
theorem zbj6 {x:Int}(h:-(10 ^ 60)<=x/\x<=10 ^ 60):-(10 ^ 200)<x/\x<10 ^ 200:=by
 have p:(10:Int) ^ 60<10 ^ 200:=by decide
 generalize (10:Int) ^ 200=N at p ⊢
 exact⟨by walk_at "om",by walk_at "om"⟩
theorem zbt7 {x:Int}(h:1<=x/\x<=5*10 ^ 20):-(10 ^ 200)<x/\x<10 ^ 200:=by
 have p:5*(10:Int) ^ 20<10 ^ 200:=by decide
 generalize (10:Int) ^ 200=N at p ⊢
 exact⟨by walk_at "om",by walk_at "om"⟩
@[irreducible] def zh4:Sp:=fun vs H Q _=>∃ t b:Int,vs=[.int t,.int b]/\0<b/\b<10 ^ 200/\∀ p H',H p=none->Same H H'->H' p=some (.tup [.int (lowT t b),.int (lowB t b)])->Q (.ref p) H'
theorem zau5 {H:Hp}{t b:Int}{Q:VK}{E:XK}(h1:0<b) (h2:b<10 ^ 200) (q:∀ p H',H p=none->Same H H'->H' p=some (.tup [.int (lowT t b),.int (lowB t b)])->Q (.ref p) H'):zh4 [.int t,.int b] H Q E:=by
 unfold zh4;exact⟨t,b,rfl,h1,h2,q⟩
theorem zam1 {f:Addr}{fd:FuncData}(F:Fun K "_law_lowest" "_law_lowest" zl9 f fd) (N:Nm mg):FnOk P w K mg base CX0 1 f fd ["_law_top","_law_bottom"] zh4:=by
 refine F.ok zv2 (fun vs H Q E h=>by unfold zh4 at h;obtain⟨n,k,rfl,_⟩:=h;rfl) (fun cdv A outer s H vs Q E hr h=>?_)
 unfold zh4 at h
 obtain⟨t,b,rfl,hb,hb2,q⟩:=h
 have hu:=hu40 hr
 refine⟨_,(za2 (psPar (i:=2) (j:=3) rfl zv2.nd rfl rfl (by decide) rfl rfl (za0 (pB cAbs N.abs_ zcb1 (za0 (pq 0) za1)) (za0 (pq 1) za1)) rfl)
   (za2 (zbw8 PassesOwn.never (ptC oGt (pq 3) za3) (za5 (psPar (i:=2) (j:=3) rfl zv2.nd rfl rfl (by decide) rfl rfl (za0 (pq 3) (za0 (zb4 oMod (pq 2) (pq 3)) za1)) rfl)))
   (za5 (za8 (zm8 (za0 (zb4 oDiv (pq 0) (pq 2)) (za0 (zb4 oDiv (pq 1) (pq 2)) za1))))))),?_⟩
 refine zbg5 (fun σ H2=>∃ (x y:Int),σ=[some (.int t),some (.int b),some (.int x),some (.int y)]/\H=H2/\0<=x/\0<=y/\x.gcd y=t.gcd b) (fun σ _=>match σ with | [_,_,_,some (.int y)]=>y.toNat|_=>0) ?_ ?_
 ·refine⟨_,_,rfl,rfl,by walk_at "om",by walk_at "om",?_⟩
  rw[zdc9,zdc9]
  simp
 ·rintro σ H2 ⟨x,y,rfl,rfl,hx,hy,hg⟩
  walk_at "wh"
  refine zcl9 (fun h=>?_) (fun h=>?_)
  ·walk_at "wh"
   refine zaa5 h ?_
   walk_at "wh"
   have h1:=zdg0 x (show y≠0 by walk_at "om")
   have h2:=zde3 x h
   refine⟨⟨_,_,rfl,rfl,hy,h1,?_⟩,?_⟩
   ·rw[zbk0 hx h];exact hg
   ·show (x % y).toNat<y.toNat
    omega
  ·have e:x=(t.gcd b:Int):=by rw[← hg];exact (zby5 hx (by walk_at "om")).symm
   have el:((t.gcd b:Nat):Int)=lg t b:=by unfold lg;rw[if_neg (by walk_at "om")]
   have g1:=zap1 (t:=t) (b:=b) (by walk_at "om")
   have g2:=zci2 (t:=t) (b:=b) (by walk_at "om")
   subst e
   refine zaf1 (by walk_at "om") (by walk_at "om") (by walk_at "om") ?_
   refine zaf1 (by walk_at "om") (by walk_at "om") (by walk_at "om") ?_
   refine zc7 (fun p H' hf hs ha=>?_)
   walk_at "wh"
   rw[el] at ha
   exact q _ _ hf hs ha
inductive MkV (H:Hp):Nat->V->List Addr->Prop
 | flat {n:Nat}{v:V}(f:zu0 v=true) (k:isT "mark" v=false):MkV H n v []
 | tup {n:Nat}{p:Addr}{xs:List V}{Bs:List (List Addr)}(h:H p=some (.tup xs)) (z:xs.length<=1000) (l:Bs.length=xs.length) (e:∀ (i:Nat) x B,xs[i]?=some x->Bs[i]?=some B->MkV H n x B):MkV H (n+1) (.ref p) Bs.flatten
 | lst {n:Nat}{p:Addr}{xs:List V}{Bs:List (List Addr)}(h:H p=some (.lst xs)) (z:xs.length<=1000) (l:Bs.length=xs.length) (e:∀ (i:Nat) x B,xs[i]?=some x->Bs[i]?=some B->MkV H n x B):MkV H (n+1) (.ref p) (p :: Bs.flatten)
theorem zao7 {Bs:List (List Addr)}{a:Addr}(h:a∈Bs.flatten):∃ (i:Nat) (B:List Addr),Bs[i]?=some B/\a∈B:=by
 obtain⟨B,hB,ha⟩:=List.mem_flatten.mp h
 obtain⟨i,hi,e⟩:=zdg2.mp hB
 exact⟨i,B,by rw[zcx9 hi,e],ha⟩
theorem zah4 {Bs:List (List Addr)}{a:Addr}{i:Nat}{B:List Addr}(h:Bs[i]?=some B) (ha:a∈B):a∈Bs.flatten:=List.mem_flatten.mpr ⟨B,zcy7 h,ha⟩
theorem bs_at {Bs:List (List Addr)}{n i:Nat}(l:Bs.length=n) (h:i<n):∃ B,Bs[i]?=some B:=⟨_,zcx9 (by walk_at "om")⟩
theorem xs_at {xs:List V}{n i:Nat}{B:List Addr}{Bs:List (List Addr)}(l:Bs.length=xs.length) (h:Bs[i]?=some B):∃ x,xs[i]?=some x:=⟨_,zcx9 (by have:=(zcy4.mp h).1;omega)⟩
theorem MkV.isl {H:Hp}{n:Nat}{v:V}{As:List Addr}(m:MkV H n v As):∀ a∈As,∃ ys,H a=some (.lst ys):=by
 induction m with
 | flat _ _=>intro a h;cases h
 | tup h z l e ih=>
  intro a ha
  obtain⟨i,B,e1,e2⟩:=zao7 ha
  obtain⟨x,ex⟩:=xs_at (n:=0) l e1
  exact ih i x B ex e1 a e2
 | @lst n p xs Bs h z l e ih=>
  intro a ha
  rcases zcz5.mp ha with rfl|ha
  ·exact⟨_,h⟩
  ·obtain⟨i,B,e1,e2⟩:=zao7 ha
   obtain⟨x,ex⟩:=xs_at (n:=0) l e1
   exact ih i x B ex e1 a e2
theorem MkV.chgS {H H':Hp}{L:List Addr}(hL:∀ a∈L,∃ ys,H a=some (.lst ys)) (c:ChgS L H H') {n:Nat}{v:V}{As:List Addr}(m:MkV H n v As):(∀ a∈As,a ∉ L)->MkV H' n v As:=by
 induction m with
 | flat f k=>intro _;exact .flat f k
 | tup h z l e ih=>
  intro hn
  refine .tup (c _ _ (fun hm=>by obtain⟨ys,q⟩:=hL _ hm;rw[h] at q;cases q) h) z l fun i x B e1 e2=>ih i x B e1 e2 fun a ha=>hn a (zah4 e2 ha)
 | lst h z l e ih=>
  intro hn
  exact .lst (c _ _ (hn _ zdc5) h) z l fun i x B e1 e2=>ih i x B e1 e2 fun a ha=>hn a (zdb8 _ (zah4 e2 ha))
theorem MkV.same {H H':Hp}{n:Nat}{v:V}{As:List Addr}(m:MkV H n v As) (s:Same H H'):MkV H' n v As:=m.chgS (L:=[]) (fun _ h=>by cases h) (fun b o _ e=>s b o e) fun _ _ h=>by cases h
def Mkd (H H':Hp) (As:List Addr):Prop:=ChgS As H H'/\∀ a∈As,∀ xs,H a=some (.lst xs)->H' a=some (.lst (xs++[.str "mark"]))
theorem Mkd.same {H H' H'':Hp}{As:List Addr}(m:Mkd H H' As) (s:Same H' H''):Mkd H H'' As:=⟨m.1.same s,fun a ha xs h=>s _ _ (m.2 a ha xs h)⟩
theorem zay7 {Bs:List (List Addr)}{i:Nat}{B:List Addr}(h:Bs[i]?=some B):(Bs.take (i+1)).flatten=(Bs.take i).flatten++B:=by
 rw[zdg5,h];simp
theorem zcg3 {Bs:List (List Addr)}{i:Nat}{B:List Addr}(h:Bs[i]?=some B) (nd:Bs.flatten.Nodup):B.Nodup/\∀ a∈B,a ∉ (Bs.take i).flatten:=by
 have e:Bs.flatten=(Bs.take (i+1)).flatten++(Bs.drop (i+1)).flatten:=by rw[← List.flatten_append,List.take_append_drop]
 rw[e,zay7 h] at nd
 have n1:=(zdg1.mp nd).1
 have n2:=zdg1.mp n1
 exact⟨n2.2.1,fun a ha hb=>n2.2.2 a hb a ha rfl⟩
theorem Mkd.push {H H1 H2:Hp}{Bs:List (List Addr)}{i:Nat}{B:List Addr}(h:Bs[i]?=some B) (hd:∀ a∈B,a ∉ (Bs.take i).flatten) (m:Mkd H H1 (Bs.take i).flatten) (m2:Mkd H1 H2 B):Mkd H H2 (Bs.take (i+1)).flatten:=by
 rw[zay7 h]
 refine⟨fun b o hb e=>m2.1 b o (fun z=>hb (zdc1 _ z)) (m.1 b o (fun z=>hb (List.mem_append_left _ z)) e),fun a ha xs hx=>?_⟩
 rcases zdd1.mp ha with ha|ha
 ·exact m2.1 a _ (fun z=>hd a z ha) (m.2 a ha xs hx)
 ·exact m2.2 a ha xs (m.1 a _ (hd a ha) hx)
theorem zcf0 {K:zcy1}{p:Addr}{H:Hp}{Q:VK}{ys:List V}(h:H p=some (.tup ys)) (q:∀ l H',H l=none->Same H H'->H' l=some (.lst ys)->Q (.ref l) H'):zai2 K p H Q:=by unfold zai2;exact⟨ys,.inr (SqT.of h),q⟩
def zat9:Nat->Sp
 | 0=>fun _ _ _ _=>False
 | n+1=>fun vs H Q _=>∃ (p:Addr) (As:List Addr),vs=[.ref p]/\MkV H n (.ref p) As/\As.Nodup/\∀ H',Mkd H H' As->Q .non H'
@[irreducible] def zj8:Sp:=zat9 6
theorem zca1 {H:Hp}{p:Addr}{As:List Addr}{Q:VK}{E:XK}(m:MkV H 5 (.ref p) As) (nd:As.Nodup) (q:∀ H',Mkd H H' As->Q .non H'):zj8 [.ref p] H Q E:=by unfold zj8;exact⟨p,As,rfl,m,nd,q⟩
theorem MkV.cases {H:Hp}{n:Nat}{v:V}{As:List Addr}(m:MkV H n v As):(zu0 v=true/\isT "mark" v=false/\As=[])∨∃ (n':Nat) (p:Addr) (xs:List V) (Bs:List (List Addr)),n=n'+1/\v=.ref p/\xs.length<=1000/\Bs.length=xs.length/\(∀ (i:Nat) x B,xs[i]?=some x->Bs[i]?=some B->MkV H n' x B)/\((H p=some (.tup xs)/\As=Bs.flatten)∨(H p=some (.lst xs)/\As=p :: Bs.flatten)):=by
 cases m with
 | flat f k=>exact .inl ⟨f,k,rfl⟩
 | tup h z l e=>exact .inr ⟨_,_,_,_,rfl,rfl,z,l,e,.inl ⟨h,rfl⟩⟩
 | lst h z l e=>exact .inr ⟨_,_,_,_,rfl,rfl,z,l,e,.inr ⟨h,rfl⟩⟩
theorem zcb7 {K:zcy1}{H:Hp}{Q:VK}{n:Nat}{v:V}{As:List Addr}{t:Addr}(ht:H t=some (.tup [.ty "list",.ty "tuple"])) (m:MkV H n v As) (h1:zu0 v=true->As=[]->Q (.bl false) H) (h2:∀ p,v=.ref p->Q (.bl true) H):zz9 K v (.ref t) H Q:=by
 have ht:H t=some (.tup (["list","tuple"].map V.ty)):=ht
 rcases m.cases with ⟨f,k,e⟩|⟨n',p,xs,Bs,rfl,rfl,z,l,e,⟨h,_⟩|⟨h,_⟩⟩
 ·cases v with
  | non=>exact zbi5 ht (h1 f e)
  | bl b=>exact zbh9 ht (h1 f e)
  | int i=>exact zbj0 ht (h1 f e)
  | str x=>exact zbl2 ht (h1 f e)
  | _=>exact absurd (show false=true from f) zcz0
 ·exact zbl4 ht h (h2 p rfl)
 ·exact zbg2 ht h (h2 p rfl)
set_option maxHeartbeats 0 in
theorem zam4 {f:Addr}{fd:FuncData}(F:Fun K "_law_marked" "_law_marked" zl7 f fd) (N:Nm mg) (hgR:mg "_law_marked"=some (.ref f)) (hkR:zcy9 K (.ref f)=true) (hbR:zam6 K fd ["_law_thing"] []):FnOk P w K mg base CX0 7 f fd ["_law_thing"] zj8:=by
 have key:∀ n,FnOk P w K mg base CX0 (n+1) f fd ["_law_thing"] (zat9 n):=by
  intro n
  induction n with
  | zero=>exact F.ok zv3 (fun vs H Q E h=>h.elim) (fun cdv A outer s H vs Q E hr h=>h.elim)
  | succ n ih=>
   have zct2:Def P w K mg base CX0 (n+1) "_law_marked" ["_law_thing"] (zat9 n):=⟨f,fd,ih,hgR,hkR,hbR⟩
   refine F.ok zv3 (fun vs H Q E h=>by obtain⟨_,_,rfl,_⟩:=h;rfl) (fun cdv A outer s H vs Q E hr h=>?_)
   obtain⟨p,As,rfl,m,nd,q⟩:=h
   refine⟨_,(za2 (zu5 PassesOwn.never rfl (zk2 (K:=K) rfl (pT (zbg6 (K:=K) rfl) N.list_ zk6 (za0 (pq 0) za1))) (za6 (i:=1) zv3.nd rfl (by first|exact Or.inl rfl|exact Or.inr rfl)) (za5 (psIf (ptV (pB (cIsiT (K:=K) rfl) N.isinstance_ zb8 (za0 (pq 1) (za0 (zm8 (za0 (pTy N.list_ zk6) (za0 (pTy N.tuple_ zw0) za1))) za1)))) (za5 (ze7 (pD zct2 hr zb5 (za0 (pq 1) za1) (hk:=by walk_at "om")))) zb6)))
   (za5 (psIf (ptV (pB (zy1 (K:=K) rfl) N.isinstance_ zb8 (za0 (pq 0) (za0 (pTy N.list_ zk6) za1)))) (za5 (ze7 (zh8 (pq 0) (za0 zf2 za1)))) zb6))),?_⟩
   rcases m.cases with ⟨f,_,_⟩|⟨n',p',xs,Bs,rfl,ep,z,l,e,hc⟩
   ·exact absurd (show false=true from f) zcz0
   cases ep
   have nf:Bs.flatten.Nodup:=by
    rcases hc with ⟨_,rfl⟩|⟨_,rfl⟩
    ·exact nd
    ·exact (zdd9.mp nd).2
   have isl:∀ (i:Nat) B,Bs[i]?=some B->∀ a∈B,∃ ys,H a=some (.lst ys):=fun i B hB=>by
    obtain⟨x,ex⟩:=xs_at (n:=0) l hB
    exact (e i x B ex hB).isl
   have isl2:∀ i,∀ a∈(Bs.take i).flatten,∃ ys,H a=some (.lst ys):=fun i a ha=>by
    obtain⟨B,hB,hm⟩:=List.mem_flatten.mp ha
    obtain⟨j,hj,ej⟩:=zdg2.mp (List.mem_of_mem_take hB)
    exact isl j B (by rw[zcx9 hj,ej]) a hm
   have hm:∀ (R:VK),(∀ l' H',H l'=none->Same H H'->H' l'=some (.lst xs)->R (.ref l') H')->zai2 K p H R:=fun R r=>by
    rcases hc with ⟨h,_⟩|⟨h,_⟩
    ·exact zcf0 h r
    ·exact zah3 (SqL.of h) r
   walk_at "wh"
   refine hm _ (fun q1 H1 f1 s1 h1=>?_)
   refine zc8 h1 ?_
   have nq:∀ i,q1 ∉ (Bs.take i).flatten:=fun i hi=>by obtain⟨ys,z⟩:=isl2 i q1 hi;rw[f1] at z;cases z
   refine zt4 (xs:=xs) (fun i σ H2=>∃ t:Option V,σ=[some (.ref p),t]/\Mkd H H2 (Bs.take i).flatten/\H2 q1=some (.lst xs)) ?_ ?_ ?_ ?_
   ·exact⟨_,rfl,⟨fun b o _ h=>s1 b o h,fun a ha=>by simp at ha⟩,h1⟩
   ·rintro i σ H2 _ ⟨_,_,_,h⟩
    exact SqL.of h
   ·rintro i x σ H2 hx ⟨t,rfl,m2,h2⟩
    have hi:=(zcy4.mp hx).1
    obtain⟨B,hB⟩:=bs_at l hi
    have nb:=zcg3 hB nf
    have mx:=(e i x B hx hB).chgS (isl2 i) m2.1 nb.2
    refine zc7 (fun t1 H3 f3 s3 h3=>?_)
    walk_at "wh"
    refine zcb7 h3 (mx.same s3) (fun fx eB=>?_) (fun p1 ep=>?_)
    ·subst eB
     refine br_F ?_
     walk_at "wh"
     refine⟨_,rfl,(Mkd.push hB nb.2 m2 ⟨fun b o _ h=>h,fun a ha=>by cases ha⟩).same s3,s3 _ _ h2⟩
    ·subst ep
     refine br_T ?_
     walk_at "wh"
     obtain⟨n'',rfl⟩:∃ n'',n'=n''+1:=by
      rcases mx.cases with ⟨f,_,_⟩|⟨n'',_,_,_,rfl,_⟩
      ·exact absurd (show false=true from f) zcz0
      ·exact⟨_,rfl⟩
     refine⟨p1,B,rfl,mx.same s3,nb.1,fun H4 m4=>?_⟩
     walk_at "wh"
     refine⟨_,rfl,Mkd.push hB nb.2 (m2.same s3) m4,m4.1 _ _ (fun hq=>?_) (s3 _ _ h2)⟩
     obtain⟨ys,zz⟩:=isl i B hB q1 hq
     rw[f1] at zz
     cases zz
   ·rintro σ H2 ⟨t,rfl,m2,h2⟩
    have eT:Bs.take xs.length=Bs:=by rw[← l,zde6]
    rw[eT] at m2
    walk_at "wh"
    rcases hc with ⟨h,rfl⟩|⟨h,rfl⟩
    ·have hp:=m2.1 _ _ (fun hm=>by obtain⟨i,B,e1,e2⟩:=zao7 hm;obtain⟨ys,z⟩:=isl i B e1 _ e2;rw[h] at z;cases z) h
     refine zx4 hp ?_
     refine br_F ?_
     walk_at "wh"
     exact q _ m2
    ·have np:=(zdd9.mp nd).1
     have hp:=m2.1 _ _ np h
     refine zy8 hp ?_
     refine br_T ?_
     refine zu7 hp ?_
     refine zx0 hp (by rw[sizeLine_eq];omega) (fun H3 c3 h3=>?_)
     walk_at "wh"
     refine q _ ⟨fun b o hb h=>c3 b o (fun z=>hb (z▸zdc5)) (m2.1 b o (fun z=>hb (zdb8 _ z)) h),fun a ha ys hy=>?_⟩
     rcases zcz5.mp ha with rfl|ha
     ·rw[h] at hy
      cases hy
      exact h3
     ·exact c3 _ _ (fun z=>np (z▸ha)) (m2.2 a ha ys hy)
 unfold zj8
 exact key 6
inductive OnV (H:Hp):Nat->V->Prop
 | flat {n:Nat}{v:V}(f:zu0 v=true):OnV H n v
 | tup {n:Nat}{p:Addr}{xs:List V}(h:H p=some (.tup xs)) (z:xs.length<=1000) (e:∀ (i:Nat) x,xs[i]?=some x->OnV H n x):OnV H (n+1) (.ref p)
 | lst {n:Nat}{p:Addr}{xs:List V}(h:H p=some (.lst (xs++[.str "mark"]))) (z:xs.length<=1000) (c:xs.countP (isT "mark")=0) (e:∀ (i:Nat) x,xs[i]?=some x->OnV H n x):OnV H (n+1) (.ref p)
theorem zbl5 {H:Hp}{n:Nat}:∀ {xs:List V}{Bs:List (List Addr)},Bs.length=xs.length->(∀ (i:Nat) x B,xs[i]?=some x->Bs[i]?=some B->MkV H n x B)->xs.countP (isT "mark")=0
 | [],_,_,_=>rfl
 | x :: xs,[],l,_=>by cases l
 | x :: xs,B :: Bs,l,e=>by
  have h0:isT "mark" x=false:=by
   rcases (e 0 x B rfl rfl).cases with ⟨_,k,_⟩|⟨_,p,_,_,_,rfl,_⟩
   ·exact k
   ·rfl
  rw[List.countP_cons,h0,zbl5 (by simpa using l) fun i x B h1 h2=>e (i+1) x B h1 h2]
  rfl
theorem MkV.on {H0 H:Hp}{L:List Addr}(d:Mkd H0 H L) (hL:∀ a∈L,∃ ys,H0 a=some (.lst ys)) {n:Nat}{v:V}{As:List Addr}(m:MkV H0 n v As):(∀ a∈As,a∈L)->OnV H n v:=by
 induction m with
 | flat f _=>intro _;exact .flat f
 | tup h z l e ih=>
  intro hs
  refine .tup (d.1 _ _ (fun hm=>by obtain⟨ys,q⟩:=hL _ hm;rw[h] at q;cases q) h) z fun i x hx=>?_
  obtain⟨B,hB⟩:=bs_at l (zcy4.mp hx).1
  exact ih i x B hx hB fun a ha=>hs a (zah4 hB ha)
 | lst h z l e ih=>
  intro hs
  refine .lst (d.2 _ (hs _ zdc5) _ h) z (zbl5 l e) fun i x hx=>?_
  obtain⟨B,hB⟩:=bs_at l (zcy4.mp hx).1
  exact ih i x B hx hB fun a ha=>hs a (zdb8 _ (zah4 hB ha))
theorem OnV.same {H H':Hp}(s:Same H H') {n:Nat}{v:V}(m:OnV H n v):OnV H' n v:=by
 induction m with
 | flat f=>exact .flat f
 | tup h z e ih=>exact .tup (s _ _ h) z ih
 | lst h z c e ih=>exact .lst (s _ _ h) z c ih
theorem OnV.plain {H:Hp}{n:Nat}{v:V}(m:OnV H n v):zbq0 H v:=by
 cases m with
 | flat f=>exact .inl f
 | tup h _ _=>exact .inr ⟨_,rfl,.inr ⟨_,h⟩⟩
 | lst h _ _ _=>exact .inr ⟨_,rfl,.inl ⟨_,h⟩⟩
theorem zbu2 {K:zcy1}{H:Hp}{Q:VK}{v:V}{t:Addr}(ht:H t=some (.tup [.ty "list",.ty "tuple"])) (m:zbq0 H v) (h1:zu0 v=true->Q (.bl false) H) (h2:∀ p,v=.ref p->Q (.bl true) H):zz9 K v (.ref t) H Q:=by
 have ht:H t=some (.tup (["list","tuple"].map V.ty)):=ht
 rcases m with f|⟨a,rfl,⟨ys,h⟩|⟨ys,h⟩⟩
 ·cases v with
  | non=>exact zbi5 ht (h1 f)
  | bl b=>exact zbh9 ht (h1 f)
  | int i=>exact zbj0 ht (h1 f)
  | str x=>exact zbl2 ht (h1 f)
  | _=>exact absurd (show false=true from f) zcz0
 ·exact zbg2 ht h (h2 a rfl)
 ·exact zbl4 ht h (h2 a rfl)
def zap4:Nat->Sp
 | 0=>fun _ _ _ _=>False
 | n+1=>fun vs H Q _=>∃ p:Addr,vs=[.ref p]/\OnV H n (.ref p)/\∀ H',Same H H'->Q (.bl true) H'
@[irreducible] def zo1:Sp:=zap4 6
theorem zcq5 {H0 H:Hp}{p:Addr}{As:List Addr}{Q:VK}{E:XK}(m:MkV H0 5 (.ref p) As) (d:Mkd H0 H As) (q:∀ H',Same H H'->Q (.bl true) H'):zo1 [.ref p] H Q E:=by unfold zo1;exact⟨p,rfl,m.on d m.isl fun _ h=>h,q⟩
set_option maxHeartbeats 0 in
theorem zav2 {f:Addr}{fd:FuncData}(F:Fun K "_law_once" "_law_once" zq0 f fd) (N:Nm mg) (hgR:mg "_law_once"=some (.ref f)) (hkR:zcy9 K (.ref f)=true) (hbR:zam6 K fd ["_law_thing"] []):FnOk P w K mg base CX0 7 f fd ["_law_thing"] zo1:=by
 have key:∀ n,FnOk P w K mg base CX0 (n+1) f fd ["_law_thing"] (zap4 n):=by
  intro n
  induction n with
  | zero=>exact F.ok zx6 (fun vs H Q E h=>h.elim) (fun cdv A outer s H vs Q E hr h=>h.elim)
  | succ n ih=>
   have zcu5:Def P w K mg base CX0 (n+1) "_law_once" ["_law_thing"] (zap4 n):=⟨f,fd,ih,hgR,hkR,hbR⟩
   refine F.ok zx6 (fun vs H Q E h=>by obtain⟨_,rfl,_⟩:=h;rfl) (fun cdv A outer s H vs Q E hr h=>?_)
   obtain⟨p,rfl,m,q⟩:=h
   have hu:=hu40 hr
   refine⟨_,(za2 (psIf (ptW (zbb9 (ptV (pB (zy1 (K:=K) rfl) N.isinstance_ zb8 (za0 (pq 0) (za0 (pTy N.list_ zk6) za1)))) (zab6 (ptC (oNeK (K:=K) rfl (by exact hu)) (zbl7 (K:=K) rfl (by exact hu) (pq 0) (za0 zf2 za1)) za3)))) (za5 (za8 zu4)) zb6)
   (za2 (zu5 PassesOwn.never rfl (zk2 (K:=K) rfl (pq 0)) (za6 (i:=1) zx6.nd rfl (by first|exact Or.inl rfl|exact Or.inr rfl)) (za5 (psIf (ptW (zbb9 (ptV (pB (cIsiT (K:=K) rfl) N.isinstance_ zb8 (za0 (pq 1) (za0 (zm8 (za0 (pTy N.list_ zk6) (za0 (pTy N.tuple_ zw0) za1))) za1)))) (zab6 (zm9 (ptV (pD zcu5 hr zb5 (za0 (pq 1) za1) (hk:=by walk_at "om"))))))) (za5 (za8 zu4)) zb6)))
   (za5 (za8 zu4)))),?_⟩
   cases m with
   | flat f=>exact absurd (show false=true from f) zcz0
   | @tup n' _ xs h z e=>
    refine zx4 h ?_
    refine br_F ?_
    refine br_F ?_
    refine zbh1 h ?_
    refine zcg6 (xs:=xs) (fun i σ H2=>∃ t:Option V,σ=[some (.ref p),t]/\Same H H2) ?_ ?_ ?_ ?_
    ·exact⟨_,rfl,Same.refl _⟩
    ·rintro i σ H2 _ ⟨_,_,s2⟩
     exact SqT.of (s2 _ _ h)
    ·rintro i x σ H2 hx ⟨t,rfl,s2⟩
     have o:=(e i x hx).same s2
     refine zc7 (fun t1 H3 f3 s3 h3=>?_)
     walk_at "wh"
     refine zbu2 h3 (o.same s3).plain (fun fx=>?_) (fun p1 ep=>?_)
     ·walk_at "wh"
      refine br_F ?_
      refine br_F ?_
      walk_at "wh"
      exact⟨_,rfl,s2.trans s3⟩
     ·walk_at "wh"
      refine br_T ?_
      walk_at "wh"
      subst ep
      refine⟨p1,rfl,o.same s3,fun H4 s4=>?_⟩
      refine zd2 (br_T ?_)
      walk_at "wh"
      exact⟨_,rfl,(s2.trans s3).trans s4⟩
    ·rintro σ H2 ⟨t,rfl,s2⟩
     walk_at "wh"
     exact q _ s2
   | @lst n' _ xs h z c e=>
    refine zy8 h ?_
    refine br_T ?_
    refine zu7 h ?_
    refine zcp6 h (fun x hx=>?_) ?_
    ·rcases zdd1.mp hx with hx|hx
     ·obtain⟨i,hi,ei⟩:=zdg2.mp hx
      exact (e i x (by rw[zcx9 hi,ei])).plain
     ·rw[zdb2.mp hx];exact .inl rfl
    rw[List.countP_append,c]
    refine zd2 (zl3 rfl ?_)
    refine zc8 h ?_
    refine zt4 (xs:=xs++[.str "mark"]) (fun i σ H2=>∃ t:Option V,σ=[some (.ref p),t]/\Same H H2) ?_ ?_ ?_ ?_
    ·exact⟨_,rfl,Same.refl _⟩
    ·rintro i σ H2 _ ⟨_,_,s2⟩
     exact SqL.of (s2 _ _ h)
    ·rintro i x σ H2 hx ⟨t,rfl,s2⟩
     have o:OnV H2 n' x:=by
      by_cases hi:i<xs.length
      ·rw[zdc3 hi] at hx
       exact (e i x hx).same s2
      ·have:=zcy7 hx
       rw[zdc6 (by walk_at "om")] at hx
       have hm:=zcy7 hx
       rw[zdb2.mp hm]
       exact .flat rfl
     refine zc7 (fun t1 H3 f3 s3 h3=>?_)
     walk_at "wh"
     refine zbu2 h3 (o.same s3).plain (fun fx=>?_) (fun p1 ep=>?_)
     ·walk_at "wh"
      refine br_F ?_
      refine br_F ?_
      walk_at "wh"
      exact⟨_,rfl,s2.trans s3⟩
     ·walk_at "wh"
      refine br_T ?_
      walk_at "wh"
      subst ep
      refine⟨p1,rfl,o.same s3,fun H4 s4=>?_⟩
      refine zd2 (br_T ?_)
      walk_at "wh"
      exact⟨_,rfl,(s2.trans s3).trans s4⟩
    ·rintro σ H2 ⟨t,rfl,s2⟩
     walk_at "wh"
     exact q _ s2
 unfold zo1
 exact key 6
theorem okI (i:Int) (n:Nat):okD n (.int i):=⟨rfl,rfl,zda6 _⟩
theorem zs5 {H:Hp}{α β:Type}{mk:β->V}{D:α->PyData}{P:β->α->Prop}(k:∀ x a,ShV H x (D a)->∃ y,x=mk y/\P y a):∀ {xs:List V}{as:List α},ShL H xs (as.map D)->∃ ys:List β,xs=ys.map mk/\ys.length=as.length/\∀ (i:Nat) y a,ys[i]?=some y->as[i]?=some a->P y a
 | xs,[],h=>by
  cases h
  exact⟨[],rfl,rfl,fun i y a e=>by simp at e⟩
 | xs,a :: as,h=>by
  cases h with
  | cons h1 h2=>
   obtain⟨y,rfl,p⟩:=k _ _ h1
   obtain⟨ys,rfl,l,q⟩:=zs5 k h2
   refine⟨y :: ys,rfl,by rw[zdb6,zdb6,l],fun i y' a' e1 e2=>?_⟩
   cases i with
   | zero=>cases e1;cases e2;exact p
   | succ i=>exact q i y' a' e1 e2
def rowN (k:Nat) (r:Nat->Int):PyData:=.list ((List.range k).map fun y=>.int (r y))
def zbn3 (n m:Nat) (g:Nat->Nat->Int):PyData:=.list ((List.range n).map fun x=>rowN m (g x))
def fdN (n m:Nat):Fd->PyData
 | .more w t=>.tuple [.str "more",.int w,.int t]
 | .lead w t=>.tuple [.str "lead",.int w,.int t]
 | .tab g=>.tuple [.str "table",zbn3 (n+1) (m+1) g]
def batN (n m:Nat) (fs:List Fd):PyData:=.tuple [.int n,.int m,.list (fs.map (fdN n m))]
theorem zcl6 {H:Hp}{p:Addr}{k:Nat}{r:Nat->Int}(h:H p=some (.lst (rowV k r))):ShV H (.ref p) (rowN k r):=by
 unfold rowV at h
 refine .lst h (ShL.idx (by rw[zcy0,zcy0]) fun i x d g1 g2=>?_)
 rw[zcy2] at g1 g2
 obtain⟨t,et,rfl⟩:=zcy6.mp g1
 rw[et] at g2
 cases g2
 exact .int _
theorem zcq3 {H:Hp}{v:V}{k:Nat}{r:Nat->Int}(h:ShV H v (rowN k r)):∃ p,v=.ref p/\H p=some (.lst (rowV k r)):=by
 unfold rowN at h
 cases h with
 | lst e l=>
  obtain⟨ys,rfl,ll,q⟩:=zs5 (mk:=fun y:Int=>V.int y) (D:=fun y:Nat=>PyData.int (r y)) (P:=fun y a=>y=r a) (fun x a h=>by cases h;exact⟨_,rfl,rfl⟩) l
  refine⟨_,rfl,?_⟩
  rw[e]
  refine congrArg some (congrArg HO.lst (zdd0 fun i=>?_))
  unfold rowV
  rw[zcy2,zcy2]
  by_cases hi:i<k
  ·obtain⟨y,ey⟩:∃ y,ys[i]?=some y:=⟨_,zcx9 (by rw[ll,zda2];exact hi)⟩
   rw[ey,zdb0 hi,q i y i ey (zdb0 hi)];rfl
  ·rw[zda0 (by rw[ll,zda2];omega),zda0 (by rw[zda2];omega)];rfl
theorem zas1 {H:Hp}{q:Addr}{ps:List Addr}{n m:Nat}{g:Nat->Nat->Int}(G:zd3 H q ps n m g):ShV H (.ref q) (zbn3 n m g):=by
 refine .lst G.out (ShL.idx (by rw[zcy0,zcy0,zda2,G.len]) fun i x d e1 e2=>?_)
 rw[zcy2] at e1 e2
 obtain⟨r,er,rfl⟩:=zcy6.mp e1
 obtain⟨j,ej,rfl⟩:=zcy6.mp e2
 obtain⟨hj1,hj2⟩:=zcy4.mp ej
 rw[List.getElem_range] at hj2
 subst hj2
 exact zcl6 (G.row i r er)
theorem zbj5 {H:Hp}{v:V}{n m:Nat}{g:Nat->Nat->Int}(h:ShV H v (zbn3 n m g)):∃ q ps,v=.ref q/\zd3 H q ps n m g:=by
 unfold zbn3 at h
 cases h with
 | lst e l=>
  obtain⟨ys,rfl,ll,q⟩:=zs5 (mk:=V.ref) (P:=fun p x=>H p=some (.lst (rowV m (g x)))) (fun x a h=>zcq3 h) l
  rw[zda2] at ll
  exact⟨_,ys,rfl,e,ll,fun i p ep=>q i p i ep (zdb0 (by have:=(zcy4.mp ep).1;omega))⟩
theorem fdN_sh {H:Hp}{p:Addr}{n m:Nat}{f:Fd}(F:FdAt H p n m f):ShV H (.ref p) (fdN n m f):=by
 cases f with
 | more w t=>exact .tup F (.cons (.str _) (.cons (.int _) (.cons (.int _) .nil)))
 | lead w t=>exact .tup F (.cons (.str _) (.cons (.int _) (.cons (.int _) .nil)))
 | tab g=>
  obtain⟨q,ps,h1,G⟩:=F
  exact .tup h1 (.cons (.str _) (.cons (zas1 G) .nil))
theorem fdN_of {H:Hp}{v:V}{n m:Nat}{f:Fd}(h:ShV H v (fdN n m f)):∃ p,v=.ref p/\FdAt H p n m f:=by
 cases f with
 | more w t=>
  cases h with
  | tup e l=>cases l with | cons a l=>cases a;cases l with | cons a l=>cases a;cases l with | cons a l=>cases a;cases l;exact⟨_,rfl,e⟩
 | lead w t=>
  cases h with
  | tup e l=>cases l with | cons a l=>cases a;cases l with | cons a l=>cases a;cases l with | cons a l=>cases a;cases l;exact⟨_,rfl,e⟩
 | tab g=>
  cases h with
  | tup e l=>
   cases l with
   | cons a l=>
    cases a
    cases l with
    | cons a l=>
     obtain⟨q,ps,rfl,G⟩:=zbj5 a
     cases l
     exact⟨_,rfl,q,ps,e,G⟩
theorem zbe9 {H:Hp}{b l:Addr}{ps:List Addr}{n m:Nat}{fs:List Fd}(B:zl4 H b l ps n m fs):ShV H (.ref b) (batN n m fs):=by
 refine .tup B.out (.cons (.int _) (.cons (.int _) (.cons (.lst B.lst (ShL.idx (by rw[zcy0,zcy0,B.len]) fun i x d e1 e2=>?_)) .nil)))
 rw[zcy2] at e1 e2
 obtain⟨p,ep,rfl⟩:=zcy6.mp e1
 obtain⟨f,ef,rfl⟩:=zcy6.mp e2
 exact fdN_sh (B.fld i p f ep ef).1
theorem zcn0 {H:Hp}{v:V}{n m:Nat}{fs:List Fd}(h:ShV H v (batN n m fs)) (ok:∀ f∈fs,f.Ok):∃ b l ps,v=.ref b/\zl4 H b l ps n m fs:=by
 unfold batN at h
 cases h with
 | tup e l=>
  cases l with
  | cons a l=>
   cases a
   cases l with
   | cons a l=>
    cases a
    cases l with
    | cons a l=>
     cases l
     cases a with
     | lst e2 l2=>
      obtain⟨ys,rfl,ll,q⟩:=zs5 (mk:=V.ref) (P:=fun p f=>FdAt H p n m f) (fun x a h=>fdN_of h) l2
      exact⟨_,_,ys,rfl,e,e2,ll,fun i p f e1 e3=>⟨q i p f e1 e3,ok f (zcy7 e3)⟩⟩
theorem zl4.oks {H:Hp}{b l:Addr}{ps:List Addr}{n m:Nat}{fs:List Fd}(B:zl4 H b l ps n m fs):∀ f∈fs,f.Ok:=fun f hf=>by
 obtain⟨i,ei⟩:=zdb9 hf
 have:=(zcy4.mp ei).1
 have bl:=B.len
 exact (B.fld i _ f (zcx9 (by walk_at "om")) ei).2
theorem rwN_of {H:Hp}{v:V}{xs:List (Int×Int×Int)}(h:ShV H v (zk8 xs)):∃ r:Addr×List Addr,v=.ref r.1/\RwAt H r.1 r.2 xs:=by
 unfold zk8 at h
 cases h with
 | lst e l=>
  obtain⟨ys,rfl,ll,q⟩:=zs5 (mk:=V.ref) (P:=fun p (z:Int×Int×Int)=>H p=some (.tup [.int z.1,.int z.2.1,.int z.2.2])) (fun x a h=>by
   unfold zaa3 at h
   cases h with
   | tup e l=>cases l with | cons a l=>cases a;cases l with | cons a l=>cases a;cases l with | cons a l=>cases a;cases l;exact⟨_,rfl,e⟩) l
  exact⟨(_,ys),rfl,e,ll,q⟩
theorem stN_of {H:Hp}{v:V}{xss:List (List (Int×Int×Int))}(h:ShV H v (stmD xss)):∃ st rs,v=.ref st/\StW H st rs xss:=by
 unfold stmD at h
 cases h with
 | lst e l=>
  obtain⟨ys,rfl,ll,q⟩:=zs5 (mk:=fun r:Addr×List Addr=>V.ref r.1) (P:=fun r xs=>RwAt H r.1 r.2 xs) (fun x a h=>rwN_of h) l
  exact⟨_,ys,rfl,e,ll,q⟩
theorem zap8 {n m:Nat}(hn:n<=1000) (hm:m<=1000) (g:Nat->Nat->Int):okD 2 (zbn3 n m g):=okD.list (n:=1) (by rw[zcy0,zda2];exact hn) fun d hd=>by
 obtain⟨x,_,rfl⟩:=zda1.mp hd
 exact okD.list (n:=0) (by rw[zcy0,zda2];exact hm) fun d hd=>by
  obtain⟨y,_,rfl⟩:=zda1.mp hd
  exact okI _ _
theorem fdN_ok {n m:Nat}(hn:n<=100) (hm:m<=100) (f:Fd):okD 3 (fdN n m f):=by
 have two:∀ (w:Str) (i j:Int),PyData.strOk w=true->okD 3 (.tuple [.str w,.int i,.int j]):=fun w i j hw=>okD.tuple (n:=2) (by simp) fun d hd=>by
  simp only[zcz5,zdb7,or_false] at hd
  rcases hd with rfl|rfl|rfl
  ·exact⟨rfl,hw,zda6 _⟩
  ·exact okI _ _
  ·exact okI _ _
 cases f with
 | more w t=>exact two _ _ _ (by decide +kernel)
 | lead w t=>exact two _ _ _ (by decide +kernel)
 | tab g=>
  refine okD.tuple (n:=2) (by simp) fun d hd=>?_
  simp only[zcz5,zdb7,or_false] at hd
  rcases hd with rfl|rfl
  ·exact⟨rfl,by decide +kernel,zda6 _⟩
  ·exact zap8 (by walk_at "om") (by walk_at "om") g
theorem zcq7 {n m:Nat}{fs:List Fd}(O:OkB n m fs):okD 5 (batN n m fs):=okD.tuple (n:=4) (by simp) fun d hd=>by
 have o1:=O.1
 have o2:=O.2
 simp only[zcz5,zdb7,or_false] at hd
 rcases hd with rfl|rfl|rfl
 ·exact okI _ _
 ·exact okI _ _
 ·exact okD.list (n:=3) (by rw[zcy0];omega) fun d hd=>by
   obtain⟨f,_,rfl⟩:=zda1.mp hd
   exact fdN_ok (by walk_at "om") (by walk_at "om") f
theorem zcg2 (sd:Bool) (x:Int):optL sd [x]=x:=zdb2.mp (zv8 sd (xs:=[x]) (by simp))
theorem zbh3 {sd:Bool}{D:Nat->Nat->Int}{F h:Nat}:∀ i,i+1<=F->(zd7 D (fun k=>tabR sd ((dsL D F).drop k)) h i).1.length=i/\(zd7 D (fun k=>tabR sd ((dsL D F).drop k)) h i).1.sum+(zd7 D (fun k=>tabR sd ((dsL D F).drop k)) h i).2=h/\((List.range i).map fun j=>D j ((zd7 D (fun k=>tabR sd ((dsL D F).drop k)) h i).1.getD j 0)).sum+tabR sd ((dsL D F).drop i) (zd7 D (fun k=>tabR sd ((dsL D F).drop k)) h i).2=tabR sd (dsL D F) h
 | 0,_=>⟨rfl,by show 0+h=h;omega,by show (0:Int)+tabR sd ((dsL D F).drop 0) h=_;rw[List.drop_zero];omega⟩
 | i+1,hi=>by
  obtain⟨l,s,t⟩:=zbh3 (sd:=sd) (D:=D) (F:=F) (h:=h) i (by walk_at "om")
  generalize ea:zd7 D (fun k=>tabR sd ((dsL D F).drop k)) h i=a at l s t
  obtain⟨q,left⟩:=a
  have l:q.length=i:=l
  have s:q.sum+left=h:=s
  have t:((List.range i).map fun j=>D j (q.getD j 0)).sum+tabR sd ((dsL D F).drop i) left=tabR sd (dsL D F) h:=t
  have st:=zaq0 (sd:=sd) (D:=D) (F:=F) (k:=i) (by walk_at "om") left
  have hm:tabR sd ((dsL D F).drop i) left∈(List.range (left+1)).map fun s=>D i s+tabR sd ((dsL D F).drop (i+1)) (left - s):=by
   rw[st]
   exact zv8 sd (by simp)
  obtain⟨g,_⟩:=zah6 hm
  have e1:zd7 D (fun k=>tabR sd ((dsL D F).drop k)) h (i+1)=(q++[zaa8 (tabR sd ((dsL D F).drop i) left) ((List.range (left+1)).map fun s=>D i s+tabR sd ((dsL D F).drop (i+1)) (left - s))],left - zaa8 (tabR sd ((dsL D F).drop i) left) ((List.range (left+1)).map fun s=>D i s+tabR sd ((dsL D F).drop (i+1)) (left - s))):=by
   show ((zd7 D (fun k=>tabR sd ((dsL D F).drop k)) h i).1++_,_)=_
   rw[ea]
  rw[e1]
  generalize zaa8 (tabR sd ((dsL D F).drop i) left) ((List.range (left+1)).map fun s=>D i s+tabR sd ((dsL D F).drop (i+1)) (left - s))=z at g
  rw[zcy2] at g
  obtain⟨z',ez,eg⟩:=zcy6.mp g
  have hz:=(zcy4.mp ez).1
  rw[zda2] at hz
  rw[zdb0 hz] at ez
  cases ez
  refine⟨by rw[zcz8,l];rfl,by rw[zdf0];simp;omega,?_⟩
  rw[zde2,zda3,zdf0]
  have e2:(List.range i).map (fun j=>D j ((q++[z]).getD j 0))=(List.range i).map fun j=>D j (q.getD j 0):=zda4 fun j hj=>by
   have:=zdc0.mp hj
   rw[zcy3,zcy3,zdc3 (by walk_at "om")]
  have e3:(q++[z]).getD i 0=z:=by rw[zcy3,zdc6 (by walk_at "om"),l,Nat.sub_self];rfl
  rw[e2]
  show _+([D i ((q++[z]).getD i 0)]:List Int).sum+_=_
  rw[e3,← t,← eg]
  simp
  omega
theorem zbh5 {sd:Bool}{D:Nat->Nat->Int}{F h:Nat}(hF:1<=F):(zal8 sd D F h).length=F/\(zal8 sd D F h).sum=h/\((List.range F).map fun j=>D j ((zal8 sd D F h).getD j 0)).sum=tabR sd (dsL D F) h:=by
 obtain⟨f,rfl⟩:∃ f,F=f+1:=⟨F - 1,by walk_at "om"⟩
 obtain⟨l,s,t⟩:=zbh3 (sd:=sd) (D:=D) (F:=f+1) (h:=h) f (by walk_at "om")
 unfold zal8
 rw[show f+1 - 1=f by walk_at "om"]
 rw[zbj9 (by walk_at "om"),zcg2] at t
 generalize zd7 D (fun k=>tabR sd ((dsL D (f+1)).drop k)) h f=a at l s t
 obtain⟨q,left⟩:=a
 have l:q.length=f:=l
 have s:q.sum+left=h:=s
 have t:((List.range f).map fun j=>D j (q.getD j 0)).sum+D f left=tabR sd (dsL D (f+1)) h:=t
 refine⟨by rw[zcz8,l];rfl,by rw[zdf0];simp;omega,?_⟩
 rw[zde2,zda3,zdf0]
 have e2:(List.range f).map (fun j=>D j ((q++[left]).getD j 0))=(List.range f).map fun j=>D j (q.getD j 0):=zda4 fun j hj=>by
  have:=zdc0.mp hj
  rw[zcy3,zcy3,zdc3 (by walk_at "om")]
 have e3:(q++[left]).getD f 0=left:=by rw[zcy3,zdc6 (by walk_at "om"),l,Nat.sub_self];rfl
 show ((List.range f).map (fun j=>D j ((q++[left]).getD j 0))).sum+([D f ((q++[left]).getD f 0)]:List Int).sum=_
 rw[e2,e3,← t]
 simp
theorem zao1:∀ {f h:Nat}{q:List Nat},q.length=f+1->q.sum=h->q∈zk5 f h
 | 0,h,[x],_,s=>by
  have:x=h:=by simpa using s
  rw[this]
  exact zdb2.mpr rfl
 | f+1,h,x :: q,l,s=>by
  have l:q.length=f+1:=by simpa using l
  have s:x+q.sum=h:=by simpa using s
  exact List.mem_flatMap.mpr ⟨x,zdc0.mpr (by walk_at "om"),zda1.mpr ⟨q,zao1 l (by walk_at "om"),rfl⟩⟩
theorem planW {sd:Bool}{fs:List Fd}{xss:List (List (Int×Int×Int))}{h:Nat}(h1:1<=fs.length):wonK sd fs xss (zal8 sd (fun k=>dueS sd (fs.getD k (.more 0 0)) (xss.getD k [])) fs.length h) fs.length=tabR sd (zc1 sd fs xss) h:=by
 rw[← zcd6]
 exact (zbh5 h1).2.2
theorem zcg5 {sd:Bool}{t b:Int}(hb:0<b):zp8 sd (lowT (lowT t b*7+1 - 2*(if sd then 1 else 0)) (lowB t b*7)*b) (t*lowB (lowT t b*7+1 - 2*(if sd then 1 else 0)) (lowB t b*7))=false:=by
 have lb:=zbk9 (t:=t) (b:=b) (by walk_at "om")
 have cr:=zaw1 t b
 cases ek:zp8 sd (lowT (lowT t b*7+1 - 2*(if sd then 1 else 0)) (lowB t b*7)*b) (t*lowB (lowT t b*7+1 - 2*(if sd then 1 else 0)) (lowB t b*7)) with
 | false=>rfl
 | true=>
  exfalso
  rw[zai0] at ek
  unfold leS at ek
  cases sd
  ·simp only[zdd5,if_false] at ek
   have:=(zcj8 (t:=t) (b:=b) (u:=lowT t b*7+1 - 2*0) (c:=lowB t b*7) hb (by walk_at "om")).1.mp ek
   have e1:(lowT t b*7+1 - 2*0)*b=7*(lowT t b*b)+b:=by grind
   have e2:t*(lowB t b*7)=7*(t*lowB t b):=by grind
   rw[e1,e2,cr] at this
   omega
  ·simp only[if_true] at ek
   have:=(zcj8 (t:=t) (b:=b) (u:=lowT t b*7+1 - 2*1) (c:=lowB t b*7) hb (by walk_at "om")).2.mp ek
   have e1:(lowT t b*7+1 - 2*1)*b=7*(lowT t b*b) - b:=by grind
   have e2:t*(lowB t b*7)=7*(t*lowB t b):=by grind
   rw[e1,e2,cr] at this
   omega
theorem zau2:∀ ts:List Addr,(ts.map fun r=>[r]).flatten=ts
 | []=>rfl
 | r :: ts=>congrArg (r :: ·) (zau2 ts)
theorem zbp4 {H:Hp}{t:Addr}{ts:List Addr}{F w:Nat}{g:Nat->Nat->Int}(G:zd3 H t ts F w g) (hF:F<=1000) (hw:w<=1000):MkV H 5 (.ref t) (t :: ts):=by
 have row:∀ {n:Nat}{r:Addr}{xs:List Int},H r=some (.lst (xs.map V.int))->xs.length<=1000->MkV H (n+1) (.ref r) [r]:=fun {n r xs} h hl=>by
  have:=MkV.lst (n:=n) (Bs:=xs.map fun _=>[]) h (by rw[zcy0];exact hl) (by rw[zcy0,zcy0]) (fun i x B e1 e2=>by
   rw[zcy2] at e1 e2
   obtain⟨y,_,rfl⟩:=zcy6.mp e1
   obtain⟨_,_,rfl⟩:=zcy6.mp e2
   exact .flat rfl rfl)
  have e:(xs.map fun _=>([]:List Addr)).flatten=[]:=by
   rw[List.flatten_eq_nil_iff]
   intro l hl
   obtain⟨_,_,rfl⟩:=zda1.mp hl
   rfl
  rwa [e] at this
 have:=MkV.lst (n:=4) (Bs:=ts.map fun r=>[r]) G.out (by rw[zcy0,G.len];exact hF) (by rw[zcy0,zcy0]) (fun i x B e1 e2=>by
  rw[zcy2] at e1 e2
  obtain⟨r,er,rfl⟩:=zcy6.mp e1
  obtain⟨r',er',rfl⟩:=zcy6.mp e2
  rw[er] at er'
  cases er'
  have h:=G.row i r er
  rw[zac4] at h
  exact row h (by rw[zcy0,zda2];exact hw))
 rwa [zau2] at this
theorem zcg7 {K:zcy1}{H:Hp}{t t':Addr}{ts ts':List Addr}{F w:Nat}{g:Nat->Nat->Int}(G:zd3 H t ts F w g) (G':zd3 H t' ts' F w g):EqR K H 2 (.ref t) (.ref t') true:=
 EqR.rows (SqL.of G.out) (SqL.of G'.out) (by rw[G.len,G'.len]) fun i p q e1 e2=>⟨_,by have:=G.row i p e1;rw[zac4] at this;exact SqL.of this,by have:=G'.row i q e2;rw[zac4] at this;exact SqL.of this⟩
def ansD (F w:Nat) (g:Nat->Nat->Int) (ns:List Nat):PyData:=.tuple [zbn3 F w g,.list (ns.map fun n=>PyData.int ((n:Nat):Int))]
theorem zcq8 {H:Hp}{p:Addr}{ns:List Nat}(h:H p=some (.lst (ns.map fun n=>V.int ((n:Nat):Int)))):ShV H (.ref p) (.list (ns.map fun n=>PyData.int ((n:Nat):Int))):=by
 refine .lst h (ShL.idx (by rw[zcy0,zcy0]) fun i x d g1 g2=>?_)
 rw[zcy2] at g1 g2
 obtain⟨t,et,rfl⟩:=zcy6.mp g1
 rw[et] at g2
 cases g2
 exact .int _
theorem zbt6 {H:Hp}{p t pn:Addr}{ts:List Addr}{F w:Nat}{g:Nat->Nat->Int}{ns:List Nat}(h:H p=some (.tup [.ref t,.ref pn])) (G:zd3 H t ts F w g) (hp:H pn=some (.lst (ns.map fun n=>V.int ((n:Nat):Int)))):ShV H (.ref p) (ansD F w g ns):=.tup h (.cons (zas1 G) (.cons (zcq8 hp) .nil))
theorem zco4 {ns:List Nat}(h:ns.length<=1000):okD 1 (.list (ns.map fun n=>PyData.int ((n:Nat):Int))):=okD.list (n:=0) (by rw[zcy0];exact h) fun d hd=>by
 obtain⟨y,_,rfl⟩:=zda1.mp hd
 exact okI _ _
theorem ans_ok {F w:Nat}{g:Nat->Nat->Int}{ns:List Nat}(hF:F<=1000) (hw:w<=1000) (h:ns.length<=1000):okD 3 (ansD F w g ns):=okD.tuple (n:=2) (by simp) fun d hd=>by
 simp only[zcz5,zdb7,or_false] at hd
 rcases hd with rfl|rfl
 ·exact zap8 hF hw g
 ·exact (zco4 h).up (by decide)
theorem mod2 (x:Int):∃ sd:Bool,x % 2=if sd then 1 else 0:=by
 rcases (show x % 2=0∨x % 2=1 by walk_at "om") with h|h
 ·exact⟨false,h⟩
 ·exact⟨true,h⟩
def spLaw (K:zcy1):Sp:=fun vs H Q _=>∃ (a:Addr) (ns:List Int),vs=[.ref a]/\SqL K H a (ns.map V.int)/\ns.length<=63/\∀ H',Q (.bl true) H'
set_option maxHeartbeats 0 in
theorem ok_law {f:Addr}{fd:FuncData}(F:Fun K "law" "law" zas8 f fd) (N:Nm mg) (zct3:Def P w K mg base CX0 10 "_law_asked_apart" ["_law_battle_here","_law_side","_law_draws_here"] zd0) (zcv3:Def P w K mg base CX0 3 "_law_battle" ["_law_draws_here","_law_hosts_here","_law_fields"] zh1) (zcu9:Def P w K mg base CX0 3 "_law_by_left" ["_law_battle_here","_law_side","_law_stream_here"] zf6) (zcs3:Def P w K mg base CX0 10 "_law_copied" ["_law_thing"] zj7) (zcv9:Def P w K mg base CX0 1 "_law_draws" ["_law_script","_law_many"] (zi7 K)) (zcs0:Def P w K mg base CX0 1 "_law_hosts" ["_law_battle_here","_law_side"] ze0) (zcu1:Def P w K mg base CX0 1 "_law_lowest" ["_law_top","_law_bottom"] zh4) (zct2:Def P w K mg base CX0 7 "_law_marked" ["_law_thing"] zj8) (zcu4:Def P w K mg base CX0 1 "_law_mix" ["_law_draws_here","_law_at","_law_plans_here"] zk9) (zcu5:Def P w K mg base CX0 7 "_law_once" ["_law_thing"] zo1) (zcr9:Def P w K mg base CX0 8 "_law_plans" ["_law_hosts_here","_law_many"] zg5) (zct1:Def P w K mg base CX0 1 "_law_stream" ["_law_mix_here"] zf1) (zct4:Def P w K mg base CX0 10 "_law_table_is_so" ["_law_battle_here","_law_side","_law_stream_here","_law_table_here"] zd1) (zct0:Def P w K mg base CX0 2 "_law_won" ["_law_battle_here","_law_side","_law_stream_here","_law_plan"] zi6) (zcs4:Def P w K mg base CX0 9 "answer_table" ["battle","side","stream"] ze2) (zcs6:Def P w K mg base CX0 9 "best_answer" ["battle","side","stream"] zf0) (zcx0:Def P w K mg base CX0 9 "judged" ["battle","side","worth","paper"] zt2) (zcx8:Def P w K mg base CX0 9 "shown" ["battle","side","stream"] zv9):FnOk P w K mg base CX0 12 f fd ["_law_script"] (spLaw K):=by
 refine F.ok zt5 (fun vs H Q E h=>by obtain⟨n,k,rfl,_⟩:=h;rfl) (fun cdv A outer s H vs Q E hr h=>?_)
 obtain⟨a,ns0,rfl,hS,hlen,k⟩:=h
 have hu:=hu40 hr
 refine⟨_,(za2 (psS (i:=1) zt5.nd (pD zcv9 hr zb5 (za0 (pq 0) (za0 za3 za1))))
   (za2 (psS (i:=2) zt5.nd (peC (zaf3 (K:=K) rfl (by exact hu)) (zb4 oMod (za7 (K:=K) rfl (pq 1) za3) za3) za3))
   (za2 (psS (i:=3) zt5.nd (pD zcv3 hr zb5 (za0 (pq 1) (za0 (za7 (K:=K) rfl (zr9 (za0 za3 (za0 za3 za1))) (pT cInt N.int_ zaj6 (za0 (pq 2) za1))) (za0 (za7 (K:=K) rfl (zr9 (za0 za3 (za0 za3 za1))) (pT cInt N.int_ zaj6 (za0 (pq 2) za1))) za1)))))
   (za2 (psS (i:=4) zt5.nd (za7 (K:=K) rfl (zr9 (za0 zf2 (za0 zf2 za1))) (zb4 oMod (za7 (K:=K) rfl (pq 1) za3) za3)))
   (za2 (ps_asg (pD zcs0 hr zb5 (za0 (pq 3) (za0 (pq 4) za1))) (zp0 (K:=K) (n:=2) rfl rfl (zb7 (za6 (i:=5) zt5.nd rfl (by first|exact Or.inl rfl|exact Or.inr rfl)) (zb7 (za6 (i:=6) zt5.nd rfl (by first|exact Or.inl rfl|exact Or.inr rfl)) zo3))))
   (za2 (psS (i:=7) zt5.nd (pD zct1 hr zb5 (za0 (pD zcu4 hr zb5 (za0 (pq 1) (za0 za3 (za0 (pD zcr9 hr zb5 (za0 (pq 5) (za0 (pB (zp2 (K:=K) rfl) N.len_ zg0 (za0 (za7 (K:=K) rfl (pq 3) za3) za1)) za1))) za1)))) za1)))
   (za2 (psS (i:=8) zt5.nd (zm8 (za0 (pD zcs3 hr zb5 (za0 (pq 3) za1)) (za0 (pD zcs3 hr zb5 (za0 (pq 7) za1)) za1))))
   (za2 (psS (i:=9) zt5.nd (pD zcs4 hr zb5 (za0 (za7 (K:=K) rfl (pq 8) za3) (za0 (pq 4) (za0 (za7 (K:=K) rfl (pq 8) za3) za1)))))
   (za2 (zad6 (psIf (ptW (zbb9 (ptV (pq 2)) (zab6 (ptC (zae5 (K:=K) rfl (by exact hu)) (pq 9) (pD zcu9 hr zb5 (za0 (pq 3) (za0 (pq 4) (za0 (pq 7) za1)))))))) (za5 (za8 zu4)) zb6))
   (za2 (zad6 (psIf (ptW (zbb9 (zm9 (ptV (pq 2))) (zab6 (zm9 (ptV (pD zct4 hr zb5 (za0 (pq 3) (za0 (pq 4) (za0 (pq 7) (za0 (pq 9) za1)))))))))) (za5 (za8 zu4)) zb6))
   (za2 (psS (i:=10) zt5.nd (pB (zbw3 (K:=K) rfl rfl) N.sum_ zav0 (za0 (zj2 (N:=["_law_left","_law_sent","_law_flow"]) (ks:=[none,none,none]) (zk2 (K:=K) rfl (za7 (K:=K) rfl (pq 7) za3)) (fun cl C s3 H3 fp=>(zp0 (K:=K) (n:=3) rfl rfl (zb7 (za6 (i:=0) nb_23 rfl (by first|exact Or.inl rfl|exact Or.inr rfl)) (zb7 (za6 (i:=1) nb_23 rfl (by first|exact Or.inl rfl|exact Or.inr rfl)) (zb7 (za6 (i:=2) nb_23 rfl (by first|exact Or.inl rfl|exact Or.inr rfl)) zo3))))) (fun cl C s3 H3 fp=>zd5) (fun cl C s3 H3 fp=>(pq 2)) (.skip (.skip (.skip .nil)))) za1)))
   (za2 (psS (i:=11) zt5.nd (pD zcu1 hr zb5 (za0 (za7 (K:=K) rfl (za7 (K:=K) rfl (pq 9) za3) (pq 6)) (za0 (pq 10) za1))))
   (za2 (psS (i:=12) zt5.nd (pD zcs6 hr zb5 (za0 (za7 (K:=K) rfl (pq 8) za3) (za0 (pq 4) (za0 (za7 (K:=K) rfl (pq 8) za3) za1)))))
   (za2 (zad6 (psIf (ptW (pwOr (ptC (zae5 (K:=K) rfl (by exact hu)) (pD zcx8 hr zb5 (za0 (za7 (K:=K) rfl (pq 8) za3) (za0 (pq 4) (za0 (za7 (K:=K) rfl (pq 8) za3) za1)))) (pq 11)) (zac6 (ptC (zcc6 (K:=K) rfl (by exact hu)) (pq 12) (pD zcr9 hr zb5 (za0 (pq 6) (za0 (pB (zp2 (K:=K) rfl) N.len_ zg0 (za0 (za7 (K:=K) rfl (pq 3) za3) za1)) za1))))))) (za5 (za8 zu4)) zb6))
   (za2 (zad6 (psIf (ptC (zae5 (K:=K) rfl (by exact hu)) (pD zct0 hr zb5 (za0 (pq 3) (za0 (pq 4) (za0 (pq 7) (za0 (pq 12) za1))))) (za7 (K:=K) rfl (za7 (K:=K) rfl (pq 9) za3) (pq 6))) (za5 (za8 zu4)) zb6))
   (za2 (zad6 (psIf (ptC zco5 (pD zcx0 hr zb5 (za0 (pq 3) (za0 (pq 4) (za0 (pq 11) (za0 (zm8 (za0 (pq 7) (za0 (pq 9) za1))) za1))))) zae4) (za5 (za8 zu4)) zb6))
   (za2 (psS (i:=13) zt5.nd (pD zcu1 hr zb5 (za0 (zb4 oSub (zb4 oAdd (zb4 oMul (za7 (K:=K) rfl (pq 11) za3) za3) za3) (zb4 oMul za3 (zb4 oMod (za7 (K:=K) rfl (pq 1) za3) za3))) (za0 (zb4 oMul (za7 (K:=K) rfl (pq 11) za3) za3) za1))))
   (za2 (zad6 (psIf (ptC (zae5 (K:=K) rfl (by exact hu)) (pD zcx0 hr zb5 (za0 (pq 3) (za0 (pq 4) (za0 (pq 13) (za0 (zm8 (za0 (pq 7) (za0 (pq 9) za1))) za1))))) (zm8 (za0 zf2 za1))) (za5 (za8 zu4)) zb6))
   (za2 (zad6 (psIf (ptC (zae5 (K:=K) rfl (by exact hu)) (pq 8) (zm8 (za0 (pq 3) (za0 (pq 7) za1)))) (za5 (za8 zu4)) zb6))
   (za2 (psS (i:=14) zt5.nd (zm8 (za0 (pD zcs3 hr zb5 (za0 (pq 9) za1)) (za0 (pT (zbg6 (K:=K) rfl) N.list_ zk6 (za0 (pq 12) za1)) za1))))
   (za2 (ze7 (pD zct3 hr zb5 (za0 (pq 3) (za0 (za7 (K:=K) rfl (zr9 (za0 zf2 (za0 zf2 za1))) (zb4 oMod (za7 (K:=K) rfl (pq 1) za3) za3)) (za0 (pq 1) za1)))))
   (za2 (zad6 (psIf (ptC (zae5 (K:=K) rfl (by exact hu)) (zm8 (za0 (pq 9) (za0 (pq 12) za1))) (pq 14)) (za5 (za8 zu4)) zb6))
   (za2 (ze7 (pD zct2 hr zb5 (za0 (pq 9) za1)))
   (za2 (ze7 (zbo6 (K:=K) rfl (pq 12)))
   (za2 (zad6 (psIf (zm9 (ptV (pD zcu5 hr zb5 (za0 (pq 9) za1)))) (za5 (za8 zu4)) zb6))
   (za5 (za8 (peC (zaf3 (K:=K) rfl (by exact hu)) (zm8 (za0 (pD zcs4 hr zb5 (za0 (pq 3) (za0 (pq 4) (za0 (pq 7) za1)))) (za0 (pD zcs6 hr zb5 (za0 (pq 3) (za0 (pq 4) (za0 (pq 7) za1)))) za1))) (pq 14))))))))))))))))))))))))))))),?_⟩
 refine zcb4 hS hlen (fun dr ds H1 f1 s1 h1 hd=>?_)
 obtain⟨x30,e30,_,_⟩:=zx3 hd (z:=30) (by walk_at "om") (by walk_at "om")
 obtain⟨x24,e24,_,_⟩:=zx3 hd (z:=24) (by walk_at "om") (by walk_at "om")
 obtain⟨sd,esd⟩:=mod2 x24
 refine zb9 (v:=.int x30) h1 e30 ?_
 refine zaa5 (by decide) ?_
 obtain⟨gr,egr⟩:∃ gr:Bool,decide (x30 % 16=1)=gr:=⟨_,rfl⟩
 walk_at "wh"
 rw[egr]
 refine ze6 (fun q2 H2 f2 s2 h2=>?_)
 refine zb9 (v:=.int ((if gr then 10 else 5:Nat):Int)) h2 (by cases gr<;>rfl) ?_
 refine ze6 (fun q3 H3 f3 s3 h3=>?_)
 refine zb9 (v:=.int ((if gr then 5 else 4:Nat):Int)) h3 (by cases gr<;>rfl) ?_
 have s13:=s2.trans s3
 refine zbn4 (s13 _ _ h1) hd (by split<;>omega) (by split<;>omega) (by split<;>omega) (fun bt l ps n m fs H4 s4 B4 O _ D=>?_)
 have o1:=O.1
 have o2:=O.2
 have B4:=B4.same (zr4 _ _)
 have oks:=B4.oks
 have bl:=B4.len
 have s14:=s13.trans s4
 obtain⟨ho,hw⟩:=zad5 O sd
 refine ze6 (fun q5 H5 f5 s5 h5=>?_)
 refine zb9 (v:=.int x24) ((s14.trans s5) _ _ h1) e24 ?_
 refine zaa5 (by decide) ?_
 rw[esd]
 refine zb9 (v:=.str (wd sd)) h5 (by cases sd<;>rfl) ?_
 refine zae3 (s5 _ _ B4.out) (fun q6 H6 f6 s6 h6=>?_)
 have s46:=s5.trans s6
 refine zg1 h6 ?_
 refine za9 (v:=.ref l) (s46 _ _ B4.out) rfl ?_
 refine ze8 (s46 _ _ B4.lst) ?_
 rw[zcy0,bl,show ((fs.length:Nat):Int)=((fs.length - 1:Nat):Int)+1 by walk_at "om"]
 refine zad7 (by walk_at "om") (by walk_at "om") (fun r pp H7 f7 s7 R7=>?_)
 have s47:=s46.trans s7
 refine zbs2 (t:=25) ((s14.trans s47) _ _ h1) hd (by walk_at "om") R7 (by walk_at "om") (by walk_at "om") (fun mx ts0 ms H8 s8 M8 OS ml mw=>?_)
 rw[show fs.length - 1+1=fs.length by walk_at "om"] at OS
 have s48:=s47.trans s8
 refine zca7 (M8.same (zr4 _ _)) OS.ne (by walk_at "om") (by walk_at "om") (fun x hx=>(OS.all x hx).2.1) (fun st rs xss H9 s9 S9 SI=>?_)
 have s49:=s48.trans s9
 have S9:=S9.same (zr4 _ _)
 have B9:=B4.same s49
 obtain⟨SG,hs,od,x64⟩:=zci6 (sd:=sd) B9 O D S9 SI OS ml mw
 have xl:=SG.2.2.2.2.1
 have okr:=SG.2.2.2.2.2
 have dr9:=(s14.trans s49) _ _ h1
 have bok:=zcq7 O
 have r0:((xss.getD 0 []).map fun z=>z.2.2).sum=zo2 ms:=by
  have g:xss[0]?=some (xss.getD 0 []):=by rw[zcy3,zcx9 (by walk_at "om")];rfl
  exact zax3 OS (by walk_at "om") (SI.2 0 _ g).1
 have wb:=zbh2 OS (zdb4 ml (by decide)) mw
 have tb:=top_bd (sd:=sd) OS (zdb4 ml (by decide)) mw SI oks D (by walk_at "om")
 have lwb:=low_bd tb wb
 have wp:0<((xss.getD 0 []).map fun z=>z.2.2).sum/\((xss.getD 0 []).map fun z=>z.2.2).sum<10 ^ 100:=by
  rw[r0]
  have p:5*(10:Int) ^ 20<10 ^ 100:=by decide
  generalize (10:Int) ^ 100=N at p ⊢
  exact⟨by walk_at "om",by walk_at "om"⟩
 have w200:=zbt7 wb
 refine zbc5 (zbe9 B9) bok.1 (zdb4 bok.2.2 (by decide)) (fun v10 H10 s10 N10=>?_)
 obtain⟨b',l',ps',rfl,B10⟩:=zcn0 (N10.same (zr4 _ _)) oks
 refine zbc5 (S9.same s10).sh od.1 (zdb4 od.2.2 (by decide)) (fun v11 H11 s11 N11=>?_)
 obtain⟨st',rs',rfl,S11⟩:=stN_of (N11.same (zr4 _ _))
 refine zc7 (fun hd12 H12 f12 s12 h12=>?_)
 have s9_12:=(s10.trans s11).trans s12
 have B12:=(B10.same s11).same s12
 have S12:=S11.same s12
 have SG12:StG H12 b' l' st' ps' n m sd fs rs' xss:=⟨B12,O,D,S12,xl,okr⟩
 refine za9 (v:=.ref b') h12 rfl ?_
 refine za9 (v:=.ref st') h12 rfl ?_
 refine zu2 SG12 hs od.1 (fun t pn0 ts H13 s13' A13=>?_)
 have s9_13:=s9_12.trans s13'
 have T13:=A13.tab.same (zr4 _ _)
 have SG13:StG H13 bt l st ps n m sd fs rs xss:=⟨SG.1.same s9_13,O,D,SG.2.2.2.1.same s9_13,xl,okr⟩
 have hn12:∀ x∈t :: ts,H12 x=none:=fun x hx=>by
  rcases zcz5.mp hx with rfl|hx
  ·exact (zx2 A13.tab.out).1
  ·obtain⟨i,ei⟩:=zdb9 hx
   exact (zx2 (A13.tab.row i x ei)).1
 have nd13:(t :: ts).Nodup:=zdd9.mpr ⟨A13.nin,A13.nd⟩
 have isl:∀ x∈t :: ts,∃ o,H13 x=some o:=fun x hx=>by
  rcases zcz5.mp hx with rfl|hx
  ·exact⟨_,T13.out⟩
  ·obtain⟨i,ei⟩:=zdb9 hx
   exact⟨_,T13.row i x ei⟩
 clear N10 N11 B10 S11
 refine zan1 (fun σ J=>σ=[some (.ref a),some (.ref dr),some (.bl gr),some (.ref bt),some (.str (wd sd)),some (.int (ownH sd n m)),some (.int (othH sd n m)),some (.ref st),some (.ref hd12),some (.ref t),none,none,none,none,none]/\Same H13 J) ?_ ?_
 ·walk_at "wh"
  cases gr
  ·refine br_F ?_
   refine br_F ?_
   walk_at "wh"
   exact⟨rfl,Same.refl _⟩
  ·refine br_T ?_
   refine zbz0 SG13 (fun t2 ts2 I s2' G2=>?_)
   refine zbo8 (zcg7 (T13.same s2') G2) ?_
   refine br_F ?_
   walk_at "wh"
   exact⟨rfl,s2'⟩
 rintro σ H14 ⟨rfl,s14'⟩
 refine zan1 (fun σ J=>σ=[some (.ref a),some (.ref dr),some (.bl gr),some (.ref bt),some (.str (wd sd)),some (.int (ownH sd n m)),some (.int (othH sd n m)),some (.ref st),some (.ref hd12),some (.ref t),none,none,none,none,none]/\Same H13 J) ?_ ?_
 ·walk_at "wh"
  cases gr
  ·refine br_T ?_
   refine zbo3 ⟨SG13.1.same s14',O,D,SG13.2.2.2.1.same s14',xl,okr⟩ (T13.same s14') (fun I s2'=>?_)
   refine br_F ?_
   walk_at "wh"
   exact⟨rfl,s14'.trans s2'⟩
  ·refine br_F ?_
   refine br_F ?_
   walk_at "wh"
   exact⟨rfl,s14'⟩
 rintro σ H15 ⟨rfl,s15⟩
 have s9_15:=s9_13.trans s15
 have S15:=S9.same s9_15
 obtain⟨rr,err⟩:∃ r,rs[0]?=some r:=⟨_,zcx9 (by have:=S9.len;omega)⟩
 obtain⟨xs,exs⟩:∃ r,xss[0]?=some r:=⟨_,zcx9 (by walk_at "om")⟩
 have RW:=S15.row 0 rr xs err exs
 have rwl:=RW.len
 have xs64:=x64 xs (zcy7 exs)
 have ex0:xss.getD 0 []=xs:=by rw[zcy3,exs];rfl
 refine zb9 (v:=.ref rr.1) S15.out (zc5 (j:=0) (by rw[zcy2,err];rfl)) ?_
 refine zc8 RW.out ?_
 refine zo4 (n:=(rr.2.map V.ref).length) (Wk.list (SqL.of RW.out)) (by rw[zcy0,sizeLine_eq];omega) (fun j=>.int (xs.getD j (0,0,0)).2.2) (fun _=>true) (fun j σ=>∃ t u v:Option V,σ=[t,u,v]) ⟨none,none,none,rfl⟩ ?_ ?_
 ·rintro j x σ J R' S' hj sJ hx ⟨_,_,_,rfl⟩ kk _
  rw[zcy2] at hx
  obtain⟨b,eb,rfl⟩:=zcy6.mp hx
  obtain⟨y,ey⟩:∃ y,xs[j]?=some y:=⟨_,zcx9 (by have:=(zcy4.mp eb).1;omega)⟩
  rw[show xs.getD j (0,0,0)=y by rw[zcy3,ey];rfl] at kk
  refine zg1 (sJ _ _ (RW.row j b y eb ey)) ?_
  refine br_T ?_
  walk_at "wh"
  exact kk rfl _ _ (Same.refl _) ⟨_,_,_,rfl⟩
 intro ac H16 f16 s16 h16
 rw[ze3,zax0 (by rw[zcy0,rwl]),← ex0] at h16
 have s15_16:=s15.trans s16
 obtain⟨t0,et0,ht0⟩:=(T13.same s15_16).some (i:=0) (by walk_at "om")
 have at0:atI (ts.map V.ref) 0=some (.ref t0):=zc5 (j:=0) (by rw[zcy2,et0];rfl)
 have atO:atI (rowV (othH sd n m+1) (tabR sd ((zc1 sd fs xss).drop 0))) ((othH sd n m:Nat):Int)=some (.int (tabR sd (zc1 sd fs xss) (othH sd n m))):=zc5 (zj0 (by walk_at "om"))
 refine zay8 h16 ?_
 refine zb9 (v:=.ref t0) (s15_16 _ _ T13.out) at0 ?_
 refine zb9 (v:=.int (tabR sd (zc1 sd fs xss) (othH sd n m))) ht0 atO ?_
 refine zau5 wp.1 (by rw[r0];exact w200.2) (fun wo H17 f17 s17 h17=>?_)
 have s13_17:=s15_16.trans s17
 have s12_17:=s13'.trans s13_17
 refine za9 (v:=.ref b') (s12_17 _ _ h12) rfl ?_
 refine za9 (v:=.ref st') (s12_17 _ _ h12) rfl ?_
 refine zv0 ⟨B12.same s12_17,O,D,S12.same s12_17,xl,okr⟩ hs od.1 (fun t' pn ts' H18 s18 A18=>?_)
 have hpn:=(zx2 A18.plan).2
 have fpn:=(zx2 A18.plan).1
 have s12_18:=s12_17.trans s18
 have s13_18:=s13_17.trans s18
 walk_at "wh"
 refine zag9 ?_
 refine za9 (v:=.ref b') (s12_18 _ _ h12) rfl ?_
 refine za9 (v:=.ref st') (s12_18 _ _ h12) rfl ?_
 refine zce2 ⟨B12.same s12_18,O,D,S12.same s12_18,xl,okr⟩ hs od.1 wp (fun sw H19 f19 s19 h19=>?_)
 refine zbo8 (EqR.ints2 h19 ((s18.trans s19) _ _ h17)) ?_
 rw[decide_eq_true ⟨rfl,rfl⟩]
 refine br_F ?_
 have s13_19:=s13_18.trans s19
 have s9_19:=s9_13.trans s13_19
 refine za9 (v:=.ref l) ((s49.trans s9_19) _ _ B4.out) rfl ?_
 refine ze8 ((s49.trans s9_19) _ _ B4.lst) ?_
 rw[zcy0,bl,show ((fs.length:Nat):Int)=((fs.length - 1:Nat):Int)+1 by walk_at "om"]
 refine zad7 (by walk_at "om") (by walk_at "om") (fun r2 pp2 H20 f20 s20 R20=>?_)
 obtain⟨pl1,pl2,_⟩:=zbh5 (sd:=sd) (D:=fun k=>dueS sd (fs.getD k (.more 0 0)) (xss.getD k [])) (F:=fs.length) (h:=othH sd n m) (by walk_at "om")
 have won:=planW (sd:=sd) (fs:=fs) (xss:=xss) (h:=othH sd n m) (by walk_at "om")
 have pin:=zao1 (f:=fs.length - 1) (by walk_at "om") pl2
 obtain⟨qs,eqs⟩:∃ qs,zal8 sd (fun k=>dueS sd (fs.getD k (.more 0 0)) (xss.getD k [])) fs.length (othH sd n m)=qs:=⟨_,rfl⟩
 rw[eqs] at hpn pl1 pl2 won pin
 have hpn20:=(s19.trans s20) _ _ hpn
 have hpnI:H20 pn=some (.lst ((il qs).map V.int)):=by rw[hpn20,← pl_il];rfl
 refine inR_rd (neg:=true) R20.out (fun p hp=>by
  obtain⟨i,ei⟩:=zdb9 hp
  obtain⟨z,ez⟩:∃ z,(zr2 (fs.length - 1) (othH sd n m))[i]?=some z:=⟨_,zcx9 (by have:=(zcy4.mp ei).1;have:=R20.len;omega)⟩
  exact⟨z,R20.row i p z ei ez⟩) hpnI ?_
 have any1:(pp2.any fun r=>decide (intsO (H20 r)=il qs))=true:=by
  have:il qs∈zr2 (fs.length - 1) (othH sd n m):=zda1.mpr ⟨qs,pin,rfl⟩
  obtain⟨i,ei⟩:=zdb9 this
  obtain⟨p,ep⟩:∃ p,pp2[i]?=some p:=⟨_,zcx9 (by have:=(zcy4.mp ei).1;have:=R20.len;omega)⟩
  exact List.any_eq_true.mpr ⟨p,zcy7 ep,decide_eq_true (by rw[R20.row i p _ ep ei,zbg3])⟩
 rw[any1]
 refine br_F ?_
 have s13_20:=s13_19.trans s20
 have s9_20:=s9_13.trans s13_20
 walk_at "wh"
 refine zag9 ?_
 refine zbf2 (B9.same s9_20) D (by walk_at "om") (S9.same s9_20) xl okr hpn20 (by walk_at "om") (fun q hq=>by have:=zam8 q hq;omega) (fun H21 s21=>?_)
 rw[won]
 have s13_21:=s13_20.trans s21
 have s9_21:=s9_13.trans s13_21
 obtain⟨t1,et1,ht1⟩:=(T13.same s13_21).some (i:=0) (by walk_at "om")
 rw[et0] at et1
 cases et1
 refine zb9 (v:=.ref t0) (s13_21 _ _ T13.out) at0 ?_
 refine zb9 (v:=.int (tabR sd (zc1 sd fs xss) (othH sd n m))) ht1 atO ?_
 refine zd2 (zl3 rfl ?_)
 walk_at "wh"
 refine zag9 ?_
 refine zc7 (fun pa H22 f22 s22 h22=>?_)
 have s13_22:=s13_21.trans s22
 have s9_22:=s9_13.trans s13_22
 have h17_22:=(((s18.trans s19).trans s20).trans s21).trans s22
 have P22:PapS H22 pa st t rs xss ts fs.length (othH sd n m+1) (fun k=>tabR sd ((zc1 sd fs xss).drop k)):=⟨h22,S9.same s9_22,T13.same s13_22⟩
 have own:=zch7 sd (tabR sd (zc1 sd fs xss) (othH sd n m)) ((xss.getD 0 []).map fun z=>z.2.2).sum
 rw[r0] at own
 refine zaz9 (B9.same s9_22) O D P22 hs od.1 xl okr (fun k c hk _=>zax6 hk) (h17_22 _ _ h17) (by rw[r0];exact lwb.1) (by rw[r0];exact lwb.2) (zbj6 tb) (by rw[r0];exact w200) (fun _ H23 s23=>?_) (fun no=>by rw[r0] at no;exact absurd (own.symm.trans no) (by decide))
 refine zd2 (zl3 rfl ?_)
 have s9_23:=s9_22.trans s23
 have s17_23:=h17_22.trans s23
 have b0:=lwb.1
 have b1:=lwb.2
 have lbp:=zbk9 (t:=tabR sd (zc1 sd fs xss) (othH sd n m)) (b:=zo2 ms) (by walk_at "om")
 have hwo:=s17_23 _ _ h17
 rw[r0] at hwo
 refine za9 (v:=.int (lowT (tabR sd (zc1 sd fs xss) (othH sd n m)) (zo2 ms))) hwo rfl ?_
 refine zba9 (by decide) (by decide) ?_
 refine zb9 (v:=.int x24) (s9_23 _ _ dr9) e24 ?_
 refine zaa5 (by decide) ?_
 rw[esd]
 refine zh6 (by decide) (by decide) ?_
 refine za9 (v:=.int (lowB (tabR sd (zc1 sd fs xss) (othH sd n m)) (zo2 ms))) hwo rfl ?_
 refine zba9 (by decide) (by decide) ?_
 have more:=zcg5 (sd:=sd) (t:=tabR sd (zc1 sd fs xss) (othH sd n m)) (b:=zo2 ms) (by walk_at "om")
 have bB:(lowB (tabR sd (zc1 sd fs xss) (othH sd n m)) (zo2 ms)).natAbs<=(zo2 ms).natAbs:=zbd4 _ _
 have bT:(lowT (tabR sd (zc1 sd fs xss) (othH sd n m)) (zo2 ms)).natAbs<=(tabR sd (zc1 sd fs xss) (othH sd n m)).natAbs:=zbc8 _ _
 have sdb:(0:Int)<=(if sd then 1 else 0)/\(if sd then (1:Int) else 0)<=1:=by cases sd<;>exact⟨by decide,by decide⟩
 obtain⟨sg,esg⟩:∃ sg:Int,(if sd then (1:Int) else 0)=sg:=⟨_,rfl⟩
 rw[esg] at more sdb
 have mT:=zbc8 (lowT (tabR sd (zc1 sd fs xss) (othH sd n m)) (zo2 ms)*7+1 - 2*sg) (lowB (tabR sd (zc1 sd fs xss) (othH sd n m)) (zo2 ms)*7)
 have mB:=zbd4 (lowT (tabR sd (zc1 sd fs xss) (othH sd n m)) (zo2 ms)*7+1 - 2*sg) (lowB (tabR sd (zc1 sd fs xss) (othH sd n m)) (zo2 ms)*7)
 have big:(10:Int) ^ 61<10 ^ 200:=by decide
 rw[esg]
 generalize lowT (tabR sd (zc1 sd fs xss) (othH sd n m)) (zo2 ms)=lt at *
 generalize lowB (tabR sd (zc1 sd fs xss) (othH sd n m)) (zo2 ms)=lb at *
 refine zau5 (by walk_at "om") (by generalize (10:Int) ^ 200=N at big ⊢;omega) (fun wm H24 f24 s24 h24=>?_)
 walk_at "wh"
 refine zag9 ?_
 refine zc7 (fun pb H25 f25 s25 h25=>?_)
 have s22_25:=(s23.trans s24).trans s25
 have P25:PapS H25 pb st t rs xss ts fs.length (othH sd n m+1) (fun k=>tabR sd ((zc1 sd fs xss).drop k)):=⟨h25,P22.stm.same s22_25,P22.tab.same s22_25⟩
 have s9_25:=s9_22.trans s22_25
 refine zaz9 (B9.same s9_25) O D P25 hs od.1 xl okr (fun k c hk _=>zax6 hk) (s25 _ _ h24) (by generalize (10:Int) ^ 200=N at big ⊢;omega) (by generalize (10:Int) ^ 200=N at big ⊢;omega) (zbj6 tb) (by rw[r0];exact w200) (fun yes=>by rw[r0] at yes;exact absurd (more.symm.trans yes) (by decide)) (fun _ q26 H26 f26 s26 h26=>?_)
 refine zc7 (fun q27 H27 f27 s27 h27=>?_)
 refine zcj4 (n:=1) (d:=.tuple [.str "worth"]) (.tup (s27 _ _ h26) (.cons (.str _) .nil)) (.tup h27 (.cons (.str _) .nil)) (okD.tuple (n:=0) (by simp) fun d hd=>by rw[zdb2.mp hd];exact⟨rfl,by decide +kernel,zda6 _⟩) (by decide) ?_
 refine br_F ?_
 have s13_27:=((s13_22.trans s22_25).trans s26).trans s27
 have s9_27:=s9_13.trans s13_27
 have s12_27:=s13'.trans s13_27
 have s18_27:=(((((s19.trans s20).trans s21).trans s22).trans s22_25).trans s26).trans s27
 walk_at "wh"
 refine zag9 ?_
 refine zc7 (fun q28 H28 f28 s28 h28=>?_)
 have s9_28:=s9_27.trans s28
 have s12_28:=s12_27.trans s28
 refine zcj4 (n:=6) (d:=.tuple [batN n m fs,stmD xss]) (.tup (s12_28 _ _ h12) (.cons (zbe9 (B12.same s12_28)) (.cons (S12.same s12_28).sh .nil))) (.tup h28 (.cons (zbe9 (B9.same s9_28)) (.cons (S9.same s9_28).sh .nil))) (okD.tuple (n:=5) (by simp) fun d hd=>by
  simp only[zcz5,zdb7,or_false] at hd
  rcases hd with rfl|rfl
  ·exact bok
  ·exact od.up (by decide)) (by decide) ?_
 refine br_F ?_
 have s13_28:=s13_27.trans s28
 have s18_28:=s18_27.trans s28
 have gok:=zap8 (n:=fs.length) (m:=othH sd n m+1) (by walk_at "om") (by walk_at "om") (fun k=>tabR sd ((zc1 sd fs xss).drop k))
 refine zbc5 (zas1 (T13.same s13_28)) gok.1 (zdb4 gok.2.2 (by decide)) (fun v29 H29 s29 N29=>?_)
 obtain⟨tk,tks,rfl,G29⟩:=zbj5 N29
 refine zah3 (SqL.of (s29 _ _ (s18_28 _ _ hpn))) (fun pk H30 f30 s30 h30=>?_)
 refine zc7 (fun kp H31 f31 s31 h31=>?_)
 have s28_31:=(s29.trans s30).trans s31
 have K31:ShV (nw H28 H31) (.ref kp) (ansD fs.length (othH sd n m+1) (fun k=>tabR sd ((zc1 sd fs xss).drop k)) qs):=zbt6 (zp7 ((s29.trans s30).free f31) h31) (G29.same (zbc3 (s30.trans s31))) (zp7 (s29.free f30) (s31 _ _ h30))
 have s9_31:=s9_28.trans s28_31
 have aok:=ans_ok (F:=fs.length) (w:=othH sd n m+1) (g:=fun k=>tabR sd ((zc1 sd fs xss).drop k)) (ns:=qs) (by walk_at "om") (by walk_at "om") (by walk_at "om")
 refine ze6 (fun q32 H32 f32 s32 h32=>?_)
 refine zb9 (v:=.int x24) ((s9_31.trans s32) _ _ dr9) e24 ?_
 refine zaa5 (by decide) ?_
 rw[esd]
 refine zb9 (v:=.str (wd (!sd))) h32 (by cases sd<;>rfl) ?_
 refine zcd7 (B9.same (s9_31.trans s32)) O D ((s9_31.trans s32) _ _ dr9) hd (fun H33 s33=>?_)
 have s31_33:=s32.trans s33
 have s28_33:=s28_31.trans s31_33
 have s18_33:=s18_28.trans s28_33
 have s13_33:=s13_28.trans s28_33
 walk_at "wh"
 refine zag9 ?_
 refine zc7 (fun q34 H34 f34 s34 h34=>?_)
 refine zbp7 (zbt6 h34 (T13.same (s13_33.trans s34)) ((s18_33.trans s34) _ _ hpn)) ((K31.same (zr4 _ _)).same (s31_33.trans s34)) aok.2.1 aok.2.1 (zdb4 aok.2.2 (by decide)) ?_
 rw[aok.eqv]
 refine br_F ?_
 have s13_34:=s13_33.trans s34
 have mk:=zbp4 (T13.same s13_34) (by walk_at "om") (by walk_at "om")
 refine zca1 mk nd13 (fun H35 d35=>?_)
 have out:∀ {x:Addr}{o:HO},H12 x=some o->x ∉ t :: ts:=fun {x o} e hx=>by rw[hn12 x hx] at e;cases e
 have hpn34:=(s18_33.trans s34) _ _ hpn
 have npn:pn ∉ t :: ts:=fun hx=>by
  obtain⟨o,eo⟩:=isl pn hx
  rw[s13_17 _ _ eo] at fpn
  cases fpn
 have hpn35:=d35.1 _ _ npn hpn34
 refine zu7 hpn35 ?_
 refine clr_rd hpn35 (fun H36 c36 h36=>?_)
 have ntp:∀ x∈t :: ts,x≠pn:=fun x hx e=>npn (e▸hx)
 have f13pn:H13 pn=none:=s13_17.free fpn
 have mk2:=zbp4 (T13.same (show Same H13 (rm pn H34) from fun x o e=>zag1 (fun z=>by rw[z,f13pn] at e;cases e) (s13_34 _ _ e))) (by walk_at "om") (by walk_at "om")
 have d36:Mkd (rm pn H34) H36 (t :: ts):=⟨fun b o nb e=>c36 _ _ (zz8 e).1 (d35.1 _ _ nb (zz8 e).2),fun a ha xs e=>c36 _ _ (ntp a ha) (d35.2 a ha xs (zz8 e).2)⟩
 walk_at "wh"
 refine zag9 ?_
 refine zcq5 mk2 d36 (fun H37 s37=>?_)
 refine zd2 (br_T ?_)
 have keep:Same (rm pn H12) H37:=fun x o e=>by
  obtain⟨n1,e1⟩:=zz8 e
  exact s37 _ _ (c36 _ _ n1 (d35.1 _ _ (out e1) ((s13'.trans s13_34) _ _ e1)))
 have pnH12:H12 pn=none:=s12_17.free fpn
 have rmn:Same H12 (rm pn H12):=fun x o e=>zag1 (fun z=>by rw[z,pnH12] at e;cases e) e
 have s12_37:=rmn.trans keep
 have s9_37:=s9_12.trans s12_37
 have kept:Same (nw H28 H31) H37:=fun x o e=>by
  obtain⟨e0,e1⟩:=zx2 e
  have n1:x ∉ t :: ts:=fun hx=>by
   obtain⟨o',eo⟩:=isl x hx
   rw[s13_28 _ _ eo] at e0
   cases e0
  have n2:x≠pn:=fun z=>by
   rw[z,s18_28 _ _ hpn] at e0
   cases e0
  exact s37 _ _ (c36 _ _ n2 (d35.1 _ _ n1 ((s31_33.trans s34) _ _ e1)))
 have K37:=K31.same kept
 refine zu2 ⟨B9.same s9_37,O,D,S9.same s9_37,xl,okr⟩ hs od.1 (fun t3 pn3 ts3 H38 s38 A38=>?_)
 have s9_38:=s9_37.trans s38
 refine zv0 ⟨B9.same s9_38,O,D,S9.same s9_38,xl,okr⟩ hs od.1 (fun t4 pn4 ts4 H39 s39 A39=>?_)
 refine zc7 (fun q40 H40 f40 s40 h40=>?_)
 walk_at "wh"
 have h39:=(zx2 A39.plan).2
 rw[eqs] at h39
 refine zbp7 (zbt6 h40 ((A38.tab.same (zr4 _ _)).same (s39.trans s40)) (s40 _ _ h39)) ((K37.same s38).same (s39.trans s40)) aok.2.1 aok.2.1 (zdb4 aok.2.2 (by decide)) ?_
 rw[aok.eqv]
 walk_at "wh"
 exact k _
end
theorem all_mk {l:PySem.W.OpenLaw}{w:World}{K:zcy1}{h:Heap}{mg:Str->Option Value}{fa:Addr}(X:K.In h) (G:h.Ns mainGlobals mg) (hfa:mg "law"=some (.ref fa))
  {zcv0:Tok}{zcu7:Tok}{f_0:Addr}{od_0 an_0:Option Addr}{sl_0:Array (Option Value)}{oc_0 kV_0 dc_0 pm_0 cd_0 ct_0:Value}{f_1:Addr}{od_1 an_1:Option Addr}{sl_1:Array (Option Value)}{oc_1 kV_1 dc_1 pm_1 cd_1 ct_1:Value}{f_2:Addr}{od_2 an_2:Option Addr}{sl_2:Array (Option Value)}{oc_2 kV_2 dc_2 pm_2 cd_2 ct_2:Value}{f_3:Addr}{od_3 an_3:Option Addr}{sl_3:Array (Option Value)}{oc_3 kV_3 dc_3 pm_3 cd_3 ct_3:Value}{f_4:Addr}{od_4 an_4:Option Addr}{sl_4:Array (Option Value)}{oc_4 kV_4 dc_4 pm_4 cd_4 ct_4:Value}{f_5:Addr}{od_5 an_5:Option Addr}{sl_5:Array (Option Value)}{oc_5 kV_5 dc_5 pm_5 cd_5 ct_5:Value}{f_6:Addr}{od_6 an_6:Option Addr}{sl_6:Array (Option Value)}{oc_6 kV_6 dc_6 pm_6 cd_6 ct_6:Value}{f_7:Addr}{od_7 an_7:Option Addr}{sl_7:Array (Option Value)}{oc_7 kV_7 dc_7 pm_7 cd_7 ct_7:Value}{f_8:Addr}{od_8 an_8:Option Addr}{sl_8:Array (Option Value)}{oc_8 kV_8 dc_8 pm_8 cd_8 ct_8:Value}{f_9:Addr}{od_9 an_9:Option Addr}{sl_9:Array (Option Value)}{oc_9 kV_9 dc_9 pm_9 cd_9 ct_9:Value}{f_10:Addr}{od_10 an_10:Option Addr}{sl_10:Array (Option Value)}{oc_10 kV_10 dc_10 pm_10 cd_10 ct_10:Value}{f_11:Addr}{od_11 an_11:Option Addr}{sl_11:Array (Option Value)}{oc_11 kV_11 dc_11 pm_11 cd_11 ct_11:Value}{f_12:Addr}{od_12 an_12:Option Addr}{sl_12:Array (Option Value)}{oc_12 kV_12 dc_12 pm_12 cd_12 ct_12:Value}{f_13:Addr}{od_13 an_13:Option Addr}{sl_13:Array (Option Value)}{oc_13 kV_13 dc_13 pm_13 cd_13 ct_13:Value}{f_14:Addr}{od_14 an_14:Option Addr}{sl_14:Array (Option Value)}{oc_14 kV_14 dc_14 pm_14 cd_14 ct_14:Value}{f_15:Addr}{od_15 an_15:Option Addr}{sl_15:Array (Option Value)}{oc_15 kV_15 dc_15 pm_15 cd_15 ct_15:Value}{f_16:Addr}{od_16 an_16:Option Addr}{sl_16:Array (Option Value)}{oc_16 kV_16 dc_16 pm_16 cd_16 ct_16:Value}{f_17:Addr}{od_17 an_17:Option Addr}{sl_17:Array (Option Value)}{oc_17 kV_17 dc_17 pm_17 cd_17 ct_17:Value}{f_18:Addr}{od_18 an_18:Option Addr}{sl_18:Array (Option Value)}{oc_18 kV_18 dc_18 pm_18 cd_18 ct_18:Value}{f_19:Addr}{od_19 an_19:Option Addr}{sl_19:Array (Option Value)}{oc_19 kV_19 dc_19 pm_19 cd_19 ct_19:Value}{f_20:Addr}{od_20 an_20:Option Addr}{sl_20:Array (Option Value)}{oc_20 kV_20 dc_20 pm_20 cd_20 ct_20:Value}{f_21:Addr}{od_21 an_21:Option Addr}{sl_21:Array (Option Value)}{oc_21 kV_21 dc_21 pm_21 cd_21 ct_21:Value}{f_22:Addr}{od_22 an_22:Option Addr}{sl_22:Array (Option Value)}{oc_22 kV_22 dc_22 pm_22 cd_22 ct_22:Value}{f_23:Addr}{od_23 an_23:Option Addr}{sl_23:Array (Option Value)}{oc_23 kV_23 dc_23 pm_23 cd_23 ct_23:Value}{f_24:Addr}{od_24 an_24:Option Addr}{sl_24:Array (Option Value)}{oc_24 kV_24 dc_24 pm_24 cd_24 ct_24:Value}{f_25:Addr}{od_25 an_25:Option Addr}{sl_25:Array (Option Value)}{oc_25 kV_25 dc_25 pm_25 cd_25 ct_25:Value}{f_26:Addr}{od_26 an_26:Option Addr}{sl_26:Array (Option Value)}{oc_26 kV_26 dc_26 pm_26 cd_26 ct_26:Value}{f_27:Addr}{od_27 an_27:Option Addr}{sl_27:Array (Option Value)}{oc_27 kV_27 dc_27 pm_27 cd_27 ct_27:Value}{f_28:Addr}{od_28 an_28:Option Addr}{sl_28:Array (Option Value)}{oc_28 kV_28 dc_28 pm_28 cd_28 ct_28:Value}{f_29:Addr}{od_29 an_29:Option Addr}{sl_29:Array (Option Value)}{oc_29 kV_29 dc_29 pm_29 cd_29 ct_29:Value}{f_30:Addr}{od_30 an_30:Option Addr}{sl_30:Array (Option Value)}{oc_30 kV_30 dc_30 pm_30 cd_30 ct_30:Value}{f_31:Addr}{od_31 an_31:Option Addr}{sl_31:Array (Option Value)}{oc_31 kV_31 dc_31 pm_31 cd_31 ct_31:Value}{f_32:Addr}{od_32 an_32:Option Addr}{sl_32:Array (Option Value)}{oc_32 kV_32 dc_32 pm_32 cd_32 ct_32:Value}{f_33:Addr}{od_33 an_33:Option Addr}{sl_33:Array (Option Value)}{oc_33 kV_33 dc_33 pm_33 cd_33 ct_33:Value}{f_34:Addr}{od_34 an_34:Option Addr}{sl_34:Array (Option Value)}{oc_34 kV_34 dc_34 pm_34 cd_34 ct_34:Value}{f_35:Addr}{od_35 an_35:Option Addr}{sl_35:Array (Option Value)}{oc_35 kV_35 dc_35 pm_35 cd_35 ct_35:Value}{f_36:Addr}{od_36 an_36:Option Addr}{sl_36:Array (Option Value)}{oc_36 kV_36 dc_36 pm_36 cd_36 ct_36:Value}{f_37:Addr}{od_37 an_37:Option Addr}{sl_37:Array (Option Value)}{oc_37 kV_37 dc_37 pm_37 cd_37 ct_37:Value}{f_38:Addr}{od_38 an_38:Option Addr}{sl_38:Array (Option Value)}{oc_38 kV_38 dc_38 pm_38 cd_38 ct_38:Value}{f_39:Addr}{od_39 an_39:Option Addr}{sl_39:Array (Option Value)}{oc_39 kV_39 dc_39 pm_39 cd_39 ct_39:Value}{f_40:Addr}{od_40 an_40:Option Addr}{sl_40:Array (Option Value)}{oc_40 kV_40 dc_40 pm_40 cd_40 ct_40:Value}{f_41:Addr}{od_41 an_41:Option Addr}{sl_41:Array (Option Value)}{oc_41 kV_41 dc_41 pm_41 cd_41 ct_41:Value}{f_42:Addr}{od_42 an_42:Option Addr}{sl_42:Array (Option Value)}{oc_42 kV_42 dc_42 pm_42 cd_42 ct_42:Value}{f_43:Addr}{od_43 an_43:Option Addr}{sl_43:Array (Option Value)}{oc_43 kV_43 dc_43 pm_43 cd_43 ct_43:Value}{f_44:Addr}{od_44 an_44:Option Addr}{sl_44:Array (Option Value)}{oc_44 kV_44 dc_44 pm_44 cd_44 ct_44:Value}{f_45:Addr}{od_45 an_45:Option Addr}{sl_45:Array (Option Value)}{oc_45 kV_45 dc_45 pm_45 cd_45 ct_45:Value}{f_46:Addr}{od_46 an_46:Option Addr}{sl_46:Array (Option Value)}{oc_46 kV_46 dc_46 pm_46 cd_46 ct_46:Value}{f_47:Addr}{od_47 an_47:Option Addr}{sl_47:Array (Option Value)}{oc_47 kV_47 dc_47 pm_47 cd_47 ct_47:Value}{f_48:Addr}{od_48 an_48:Option Addr}{sl_48:Array (Option Value)}{oc_48 kV_48 dc_48 pm_48 cd_48 ct_48:Value}{f_49:Addr}{od_49 an_49:Option Addr}{sl_49:Array (Option Value)}{oc_49 kV_49 dc_49 pm_49 cd_49 ct_49:Value}{f_50:Addr}{od_50 an_50:Option Addr}{sl_50:Array (Option Value)}{oc_50 kV_50 dc_50 pm_50 cd_50 ct_50:Value}{f_51:Addr}{od_51 an_51:Option Addr}{sl_51:Array (Option Value)}{oc_51 kV_51 dc_51 pm_51 cd_51 ct_51:Value}{f_52:Addr}{od_52 an_52:Option Addr}{sl_52:Array (Option Value)}{oc_52 kV_52 dc_52 pm_52 cd_52 ct_52:Value}{f_53:Addr}{od_53 an_53:Option Addr}{sl_53:Array (Option Value)}{oc_53 kV_53 dc_53 pm_53 cd_53 ct_53:Value}{f_54:Addr}{od_54 an_54:Option Addr}{sl_54:Array (Option Value)}{oc_54 kV_54 dc_54 pm_54 cd_54 ct_54:Value}{f_55:Addr}{od_55 an_55:Option Addr}{sl_55:Array (Option Value)}{oc_55 kV_55 dc_55 pm_55 cd_55 ct_55:Value}{f_56:Addr}{od_56 an_56:Option Addr}{sl_56:Array (Option Value)}{oc_56 kV_56 dc_56 pm_56 cd_56 ct_56:Value}{f_57:Addr}{od_57 an_57:Option Addr}{sl_57:Array (Option Value)}{oc_57 kV_57 dc_57 pm_57 cd_57 ct_57:Value}{f_58:Addr}{od_58 an_58:Option Addr}{sl_58:Array (Option Value)}{oc_58 kV_58 dc_58 pm_58 cd_58 ct_58:Value}{f_59:Addr}{od_59 an_59:Option Addr}{sl_59:Array (Option Value)}{oc_59 kV_59 dc_59 pm_59 cd_59 ct_59:Value}
  (e_MOST_HOSTS:zcz2 K mainGlobals "MOST_HOSTS"=some (some (.int 10 zcv0)))
  (e_MOST_FIELDS:zcz2 K mainGlobals "MOST_FIELDS"=some (some (.int 5 zcu7)))
  (a_0:zcz2 K mainGlobals "is_whole"=some (some (.ref f_0)))
  (l_0:K.lookup f_0=some ⟨oc_0,od_0,.func (zcz4 "is_whole" "is_whole" (zb1 zs4) (zb0 zs4) (za4 zs4) .none kV_0 dc_0 pm_0 an_0 cd_0 ct_0),sl_0⟩)
  (c_0:zcz1 K cd_0 "is_whole"=true)
  (k_0:zcy9 K (.ref f_0)=true)
  (a_1:zcz2 K mainGlobals "is_from"=some (some (.ref f_1)))
  (l_1:K.lookup f_1=some ⟨oc_1,od_1,.func (zcz4 "is_from" "is_from" (zb1 zv4) (zb0 zv4) (za4 zv4) .none kV_1 dc_1 pm_1 an_1 cd_1 ct_1),sl_1⟩)
  (c_1:zcz1 K cd_1 "is_from"=true)
  (k_1:zcy9 K (.ref f_1)=true)
  (a_2:zcz2 K mainGlobals "is_between"=some (some (.ref f_2)))
  (l_2:K.lookup f_2=some ⟨oc_2,od_2,.func (zcz4 "is_between" "is_between" (zb1 zo9) (zb0 zo9) (za4 zo9) .none kV_2 dc_2 pm_2 an_2 cd_2 ct_2),sl_2⟩)
  (c_2:zcz1 K cd_2 "is_between"=true)
  (k_2:zcy9 K (.ref f_2)=true)
  (a_3:zcz2 K mainGlobals "are_hosts"=some (some (.ref f_3)))
  (l_3:K.lookup f_3=some ⟨oc_3,od_3,.func (zcz4 "are_hosts" "are_hosts" (zb1 zq3) (zb0 zq3) (za4 zq3) .none kV_3 dc_3 pm_3 an_3 cd_3 ct_3),sl_3⟩)
  (c_3:zcz1 K cd_3 "are_hosts"=true)
  (k_3:zcy9 K (.ref f_3)=true)
  (a_4:zcz2 K mainGlobals "has_size"=some (some (.ref f_4)))
  (l_4:K.lookup f_4=some ⟨oc_4,od_4,.func (zcz4 "has_size" "has_size" (zb1 zs9) (zb0 zs9) (za4 zs9) .none kV_4 dc_4 pm_4 an_4 cd_4 ct_4),sl_4⟩)
  (c_4:zcz1 K cd_4 "has_size"=true)
  (k_4:zcy9 K (.ref f_4)=true)
  (a_5:zcz2 K mainGlobals "is_table_row"=some (some (.ref f_5)))
  (l_5:K.lookup f_5=some ⟨oc_5,od_5,.func (zcz4 "is_table_row" "is_table_row" (zb1 zj5) (zb0 zj5) (za4 zj5) .none kV_5 dc_5 pm_5 an_5 cd_5 ct_5),sl_5⟩)
  (c_5:zcz1 K cd_5 "is_table_row"=true)
  (k_5:zcy9 K (.ref f_5)=true)
  (a_6:zcz2 K mainGlobals "is_table"=some (some (.ref f_6)))
  (l_6:K.lookup f_6=some ⟨oc_6,od_6,.func (zcz4 "is_table" "is_table" (zb1 zt1) (zb0 zt1) (za4 zt1) .none kV_6 dc_6 pm_6 an_6 cd_6 ct_6),sl_6⟩)
  (c_6:zcz1 K cd_6 "is_table"=true)
  (k_6:zcy9 K (.ref f_6)=true)
  (a_7:zcz2 K mainGlobals "is_field"=some (some (.ref f_7)))
  (l_7:K.lookup f_7=some ⟨oc_7,od_7,.func (zcz4 "is_field" "is_field" (zb1 zs8) (zb0 zs8) (za4 zs8) .none kV_7 dc_7 pm_7 an_7 cd_7 ct_7),sl_7⟩)
  (c_7:zcz1 K cd_7 "is_field"=true)
  (k_7:zcy9 K (.ref f_7)=true)
  (a_8:zcz2 K mainGlobals "look_battle"=some (some (.ref f_8)))
  (l_8:K.lookup f_8=some ⟨oc_8,od_8,.func (zcz4 "look_battle" "look_battle" (zb1 zl5) (zb0 zl5) (za4 zl5) .none kV_8 dc_8 pm_8 an_8 cd_8 ct_8),sl_8⟩)
  (c_8:zcz1 K cd_8 "look_battle"=true)
  (k_8:zcy9 K (.ref f_8)=true)
  (a_9:zcz2 K mainGlobals "won"=some (some (.ref f_9)))
  (l_9:K.lookup f_9=some ⟨oc_9,od_9,.func (zcz4 "won" "won" (zb1 zbn5) (zb0 zbn5) (za4 zbn5) .none kV_9 dc_9 pm_9 an_9 cd_9 ct_9),sl_9⟩)
  (c_9:zcz1 K cd_9 "won"=true)
  (k_9:zcy9 K (.ref f_9)=true)
  (a_10:zcz2 K mainGlobals "is_flow"=some (some (.ref f_10)))
  (l_10:K.lookup f_10=some ⟨oc_10,od_10,.func (zcz4 "is_flow" "is_flow" (zb1 zv5) (zb0 zv5) (za4 zv5) .none kV_10 dc_10 pm_10 an_10 cd_10 ct_10),sl_10⟩)
  (c_10:zcz1 K cd_10 "is_flow"=true)
  (k_10:zcy9 K (.ref f_10)=true)
  (a_11:zcz2 K mainGlobals "is_row"=some (some (.ref f_11)))
  (l_11:K.lookup f_11=some ⟨oc_11,od_11,.func (zcz4 "is_row" "is_row" (zb1 zz1) (zb0 zz1) (za4 zz1) .none kV_11 dc_11 pm_11 an_11 cd_11 ct_11),sl_11⟩)
  (c_11:zcz1 K cd_11 "is_row"=true)
  (k_11:zcy9 K (.ref f_11)=true)
  (a_12:zcz2 K mainGlobals "begins"=some (some (.ref f_12)))
  (l_12:K.lookup f_12=some ⟨oc_12,od_12,.func (zcz4 "begins" "begins" (zb1 zz7) (zb0 zz7) (za4 zz7) .none kV_12 dc_12 pm_12 an_12 cd_12 ct_12),sl_12⟩)
  (c_12:zcz1 K cd_12 "begins"=true)
  (k_12:zcy9 K (.ref f_12)=true)
  (a_13:zcz2 K mainGlobals "summed"=some (some (.ref f_13)))
  (l_13:K.lookup f_13=some ⟨oc_13,od_13,.func (zcz4 "summed" "summed" (zb1 zz5) (zb0 zz5) (za4 zz5) .none kV_13 dc_13 pm_13 an_13 cd_13 ct_13),sl_13⟩)
  (c_13:zcz1 K cd_13 "summed"=true)
  (k_13:zcy9 K (.ref f_13)=true)
  (a_14:zcz2 K mainGlobals "meets"=some (some (.ref f_14)))
  (l_14:K.lookup f_14=some ⟨oc_14,od_14,.func (zcz4 "meets" "meets" (zb1 zaf9) (zb0 zaf9) (za4 zaf9) .none kV_14 dc_14 pm_14 an_14 cd_14 ct_14),sl_14⟩)
  (c_14:zcz1 K cd_14 "meets"=true)
  (k_14:zcy9 K (.ref f_14)=true)
  (a_15:zcz2 K mainGlobals "is_stream"=some (some (.ref f_15)))
  (l_15:K.lookup f_15=some ⟨oc_15,od_15,.func (zcz4 "is_stream" "is_stream" (zb1 zq2) (zb0 zq2) (za4 zq2) .none kV_15 dc_15 pm_15 an_15 cd_15 ct_15),sl_15⟩)
  (c_15:zcz1 K cd_15 "is_stream"=true)
  (k_15:zcy9 K (.ref f_15)=true)
  (a_16:zcz2 K mainGlobals "whole_in"=some (some (.ref f_16)))
  (l_16:K.lookup f_16=some ⟨oc_16,od_16,.func (zcz4 "whole_in" "whole_in" (zb1 zs1) (zb0 zs1) (za4 zs1) .none kV_16 dc_16 pm_16 an_16 cd_16 ct_16),sl_16⟩)
  (c_16:zcz1 K cd_16 "whole_in"=true)
  (k_16:zcy9 K (.ref f_16)=true)
  (a_17:zcz2 K mainGlobals "look_side"=some (some (.ref f_17)))
  (l_17:K.lookup f_17=some ⟨oc_17,od_17,.func (zcz4 "look_side" "look_side" (zb1 zp9) (zb0 zp9) (za4 zp9) .none kV_17 dc_17 pm_17 an_17 cd_17 ct_17),sl_17⟩)
  (c_17:zcz1 K cd_17 "look_side"=true)
  (k_17:zcy9 K (.ref f_17)=true)
  (a_18:zcz2 K mainGlobals "own_hosts"=some (some (.ref f_18)))
  (l_18:K.lookup f_18=some ⟨oc_18,od_18,.func (zcz4 "own_hosts" "own_hosts" (zb1 zq4) (zb0 zq4) (za4 zq4) .none kV_18 dc_18 pm_18 an_18 cd_18 ct_18),sl_18⟩)
  (c_18:zcz1 K cd_18 "own_hosts"=true)
  (k_18:zcy9 K (.ref f_18)=true)
  (a_19:zcz2 K mainGlobals "other_hosts"=some (some (.ref f_19)))
  (l_19:K.lookup f_19=some ⟨oc_19,od_19,.func (zcz4 "other_hosts" "other_hosts" (zb1 zm1) (zb0 zm1) (za4 zm1) .none kV_19 dc_19 pm_19 an_19 cd_19 ct_19),sl_19⟩)
  (c_19:zcz1 K cd_19 "other_hosts"=true)
  (k_19:zcy9 K (.ref f_19)=true)
  (a_20:zcz2 K mainGlobals "due"=some (some (.ref f_20)))
  (l_20:K.lookup f_20=some ⟨oc_20,od_20,.func (zcz4 "due" "due" (zb1 zbm4) (zb0 zbm4) (za4 zbm4) .none kV_20 dc_20 pm_20 an_20 cd_20 ct_20),sl_20⟩)
  (c_20:zcz1 K cd_20 "due"=true)
  (k_20:zcy9 K (.ref f_20)=true)
  (a_21:zcz2 K mainGlobals "row_dues"=some (some (.ref f_21)))
  (l_21:K.lookup f_21=some ⟨oc_21,od_21,.func (zcz4 "row_dues" "row_dues" (zb1 zs7) (zb0 zs7) (za4 zs7) .none kV_21 dc_21 pm_21 an_21 cd_21 ct_21),sl_21⟩)
  (c_21:zcz1 K cd_21 "row_dues"=true)
  (k_21:zcy9 K (.ref f_21)=true)
  (a_22:zcz2 K mainGlobals "dues"=some (some (.ref f_22)))
  (l_22:K.lookup f_22=some ⟨oc_22,od_22,.func (zcz4 "dues" "dues" (zb1 zan8) (zb0 zan8) (za4 zan8) .none kV_22 dc_22 pm_22 an_22 cd_22 ct_22),sl_22⟩)
  (c_22:zcz1 K cd_22 "dues"=true)
  (k_22:zcy9 K (.ref f_22)=true)
  (a_23:zcz2 K mainGlobals "bounds"=some (some (.ref f_23)))
  (l_23:K.lookup f_23=some ⟨oc_23,od_23,.func (zcz4 "bounds" "bounds" (zb1 zz0) (zb0 zz0) (za4 zz0) .none kV_23 dc_23 pm_23 an_23 cd_23 ct_23),sl_23⟩)
  (c_23:zcz1 K cd_23 "bounds"=true)
  (k_23:zcy9 K (.ref f_23)=true)
  (a_24:zcz2 K mainGlobals "keeps"=some (some (.ref f_24)))
  (l_24:K.lookup f_24=some ⟨oc_24,od_24,.func (zcz4 "keeps" "keeps" (zb1 zae6) (zb0 zae6) (za4 zae6) .none kV_24 dc_24 pm_24 an_24 cd_24 ct_24),sl_24⟩)
  (c_24:zcz1 K cd_24 "keeps"=true)
  (k_24:zcy9 K (.ref f_24)=true)
  (a_25:zcz2 K mainGlobals "tightest"=some (some (.ref f_25)))
  (l_25:K.lookup f_25=some ⟨oc_25,od_25,.func (zcz4 "tightest" "tightest" (zb1 zt0) (zb0 zt0) (za4 zt0) .none kV_25 dc_25 pm_25 an_25 cd_25 ct_25),sl_25⟩)
  (c_25:zcz1 K cd_25 "tightest"=true)
  (k_25:zcy9 K (.ref f_25)=true)
  (a_26:zcz2 K mainGlobals "tightest_table"=some (some (.ref f_26)))
  (l_26:K.lookup f_26=some ⟨oc_26,od_26,.func (zcz4 "tightest_table" "tightest_table" (zb1 zg3) (zb0 zg3) (za4 zg3) .none kV_26 dc_26 pm_26 an_26 cd_26 ct_26),sl_26⟩)
  (c_26:zcz1 K cd_26 "tightest_table"=true)
  (k_26:zcy9 K (.ref f_26)=true)
  (a_27:zcz2 K mainGlobals "plan_along"=some (some (.ref f_27)))
  (l_27:K.lookup f_27=some ⟨oc_27,od_27,.func (zcz4 "plan_along" "plan_along" (zb1 zo7) (zb0 zo7) (za4 zo7) .none kV_27 dc_27 pm_27 an_27 cd_27 ct_27),sl_27⟩)
  (c_27:zcz1 K cd_27 "plan_along"=true)
  (k_27:zcy9 K (.ref f_27)=true)
  (a_28:zcz2 K mainGlobals "answer_to"=some (some (.ref f_28)))
  (l_28:K.lookup f_28=some ⟨oc_28,od_28,.func (zcz4 "answer_to" "answer_to" (zb1 zq1) (zb0 zq1) (za4 zq1) .none kV_28 dc_28 pm_28 an_28 cd_28 ct_28),sl_28⟩)
  (c_28:zcz1 K cd_28 "answer_to"=true)
  (k_28:zcy9 K (.ref f_28)=true)
  (a_29:zcz2 K mainGlobals "look_own_stream"=some (some (.ref f_29)))
  (l_29:K.lookup f_29=some ⟨oc_29,od_29,.func (zcz4 "look_own_stream" "look_own_stream" (zb1 zf4) (zb0 zf4) (za4 zf4) .none kV_29 dc_29 pm_29 an_29 cd_29 ct_29),sl_29⟩)
  (c_29:zcz1 K cd_29 "look_own_stream"=true)
  (k_29:zcy9 K (.ref f_29)=true)
  (a_30:zcz2 K mainGlobals "common_divisor"=some (some (.ref f_30)))
  (l_30:K.lookup f_30=some ⟨oc_30,od_30,.func (zcz4 "common_divisor" "common_divisor" (zb1 zg2) (zb0 zg2) (za4 zg2) .none kV_30 dc_30 pm_30 an_30 cd_30 ct_30),sl_30⟩)
  (c_30:zcz1 K cd_30 "common_divisor"=true)
  (k_30:zcy9 K (.ref f_30)=true)
  (a_31:zcz2 K mainGlobals "ratio"=some (some (.ref f_31)))
  (l_31:K.lookup f_31=some ⟨oc_31,od_31,.func (zcz4 "ratio" "ratio" (zb1 zaf2) (zb0 zaf2) (za4 zaf2) .none kV_31 dc_31 pm_31 an_31 cd_31 ct_31),sl_31⟩)
  (c_31:zcz1 K cd_31 "ratio"=true)
  (k_31:zcy9 K (.ref f_31)=true)
  (a_32:zcz2 K mainGlobals "shown_by"=some (some (.ref f_32)))
  (l_32:K.lookup f_32=some ⟨oc_32,od_32,.func (zcz4 "shown_by" "shown_by" (zb1 zs6) (zb0 zs6) (za4 zs6) .none kV_32 dc_32 pm_32 an_32 cd_32 ct_32),sl_32⟩)
  (c_32:zcz1 K cd_32 "shown_by"=true)
  (k_32:zcy9 K (.ref f_32)=true)
  (a_33:zcz2 K mainGlobals "answer_table"=some (some (.ref f_33)))
  (l_33:K.lookup f_33=some ⟨oc_33,od_33,.func (zcz4 "answer_table" "answer_table" (zb1 zj9) (zb0 zj9) (za4 zj9) .none kV_33 dc_33 pm_33 an_33 cd_33 ct_33),sl_33⟩)
  (c_33:zcz1 K cd_33 "answer_table"=true)
  (k_33:zcy9 K (.ref f_33)=true)
  (a_34:zcz2 K mainGlobals "shown"=some (some (.ref f_34)))
  (l_34:K.lookup f_34=some ⟨oc_34,od_34,.func (zcz4 "shown" "shown" (zb1 zaf5) (zb0 zaf5) (za4 zaf5) .none kV_34 dc_34 pm_34 an_34 cd_34 ct_34),sl_34⟩)
  (c_34:zcz1 K cd_34 "shown"=true)
  (k_34:zcy9 K (.ref f_34)=true)
  (a_35:zcz2 K mainGlobals "best_answer"=some (some (.ref f_35)))
  (l_35:K.lookup f_35=some ⟨oc_35,od_35,.func (zcz4 "best_answer" "best_answer" (zb1 zl8) (zb0 zl8) (za4 zl8) .none kV_35 dc_35 pm_35 an_35 cd_35 ct_35),sl_35⟩)
  (c_35:zcz1 K cd_35 "best_answer"=true)
  (k_35:zcy9 K (.ref f_35)=true)
  (a_36:zcz2 K mainGlobals "wrong_form"=some (some (.ref f_36)))
  (l_36:K.lookup f_36=some ⟨oc_36,od_36,.func (zcz4 "wrong_form" "wrong_form" (zb1 zp1) (zb0 zp1) (za4 zp1) .none kV_36 dc_36 pm_36 an_36 cd_36 ct_36),sl_36⟩)
  (c_36:zcz1 K cd_36 "wrong_form"=true)
  (k_36:zcy9 K (.ref f_36)=true)
  (a_37:zcz2 K mainGlobals "wrong_number"=some (some (.ref f_37)))
  (l_37:K.lookup f_37=some ⟨oc_37,od_37,.func (zcz4 "wrong_number" "wrong_number" (zb1 zj3) (zb0 zj3) (za4 zj3) .none kV_37 dc_37 pm_37 an_37 cd_37 ct_37),sl_37⟩)
  (c_37:zcz1 K cd_37 "wrong_number"=true)
  (k_37:zcy9 K (.ref f_37)=true)
  (a_38:zcz2 K mainGlobals "wrong_worth"=some (some (.ref f_38)))
  (l_38:K.lookup f_38=some ⟨oc_38,od_38,.func (zcz4 "wrong_worth" "wrong_worth" (zb1 zm5) (zb0 zm5) (za4 zm5) .none kV_38 dc_38 pm_38 an_38 cd_38 ct_38),sl_38⟩)
  (c_38:zcz1 K cd_38 "wrong_worth"=true)
  (k_38:zcy9 K (.ref f_38)=true)
  (a_39:zcz2 K mainGlobals "judged"=some (some (.ref f_39)))
  (l_39:K.lookup f_39=some ⟨oc_39,od_39,.func (zcz4 "judged" "judged" (zb1 zz3) (zb0 zz3) (za4 zz3) .none kV_39 dc_39 pm_39 an_39 cd_39 ct_39),sl_39⟩)
  (c_39:zcz1 K cd_39 "judged"=true)
  (k_39:zcy9 K (.ref f_39)=true)
  (a_40:zcz2 K mainGlobals "_law_draws"=some (some (.ref f_40)))
  (l_40:K.lookup f_40=some ⟨oc_40,od_40,.func (zcz4 "_law_draws" "_law_draws" (zb1 zo5) (zb0 zo5) (za4 zo5) .none kV_40 dc_40 pm_40 an_40 cd_40 ct_40),sl_40⟩)
  (c_40:zcz1 K cd_40 "_law_draws"=true)
  (k_40:zcy9 K (.ref f_40)=true)
  (a_41:zcz2 K mainGlobals "_law_table"=some (some (.ref f_41)))
  (l_41:K.lookup f_41=some ⟨oc_41,od_41,.func (zcz4 "_law_table" "_law_table" (zb1 zo0) (zb0 zo0) (za4 zo0) .none kV_41 dc_41 pm_41 an_41 cd_41 ct_41),sl_41⟩)
  (c_41:zcz1 K cd_41 "_law_table"=true)
  (k_41:zcy9 K (.ref f_41)=true)
  (a_42:zcz2 K mainGlobals "_law_field"=some (some (.ref f_42)))
  (l_42:K.lookup f_42=some ⟨oc_42,od_42,.func (zcz4 "_law_field" "_law_field" (zb1 zn8) (zb0 zn8) (za4 zn8) .none kV_42 dc_42 pm_42 an_42 cd_42 ct_42),sl_42⟩)
  (c_42:zcz1 K cd_42 "_law_field"=true)
  (k_42:zcy9 K (.ref f_42)=true)
  (a_43:zcz2 K mainGlobals "_law_battle"=some (some (.ref f_43)))
  (l_43:K.lookup f_43=some ⟨oc_43,od_43,.func (zcz4 "_law_battle" "_law_battle" (zb1 zm6) (zb0 zm6) (za4 zm6) .none kV_43 dc_43 pm_43 an_43 cd_43 ct_43),sl_43⟩)
  (c_43:zcz1 K cd_43 "_law_battle"=true)
  (k_43:zcy9 K (.ref f_43)=true)
  (a_44:zcz2 K mainGlobals "_law_paid"=some (some (.ref f_44)))
  (l_44:K.lookup f_44=some ⟨oc_44,od_44,.func (zcz4 "_law_paid" "_law_paid" (zb1 zq6) (zb0 zq6) (za4 zq6) .none kV_44 dc_44 pm_44 an_44 cd_44 ct_44),sl_44⟩)
  (c_44:zcz1 K cd_44 "_law_paid"=true)
  (k_44:zcy9 K (.ref f_44)=true)
  (a_45:zcz2 K mainGlobals "_law_plans"=some (some (.ref f_45)))
  (l_45:K.lookup f_45=some ⟨oc_45,od_45,.func (zcz4 "_law_plans" "_law_plans" (zb1 zn9) (zb0 zn9) (za4 zn9) .none kV_45 dc_45 pm_45 an_45 cd_45 ct_45),sl_45⟩)
  (c_45:zcz1 K cd_45 "_law_plans"=true)
  (k_45:zcy9 K (.ref f_45)=true)
  (a_46:zcz2 K mainGlobals "_law_mix"=some (some (.ref f_46)))
  (l_46:K.lookup f_46=some ⟨oc_46,od_46,.func (zcz4 "_law_mix" "_law_mix" (zb1 zs0) (zb0 zs0) (za4 zs0) .none kV_46 dc_46 pm_46 an_46 cd_46 ct_46),sl_46⟩)
  (c_46:zcz1 K cd_46 "_law_mix"=true)
  (k_46:zcy9 K (.ref f_46)=true)
  (a_47:zcz2 K mainGlobals "_law_stream"=some (some (.ref f_47)))
  (l_47:K.lookup f_47=some ⟨oc_47,od_47,.func (zcz4 "_law_stream" "_law_stream" (zb1 zm2) (zb0 zm2) (za4 zm2) .none kV_47 dc_47 pm_47 an_47 cd_47 ct_47),sl_47⟩)
  (c_47:zcz1 K cd_47 "_law_stream"=true)
  (k_47:zcy9 K (.ref f_47)=true)
  (a_48:zcz2 K mainGlobals "_law_won"=some (some (.ref f_48)))
  (l_48:K.lookup f_48=some ⟨oc_48,od_48,.func (zcz4 "_law_won" "_law_won" (zb1 zs3) (zb0 zs3) (za4 zs3) .none kV_48 dc_48 pm_48 an_48 cd_48 ct_48),sl_48⟩)
  (c_48:zcz1 K cd_48 "_law_won"=true)
  (k_48:zcy9 K (.ref f_48)=true)
  (a_49:zcz2 K mainGlobals "_law_hosts"=some (some (.ref f_49)))
  (l_49:K.lookup f_49=some ⟨oc_49,od_49,.func (zcz4 "_law_hosts" "_law_hosts" (zb1 zo8) (zb0 zo8) (za4 zo8) .none kV_49 dc_49 pm_49 an_49 cd_49 ct_49),sl_49⟩)
  (c_49:zcz1 K cd_49 "_law_hosts"=true)
  (k_49:zcy9 K (.ref f_49)=true)
  (a_50:zcz2 K mainGlobals "_law_copied"=some (some (.ref f_50)))
  (l_50:K.lookup f_50=some ⟨oc_50,od_50,.func (zcz4 "_law_copied" "_law_copied" (zb1 zm4) (zb0 zm4) (za4 zm4) .none kV_50 dc_50 pm_50 an_50 cd_50 ct_50),sl_50⟩)
  (c_50:zcz1 K cd_50 "_law_copied"=true)
  (k_50:zcy9 K (.ref f_50)=true)
  (a_51:zcz2 K mainGlobals "_law_whole"=some (some (.ref f_51)))
  (l_51:K.lookup f_51=some ⟨oc_51,od_51,.func (zcz4 "_law_whole" "_law_whole" (zb1 zo6) (zb0 zo6) (za4 zo6) .none kV_51 dc_51 pm_51 an_51 cd_51 ct_51),sl_51⟩)
  (c_51:zcz1 K cd_51 "_law_whole"=true)
  (k_51:zcy9 K (.ref f_51)=true)
  (a_52:zcz2 K mainGlobals "_law_due"=some (some (.ref f_52)))
  (l_52:K.lookup f_52=some ⟨oc_52,od_52,.func (zcz4 "_law_due" "_law_due" (zb1 zs2) (zb0 zs2) (za4 zs2) .none kV_52 dc_52 pm_52 an_52 cd_52 ct_52),sl_52⟩)
  (c_52:zcz1 K cd_52 "_law_due"=true)
  (k_52:zcy9 K (.ref f_52)=true)
  (a_53:zcz2 K mainGlobals "_law_table_is_so"=some (some (.ref f_53)))
  (l_53:K.lookup f_53=some ⟨oc_53,od_53,.func (zcz4 "_law_table_is_so" "_law_table_is_so" (zb1 ze5) (zb0 ze5) (za4 ze5) .none kV_53 dc_53 pm_53 an_53 cd_53 ct_53),sl_53⟩)
  (c_53:zcz1 K cd_53 "_law_table_is_so"=true)
  (k_53:zcy9 K (.ref f_53)=true)
  (a_54:zcz2 K mainGlobals "_law_by_left"=some (some (.ref f_54)))
  (l_54:K.lookup f_54=some ⟨oc_54,od_54,.func (zcz4 "_law_by_left" "_law_by_left" (zb1 zj4) (zb0 zj4) (za4 zj4) .none kV_54 dc_54 pm_54 an_54 cd_54 ct_54),sl_54⟩)
  (c_54:zcz1 K cd_54 "_law_by_left"=true)
  (k_54:zcy9 K (.ref f_54)=true)
  (a_55:zcz2 K mainGlobals "_law_asked_apart"=some (some (.ref f_55)))
  (l_55:K.lookup f_55=some ⟨oc_55,od_55,.func (zcz4 "_law_asked_apart" "_law_asked_apart" (zb1 ze4) (zb0 ze4) (za4 ze4) .none kV_55 dc_55 pm_55 an_55 cd_55 ct_55),sl_55⟩)
  (c_55:zcz1 K cd_55 "_law_asked_apart"=true)
  (k_55:zcy9 K (.ref f_55)=true)
  (a_56:zcz2 K mainGlobals "_law_lowest"=some (some (.ref f_56)))
  (l_56:K.lookup f_56=some ⟨oc_56,od_56,.func (zcz4 "_law_lowest" "_law_lowest" (zb1 zl9) (zb0 zl9) (za4 zl9) .none kV_56 dc_56 pm_56 an_56 cd_56 ct_56),sl_56⟩)
  (c_56:zcz1 K cd_56 "_law_lowest"=true)
  (k_56:zcy9 K (.ref f_56)=true)
  (a_57:zcz2 K mainGlobals "_law_marked"=some (some (.ref f_57)))
  (l_57:K.lookup f_57=some ⟨oc_57,od_57,.func (zcz4 "_law_marked" "_law_marked" (zb1 zl7) (zb0 zl7) (za4 zl7) .none kV_57 dc_57 pm_57 an_57 cd_57 ct_57),sl_57⟩)
  (c_57:zcz1 K cd_57 "_law_marked"=true)
  (k_57:zcy9 K (.ref f_57)=true)
  (a_58:zcz2 K mainGlobals "_law_once"=some (some (.ref f_58)))
  (l_58:K.lookup f_58=some ⟨oc_58,od_58,.func (zcz4 "_law_once" "_law_once" (zb1 zq0) (zb0 zq0) (za4 zq0) .none kV_58 dc_58 pm_58 an_58 cd_58 ct_58),sl_58⟩)
  (c_58:zcz1 K cd_58 "_law_once"=true)
  (k_58:zcy9 K (.ref f_58)=true)
  (a_59:zcz2 K mainGlobals "law"=some (some (.ref f_59)))
  (l_59:K.lookup f_59=some ⟨oc_59,od_59,.func (zcz4 "law" "law" (zb1 zas8) (zb0 zas8) (za4 zas8) .none kV_59 dc_59 pm_59 an_59 cd_59 ct_59),sl_59⟩)
  (c_59:zcz1 K cd_59 "law"=true)
  (k_59:zcy9 K (.ref f_59)=true)
  (z_abs:zcz2 K mainGlobals "abs"=some none)
  (z_all:zcz2 K mainGlobals "all"=some none)
  (z_bool:zcz2 K mainGlobals "bool"=some none)
  (z_enumerate:zcz2 K mainGlobals "enumerate"=some none)
  (z_int:zcz2 K mainGlobals "int"=some none)
  (z_isinstance:zcz2 K mainGlobals "isinstance"=some none)
  (z_len:zcz2 K mainGlobals "len"=some none)
  (z_list:zcz2 K mainGlobals "list"=some none)
  (z_max:zcz2 K mainGlobals "max"=some none)
  (z_min:zcz2 K mainGlobals "min"=some none)
  (z_range:zcz2 K mainGlobals "range"=some none)
  (z_reversed:zcz2 K mainGlobals "reversed"=some none)
  (z_sorted:zcz2 K mainGlobals "sorted"=some none)
  (z_sum:zcz2 K mainGlobals "sum"=some none)
  (z_tuple:zcz2 K mainGlobals "tuple"=some none)
  (z_zip:zcz2 K mainGlobals "zip"=some none) :
  ∃ fd:FuncData,(∀ (s:Shared) (v:Value),BindsTo s fd ⟨[v],[]⟩ [("_law_script",v)])/\∀ base:Heap,K.In base->base.Ns mainGlobals mg->FnOk l.prog w K mg base CX0 12 fa fd ["_law_script"] (spLaw K):=by
 have e:=hfa.symm.trans (zcz3 X G a_59)
 cases e
 have N:Nm mg:=⟨zdb5 X G z_abs,zdb5 X G z_all,zdb5 X G z_bool,zdb5 X G z_enumerate,zdb5 X G z_int,zdb5 X G z_isinstance,zdb5 X G z_len,zdb5 X G z_list,zdb5 X G z_max,zdb5 X G z_min,zdb5 X G z_range,zdb5 X G z_reversed,zdb5 X G z_sorted,zdb5 X G z_sum,zdb5 X G z_tuple,zdb5 X G z_zip⟩
 have zcx5:=zcz3 X G e_MOST_HOSTS
 have zcx4:=zcz3 X G e_MOST_FIELDS
 have F_0:=zc0 (st:=zs4) l_0 c_0 k_0
 have F_1:=zc0 (st:=zv4) l_1 c_1 k_1
 have F_2:=zc0 (st:=zo9) l_2 c_2 k_2
 have F_3:=zc0 (st:=zq3) l_3 c_3 k_3
 have F_4:=zc0 (st:=zs9) l_4 c_4 k_4
 have F_5:=zc0 (st:=zj5) l_5 c_5 k_5
 have F_6:=zc0 (st:=zt1) l_6 c_6 k_6
 have F_7:=zc0 (st:=zs8) l_7 c_7 k_7
 have F_8:=zc0 (st:=zl5) l_8 c_8 k_8
 have F_9:=zc0 (st:=zbn5) l_9 c_9 k_9
 have F_10:=zc0 (st:=zv5) l_10 c_10 k_10
 have F_11:=zc0 (st:=zz1) l_11 c_11 k_11
 have F_12:=zc0 (st:=zz7) l_12 c_12 k_12
 have F_13:=zc0 (st:=zz5) l_13 c_13 k_13
 have F_14:=zc0 (st:=zaf9) l_14 c_14 k_14
 have F_15:=zc0 (st:=zq2) l_15 c_15 k_15
 have F_16:=zc0 (st:=zs1) l_16 c_16 k_16
 have F_17:=zc0 (st:=zp9) l_17 c_17 k_17
 have F_18:=zc0 (st:=zq4) l_18 c_18 k_18
 have F_19:=zc0 (st:=zm1) l_19 c_19 k_19
 have F_20:=zc0 (st:=zbm4) l_20 c_20 k_20
 have F_21:=zc0 (st:=zs7) l_21 c_21 k_21
 have F_22:=zc0 (st:=zan8) l_22 c_22 k_22
 have F_23:=zc0 (st:=zz0) l_23 c_23 k_23
 have F_24:=zc0 (st:=zae6) l_24 c_24 k_24
 have F_25:=zc0 (st:=zt0) l_25 c_25 k_25
 have F_26:=zc0 (st:=zg3) l_26 c_26 k_26
 have F_27:=zc0 (st:=zo7) l_27 c_27 k_27
 have F_28:=zc0 (st:=zq1) l_28 c_28 k_28
 have F_29:=zc0 (st:=zf4) l_29 c_29 k_29
 have F_30:=zc0 (st:=zg2) l_30 c_30 k_30
 have F_31:=zc0 (st:=zaf2) l_31 c_31 k_31
 have F_32:=zc0 (st:=zs6) l_32 c_32 k_32
 have F_33:=zc0 (st:=zj9) l_33 c_33 k_33
 have F_34:=zc0 (st:=zaf5) l_34 c_34 k_34
 have F_35:=zc0 (st:=zl8) l_35 c_35 k_35
 have F_36:=zc0 (st:=zp1) l_36 c_36 k_36
 have F_37:=zc0 (st:=zj3) l_37 c_37 k_37
 have F_38:=zc0 (st:=zm5) l_38 c_38 k_38
 have F_39:=zc0 (st:=zz3) l_39 c_39 k_39
 have F_40:=zc0 (st:=zo5) l_40 c_40 k_40
 have F_41:=zc0 (st:=zo0) l_41 c_41 k_41
 have F_42:=zc0 (st:=zn8) l_42 c_42 k_42
 have F_43:=zc0 (st:=zm6) l_43 c_43 k_43
 have F_44:=zc0 (st:=zq6) l_44 c_44 k_44
 have F_45:=zc0 (st:=zn9) l_45 c_45 k_45
 have F_46:=zc0 (st:=zs0) l_46 c_46 k_46
 have F_47:=zc0 (st:=zm2) l_47 c_47 k_47
 have F_48:=zc0 (st:=zs3) l_48 c_48 k_48
 have F_49:=zc0 (st:=zo8) l_49 c_49 k_49
 have F_50:=zc0 (st:=zm4) l_50 c_50 k_50
 have F_51:=zc0 (st:=zo6) l_51 c_51 k_51
 have F_52:=zc0 (st:=zs2) l_52 c_52 k_52
 have F_53:=zc0 (st:=ze5) l_53 c_53 k_53
 have F_54:=zc0 (st:=zj4) l_54 c_54 k_54
 have F_55:=zc0 (st:=ze4) l_55 c_55 k_55
 have F_56:=zc0 (st:=zl9) l_56 c_56 k_56
 have F_57:=zc0 (st:=zl7) l_57 c_57 k_57
 have F_58:=zc0 (st:=zq0) l_58 c_58 k_58
 have F_59:=zc0 (st:=zas8) l_59 c_59 k_59
 refine⟨zcz4 "law" "law" (zb1 zas8) (zb0 zas8) (za4 zas8) .none kV_59 dc_59 pm_59 an_59 cd_59 ct_59,fun s v=>.of_eq rfl,fun base XB GB=>?_⟩
 have zcs8:Def l.prog w K mg base CX0 1 "is_whole" ["thing"] zh2:=⟨⟨_,_,zbc1 (P:=l.prog) (w:=w) (base:=base) F_0 N ,zcz3 X G a_0,k_0,F_0.binds fun _ _ _ _ _ _ us hl=>match us,hl with | [_],_=>rfl⟩⟩
 have zcs7:Def l.prog w K mg base CX0 2 "is_from" ["thing","least"] zj6:=⟨⟨_,_,zbo0 (P:=l.prog) (w:=w) (base:=base) F_1 N zcs8,zcz3 X G a_1,k_1,F_1.binds fun _ _ _ _ _ _ us hl=>match us,hl with | [_,_],_=>rfl⟩⟩
 have zcs2:Def l.prog w K mg base CX0 3 "is_between" ["thing","least","most"] ze1:=⟨⟨_,_,zar2 (P:=l.prog) (w:=w) (base:=base) F_2 N zcs7,zcz3 X G a_2,k_2,F_2.binds fun _ _ _ _ _ _ us hl=>match us,hl with | [_,_,_],_=>rfl⟩⟩
 have zcw1:Def l.prog w K mg base CX0 4 "are_hosts" ["first","second"] zl0:=⟨⟨_,_,zav6 (P:=l.prog) (w:=w) (base:=base) F_3 N zcx5 zcs2,zcz3 X G a_3,k_3,F_3.binds fun _ _ _ _ _ _ us hl=>match us,hl with | [_,_],_=>rfl⟩⟩
 have zcw2:Def l.prog w K mg base CX0 5 "has_size" ["battle"] zn5:=⟨⟨_,_,zbe2 (P:=l.prog) (w:=w) (base:=base) F_4 N zcx4 zcw1,zcz3 X G a_4,k_4,F_4.binds fun _ _ _ _ _ _ us hl=>match us,hl with | [_],_=>rfl⟩⟩
 have zcu6:Def l.prog w K mg base CX0 2 "is_table_row" ["many_numbers","row"] zf5:=⟨⟨_,_,zaj4 (P:=l.prog) (w:=w) (base:=base) F_5 N zcs8,zcz3 X G a_5,k_5,F_5.binds fun _ _ _ _ _ _ us hl=>match us,hl with | [_,_],_=>rfl⟩⟩
 have zcu2:Def l.prog w K mg base CX0 3 "is_table" ["many_rows","many_numbers","rows"] zk7:=⟨⟨_,_,zbf7 (P:=l.prog) (w:=w) (base:=base) F_6 N zcu6,zcz3 X G a_6,k_6,F_6.binds fun _ _ _ _ _ _ us hl=>match us,hl with | [_,_,_],_=>rfl⟩⟩
 have zcw3:Def l.prog w K mg base CX0 4 "is_field" ["first","second","field"] zn2:=⟨⟨_,_,zbd1 (P:=l.prog) (w:=w) (base:=base) F_7 N zcs2 zcs7 zcu2 zcs8,zcz3 X G a_7,k_7,F_7.binds fun _ _ _ _ _ _ us hl=>match us,hl with | [_,_,_],_=>rfl⟩⟩
 have zcs9:Def l.prog w K mg base CX0 6 "look_battle" ["battle"] zf3:=⟨⟨_,_,zal5 (P:=l.prog) (w:=w) (base:=base) F_8 N zcw2 zcw3,zcz3 X G a_8,k_8,F_8.binds fun _ _ _ _ _ _ us hl=>match us,hl with | [_],_=>rfl⟩⟩
 have D_won:Def l.prog w K mg base CX0 1 "won" ["field","x","y"] zai7:=⟨⟨_,_,ok_won (P:=l.prog) (w:=w) (base:=base) F_9 N ,zcz3 X G a_9,k_9,F_9.binds fun _ _ _ _ _ _ us hl=>match us,hl with | [_,_,_],_=>rfl⟩⟩
 have zcx1:Def l.prog w K mg base CX0 4 "is_flow" ["thing"] zq5:=⟨⟨_,_,zbn0 (P:=l.prog) (w:=w) (base:=base) F_10 N zcs2 zcs7,zcz3 X G a_10,k_10,F_10.binds fun _ _ _ _ _ _ us hl=>match us,hl with | [_],_=>rfl⟩⟩
 have zcw0:Def l.prog w K mg base CX0 5 "is_row" ["row"] zr1:=⟨⟨_,_,zbv9 (P:=l.prog) (w:=w) (base:=base) F_11 N zcx1,zcz3 X G a_11,k_11,F_11.binds fun _ _ _ _ _ _ us hl=>match us,hl with | [_],_=>rfl⟩⟩
 have zcx3:Def l.prog w K mg base CX0 6 "begins" ["stream"] zu1:=⟨⟨_,_,zbz5 (P:=l.prog) (w:=w) (base:=base) F_12 N zcw0,zcz3 X G a_12,k_12,F_12.binds fun _ _ _ _ _ _ us hl=>match us,hl with | [_],_=>rfl⟩⟩
 have zcw9:Def l.prog w K mg base CX0 1 "summed" ["pairs"] zt8:=⟨⟨_,_,zbz6 (P:=l.prog) (w:=w) (base:=base) F_13 N ,zcz3 X G a_13,k_13,F_13.binds fun _ _ _ _ _ _ us hl=>match us,hl with | [_],_=>rfl⟩⟩
 have zcx6:Def l.prog w K mg base CX0 2 "meets" ["ahead","row"] zw7:=⟨⟨_,_,zch5 (P:=l.prog) (w:=w) (base:=base) F_14 N zcw9,zcz3 X G a_14,k_14,F_14.binds fun _ _ _ _ _ _ us hl=>match us,hl with | [_,_],_=>rfl⟩⟩
 have zct5:Def l.prog w K mg base CX0 7 "is_stream" ["hosts","fields","stream"] zh9:=⟨⟨_,_,zay1 (P:=l.prog) (w:=w) (base:=base) F_15 N zcx3 zcw0 zcx6,zcz3 X G a_15,k_15,F_15.binds fun _ _ _ _ _ _ us hl=>match us,hl with | [_,_,_],_=>rfl⟩⟩
 have zcu3:Def l.prog w K mg base CX0 1 "whole_in" ["stream"] zl2:=⟨⟨_,_,zbb6 (P:=l.prog) (w:=w) (base:=base) F_16 N ,zcz3 X G a_16,k_16,F_16.binds fun _ _ _ _ _ _ us hl=>match us,hl with | [_],_=>rfl⟩⟩
 have zct6:Def l.prog w K mg base CX0 1 "look_side" ["side"] zi1:=⟨⟨_,_,zaw9 (P:=l.prog) (w:=w) (base:=base) F_17 N ,zcz3 X G a_17,k_17,F_17.binds fun _ _ _ _ _ _ us hl=>match us,hl with | [_],_=>rfl⟩⟩
 have zct7:Def l.prog w K mg base CX0 1 "own_hosts" ["battle","side"] zi0:=⟨⟨_,_,zaw3 (P:=l.prog) (w:=w) (base:=base) F_18 N ,zcz3 X G a_18,k_18,F_18.binds fun _ _ _ _ _ _ us hl=>match us,hl with | [_,_],_=>rfl⟩⟩
 have zcs1:Def l.prog w K mg base CX0 1 "other_hosts" ["battle","side"] zd8:=⟨⟨_,_,zal7 (P:=l.prog) (w:=w) (base:=base) F_19 N ,zcz3 X G a_19,k_19,F_19.binds fun _ _ _ _ _ _ us hl=>match us,hl with | [_,_],_=>rfl⟩⟩
 have D_due:Def l.prog w K mg base CX0 2 "due" ["field","side","row","count"] zai4:=⟨⟨_,_,ok_due (P:=l.prog) (w:=w) (base:=base) F_20 N D_won,zcz3 X G a_20,k_20,F_20.binds fun _ _ _ _ _ _ us hl=>match us,hl with | [_,_,_,_],_=>rfl⟩⟩
 have zcw4:Def l.prog w K mg base CX0 3 "row_dues" ["field","side","row","most"] zn4:=⟨⟨_,_,zbb3 (P:=l.prog) (w:=w) (base:=base) F_21 N D_due,zcz3 X G a_21,k_21,F_21.binds fun _ _ _ _ _ _ us hl=>match us,hl with | [_,_,_,_],_=>rfl⟩⟩
 have zcx2:Def l.prog w K mg base CX0 4 "dues" ["battle","side","stream"] zx8:=⟨⟨_,_,zcr1 (P:=l.prog) (w:=w) (base:=base) F_22 N zcs1 zcw4,zcz3 X G a_22,k_22,F_22.binds fun _ _ _ _ _ _ us hl=>match us,hl with | [_,_,_],_=>rfl⟩⟩
 have zcu0:Def l.prog w K mg base CX0 1 "bounds" ["field_dues","behind","count"] zl1:=⟨⟨_,_,zbs1 (P:=l.prog) (w:=w) (base:=base) F_23 N ,zcz3 X G a_23,k_23,F_23.binds fun _ _ _ _ _ _ us hl=>match us,hl with | [_,_,_],_=>rfl⟩⟩
 have zcw8:Def l.prog w K mg base CX0 1 "keeps" ["side","number","bound"] zu6:=⟨⟨_,_,zcb6 (P:=l.prog) (w:=w) (base:=base) F_24 N ,zcz3 X G a_24,k_24,F_24.binds fun _ _ _ _ _ _ us hl=>match us,hl with | [_,_,_],_=>rfl⟩⟩
 have zcw5:Def l.prog w K mg base CX0 1 "tightest" ["side","numbers"] zn6:=⟨⟨_,_,zbe8 (P:=l.prog) (w:=w) (base:=base) F_25 N ,zcz3 X G a_25,k_25,F_25.binds fun _ _ _ _ _ _ us hl=>match us,hl with | [_,_],_=>rfl⟩⟩
 have zct8:Def l.prog w K mg base CX0 2 "tightest_table" ["side","all_dues"] zd6:=⟨⟨_,_,zae8 (P:=l.prog) (w:=w) (base:=base) F_26 N zcu0 zcw5,zcz3 X G a_26,k_26,F_26.binds fun _ _ _ _ _ _ us hl=>match us,hl with | [_,_],_=>rfl⟩⟩
 have zcv4:Def l.prog w K mg base CX0 2 "plan_along" ["all_dues","table"] zi9:=⟨⟨_,_,zaq3 (P:=l.prog) (w:=w) (base:=base) F_27 N zcu0,zcz3 X G a_27,k_27,F_27.binds fun _ _ _ _ _ _ us hl=>match us,hl with | [_,_],_=>rfl⟩⟩
 have zcs5:Def l.prog w K mg base CX0 5 "answer_to" ["battle","side","stream"] zg7:=⟨⟨_,_,zba2 (P:=l.prog) (w:=w) (base:=base) F_28 N zcx2 zcv4 zct8,zcz3 X G a_28,k_28,F_28.binds fun _ _ _ _ _ _ us hl=>match us,hl with | [_,_,_],_=>rfl⟩⟩
 have zcr8:Def l.prog w K mg base CX0 8 "look_own_stream" ["battle","side","stream"] zc3:=⟨⟨_,_,zac2 (P:=l.prog) (w:=w) (base:=base) F_29 N zct5 zcs9 zct6 zct7,zcz3 X G a_29,k_29,F_29.binds fun _ _ _ _ _ _ us hl=>match us,hl with | [_,_,_],_=>rfl⟩⟩
 have zct9:Def l.prog w K mg base CX0 1 "common_divisor" ["one","other"] zd4:=⟨⟨_,_,zaf0 (P:=l.prog) (w:=w) (base:=base) F_30 N ,zcz3 X G a_30,k_30,F_30.binds fun _ _ _ _ _ _ us hl=>match us,hl with | [_,_],_=>rfl⟩⟩
 have zcx7:Def l.prog w K mg base CX0 2 "ratio" ["top","bottom"] zw1:=⟨⟨_,_,zci1 (P:=l.prog) (w:=w) (base:=base) F_31 N zct9,zcz3 X G a_31,k_31,F_31.binds fun _ _ _ _ _ _ us hl=>match us,hl with | [_,_],_=>rfl⟩⟩
 have zcw6:Def l.prog w K mg base CX0 3 "shown_by" ["table","stream"] zn3:=⟨⟨_,_,zbf0 (P:=l.prog) (w:=w) (base:=base) F_32 N zcx7 zcu3,zcz3 X G a_32,k_32,F_32.binds fun _ _ _ _ _ _ us hl=>match us,hl with | [_,_],_=>rfl⟩⟩
 have zcs4:Def l.prog w K mg base CX0 9 "answer_table" ["battle","side","stream"] ze2:=⟨⟨_,_,zaj3 (P:=l.prog) (w:=w) (base:=base) F_33 N zcs5 zcr8,zcz3 X G a_33,k_33,F_33.binds fun _ _ _ _ _ _ us hl=>match us,hl with | [_,_,_],_=>rfl⟩⟩
 have zcx8:Def l.prog w K mg base CX0 9 "shown" ["battle","side","stream"] zv9:=⟨⟨_,_,zcf2 (P:=l.prog) (w:=w) (base:=base) F_34 N zcs5 zcr8 zcw6,zcz3 X G a_34,k_34,F_34.binds fun _ _ _ _ _ _ us hl=>match us,hl with | [_,_,_],_=>rfl⟩⟩
 have zcs6:Def l.prog w K mg base CX0 9 "best_answer" ["battle","side","stream"] zf0:=⟨⟨_,_,zam3 (P:=l.prog) (w:=w) (base:=base) F_35 N zcs5 zcr8,zcz3 X G a_35,k_35,F_35.binds fun _ _ _ _ _ _ us hl=>match us,hl with | [_,_,_],_=>rfl⟩⟩
 have zcv8:Def l.prog w K mg base CX0 8 "wrong_form" ["battle","side","paper"] zi4:=⟨⟨_,_,zat6 (P:=l.prog) (w:=w) (base:=base) F_36 N zct5 zcu2 zcs1 zct7,zcz3 X G a_36,k_36,F_36.binds fun _ _ _ _ _ _ us hl=>match us,hl with | [_,_,_],_=>rfl⟩⟩
 have zcu8:Def l.prog w K mg base CX0 5 "wrong_number" ["battle","side","paper"] zf8:=⟨⟨_,_,zaj1 (P:=l.prog) (w:=w) (base:=base) F_37 N zcu0 zcx2 zcw8,zcz3 X G a_37,k_37,F_37.binds fun _ _ _ _ _ _ us hl=>match us,hl with | [_,_,_],_=>rfl⟩⟩
 have zcv2:Def l.prog w K mg base CX0 2 "wrong_worth" ["battle","side","worth","paper"] zg9:=⟨⟨_,_,zam2 (P:=l.prog) (w:=w) (base:=base) F_38 N zcw8 zcs1 zcu3,zcz3 X G a_38,k_38,F_38.binds fun _ _ _ _ _ _ us hl=>match us,hl with | [_,_,_,_],_=>rfl⟩⟩
 have zcx0:Def l.prog w K mg base CX0 9 "judged" ["battle","side","worth","paper"] zt2:=⟨⟨_,_,zbp0 (P:=l.prog) (w:=w) (base:=base) F_39 N zcs9 zct6 zcv8 zcu8 zcv2,zcz3 X G a_39,k_39,F_39.binds fun _ _ _ _ _ _ us hl=>match us,hl with | [_,_,_,_],_=>rfl⟩⟩
 have zcv9:Def l.prog w K mg base CX0 1 "_law_draws" ["_law_script","_law_many"] (zi7 K):=⟨⟨_,_,zau0 (P:=l.prog) (w:=w) (base:=base) F_40 N ,zcz3 X G a_40,k_40,F_40.binds fun _ _ _ _ _ _ us hl=>match us,hl with | [_,_],_=>rfl⟩⟩
 have zcv5:Def l.prog w K mg base CX0 1 "_law_table" ["_law_draws_here","_law_first","_law_second","_law_k"] zi5:=⟨⟨_,_,zap5 (P:=l.prog) (w:=w) (base:=base) F_41 N ,zcz3 X G a_41,k_41,F_41.binds fun _ _ _ _ _ _ us hl=>match us,hl with | [_,_,_,_],_=>rfl⟩⟩
 have zcv6:Def l.prog w K mg base CX0 2 "_law_field" ["_law_draws_here","_law_first","_law_second","_law_k"] zi3:=⟨⟨_,_,zap3 (P:=l.prog) (w:=w) (base:=base) F_42 N zcv5,zcz3 X G a_42,k_42,F_42.binds fun _ _ _ _ _ _ us hl=>match us,hl with | [_,_,_,_],_=>rfl⟩⟩
 have zcv3:Def l.prog w K mg base CX0 3 "_law_battle" ["_law_draws_here","_law_hosts_here","_law_fields"] zh1:=⟨⟨_,_,zam5 (P:=l.prog) (w:=w) (base:=base) F_43 N zcv6,zcz3 X G a_43,k_43,F_43.binds fun _ _ _ _ _ _ us hl=>match us,hl with | [_,_,_],_=>rfl⟩⟩
 have zcv1:Def l.prog w K mg base CX0 1 "_law_paid" ["_law_field_here","_law_x","_law_y"] zk4:=⟨⟨_,_,zay3 (P:=l.prog) (w:=w) (base:=base) F_44 N ,zcz3 X G a_44,k_44,F_44.binds fun _ _ _ _ _ _ us hl=>match us,hl with | [_,_,_],_=>rfl⟩⟩
 have zcr9:Def l.prog w K mg base CX0 8 "_law_plans" ["_law_hosts_here","_law_many"] zg5:=⟨⟨_,_,zao9 (P:=l.prog) (w:=w) (base:=base) F_45 N  (zcz3 X G a_45) k_45 (F_45.binds fun _ _ _ _ _ _ us hl=>match us,hl with | [_,_],_=>rfl),zcz3 X G a_45,k_45,F_45.binds fun _ _ _ _ _ _ us hl=>match us,hl with | [_,_],_=>rfl⟩⟩
 have zcu4:Def l.prog w K mg base CX0 1 "_law_mix" ["_law_draws_here","_law_at","_law_plans_here"] zk9:=⟨⟨_,_,zbb4 (P:=l.prog) (w:=w) (base:=base) F_46 N ,zcz3 X G a_46,k_46,F_46.binds fun _ _ _ _ _ _ us hl=>match us,hl with | [_,_,_],_=>rfl⟩⟩
 have zct1:Def l.prog w K mg base CX0 1 "_law_stream" ["_law_mix_here"] zf1:=⟨⟨_,_,zal9 (P:=l.prog) (w:=w) (base:=base) F_47 N ,zcz3 X G a_47,k_47,F_47.binds fun _ _ _ _ _ _ us hl=>match us,hl with | [_],_=>rfl⟩⟩
 have zct0:Def l.prog w K mg base CX0 2 "_law_won" ["_law_battle_here","_law_side","_law_stream_here","_law_plan"] zi6:=⟨⟨_,_,zbf1 (P:=l.prog) (w:=w) (base:=base) F_48 N zcv1,zcz3 X G a_48,k_48,F_48.binds fun _ _ _ _ _ _ us hl=>match us,hl with | [_,_,_,_],_=>rfl⟩⟩
 have zcs0:Def l.prog w K mg base CX0 1 "_law_hosts" ["_law_battle_here","_law_side"] ze0:=⟨⟨_,_,zaq9 (P:=l.prog) (w:=w) (base:=base) F_49 N ,zcz3 X G a_49,k_49,F_49.binds fun _ _ _ _ _ _ us hl=>match us,hl with | [_,_],_=>rfl⟩⟩
 have zcs3:Def l.prog w K mg base CX0 10 "_law_copied" ["_law_thing"] zj7:=⟨⟨_,_,zal4 (P:=l.prog) (w:=w) (base:=base) F_50 N  (zcz3 X G a_50) k_50 (F_50.binds fun _ _ _ _ _ _ us hl=>match us,hl with | [_],_=>rfl),zcz3 X G a_50,k_50,F_50.binds fun _ _ _ _ _ _ us hl=>match us,hl with | [_],_=>rfl⟩⟩
 have zcv7:Def l.prog w K mg base CX0 1 "_law_whole" ["_law_found"] zj1:=⟨⟨_,_,zaq2 (P:=l.prog) (w:=w) (base:=base) F_51 N ,zcz3 X G a_51,k_51,F_51.binds fun _ _ _ _ _ _ us hl=>match us,hl with | [_],_=>rfl⟩⟩
 have zcw7:Def l.prog w K mg base CX0 9 "_law_due" ["_law_battle_here","_law_side","_law_stream_here","_law_k","_law_left"] zn7:=⟨⟨_,_,zbc2 (P:=l.prog) (w:=w) (base:=base) F_52 N zcr9 zct0,zcz3 X G a_52,k_52,F_52.binds fun _ _ _ _ _ _ us hl=>match us,hl with | [_,_,_,_,_],_=>rfl⟩⟩
 have zct4:Def l.prog w K mg base CX0 10 "_law_table_is_so" ["_law_battle_here","_law_side","_law_stream_here","_law_table_here"] zd1:=⟨⟨_,_,zab0 (P:=l.prog) (w:=w) (base:=base) F_53 N zcw7 zcs0 zcv7,zcz3 X G a_53,k_53,F_53.binds fun _ _ _ _ _ _ us hl=>match us,hl with | [_,_,_,_],_=>rfl⟩⟩
 have zcu9:Def l.prog w K mg base CX0 3 "_law_by_left" ["_law_battle_here","_law_side","_law_stream_here"] zf6:=⟨⟨_,_,zai8 (P:=l.prog) (w:=w) (base:=base) F_54 N zcs0 zct0,zcz3 X G a_54,k_54,F_54.binds fun _ _ _ _ _ _ us hl=>match us,hl with | [_,_,_],_=>rfl⟩⟩
 have zct3:Def l.prog w K mg base CX0 10 "_law_asked_apart" ["_law_battle_here","_law_side","_law_draws_here"] zd0:=⟨⟨_,_,zab4 (P:=l.prog) (w:=w) (base:=base) F_55 N zcs0 zcu4 zcr9 zct1 zcs4 zcs6,zcz3 X G a_55,k_55,F_55.binds fun _ _ _ _ _ _ us hl=>match us,hl with | [_,_,_],_=>rfl⟩⟩
 have zcu1:Def l.prog w K mg base CX0 1 "_law_lowest" ["_law_top","_law_bottom"] zh4:=⟨⟨_,_,zam1 (P:=l.prog) (w:=w) (base:=base) F_56 N ,zcz3 X G a_56,k_56,F_56.binds fun _ _ _ _ _ _ us hl=>match us,hl with | [_,_],_=>rfl⟩⟩
 have zct2:Def l.prog w K mg base CX0 7 "_law_marked" ["_law_thing"] zj8:=⟨⟨_,_,zam4 (P:=l.prog) (w:=w) (base:=base) F_57 N  (zcz3 X G a_57) k_57 (F_57.binds fun _ _ _ _ _ _ us hl=>match us,hl with | [_],_=>rfl),zcz3 X G a_57,k_57,F_57.binds fun _ _ _ _ _ _ us hl=>match us,hl with | [_],_=>rfl⟩⟩
 have zcu5:Def l.prog w K mg base CX0 7 "_law_once" ["_law_thing"] zo1:=⟨⟨_,_,zav2 (P:=l.prog) (w:=w) (base:=base) F_58 N  (zcz3 X G a_58) k_58 (F_58.binds fun _ _ _ _ _ _ us hl=>match us,hl with | [_],_=>rfl),zcz3 X G a_58,k_58,F_58.binds fun _ _ _ _ _ _ us hl=>match us,hl with | [_],_=>rfl⟩⟩
 exact ok_law (P:=l.prog) (w:=w) (base:=base) F_59 N zct3 zcv3 zcu9 zcs3 zcv9 zcs0 zcu1 zct2 zcu4 zcu5 zcr9 zct1 zct4 zct0 zcs4 zcs6 zcx0 zcx8
theorem walk {l:PySem.W.OpenLaw}{q:Program}{loose:List Str}{XP:(Str->Option Value)->Heap->Prop}{YP:World->Heap->Prop}{d:DefRec}{K:Params->zcy1}(hn:l.most=some 63) (hdf:d.params.defaults=[])
  (hY:∀ (w:World) (h:Heap),YP w h->(K w.params).In h)
  (F:∀ (w:World) (mg:Str->Option Value) (fa:Addr) (h:Heap),(K w.params).In h->h.Ns mainGlobals mg->mg d.name=some (.ref fa) ->
   ∃ fd:FuncData,(∀ (s:Shared) (u:Value),BindsTo s fd ⟨[u],[]⟩ [("_law_script",u)])/\∀ base:Heap,(K w.params).In base->base.Ns mainGlobals mg->FnOk l.prog w (K w.params) mg base CX0 12 fa fd ["_law_script"] (spLaw (K w.params))) :
  PySem.W.WalkO q loose XP YP l.row.toRowW d [] (fun f vs=>PySem.call f vs):=
 L2.walk_of (n:=63) (k:=12) (x:="_law_script") (CX:=fun _=>CX0) (sp:=fun w=>spLaw (K w.params)) hn (by decide) hdf ⟨rfl,by decide,by decide,rfl⟩ hY F (fun _ _ a ns hl _ hS=>⟨a,ns,rfl,hS,hl,fun _=>rfl⟩) fun _ _ _ _ _ z=>z
end G
theorem PySem.W.Fast.tw11770957498376657628 : True := trivial
theorem PySem.W.Fast.tw5182009575295398759 : True := trivial
theorem PySem.W.Fast.tw6752108903188860316 : True := trivial
theorem PySem.W.Fast.tw12470530259400465026 : True := trivial
theorem PySem.W.Fast.tw10062654778361313109 : True := trivial
theorem PySem.W.Fast.tw7172966860548985486 : True := trivial
theorem PySem.W.Fast.tw14878427719461594024 : True := trivial
theorem PySem.W.Fast.tw12921526961284736580 : True := trivial
theorem PySem.W.Fast.tw14185526313322707257 : True := trivial
theorem PySem.W.Fast.tw6294233647222898115 : True := trivial
theorem PySem.W.Fast.tw613691201680751115 : True := trivial
theorem PySem.W.Fast.tw15821653879089699956 : True := trivial
theorem PySem.W.Fast.tw3403111178968409158 : True := trivial
theorem PySem.W.Fast.tw10382987571500192720 : True := trivial
theorem PySem.W.Fast.tw7789380782086293158 : True := trivial
theorem PySem.W.Fast.tw8201754628334432384 : True := trivial
theorem PySem.W.Fast.tw15611575542610959852 : True := trivial
theorem PySem.W.Fast.tw12988337910237495780 : True := trivial
theorem PySem.W.Fast.tw3052147629737281651 : True := trivial
theorem PySem.W.Fast.tw14443613607875432836 : True := trivial
theorem PySem.W.Fast.tw17834428556798309025 : True := trivial
theorem PySem.W.Fast.tw18142115786390097550 : True := trivial
theorem PySem.W.Fast.tw17352623102876988910 : True := trivial
theorem PySem.W.Fast.tw7906331353982590676 : True := trivial
theorem PySem.W.Fast.tw15968564735775222564 : True := trivial
theorem PySem.W.Fast.tw6408374988159262131 : True := trivial
theorem PySem.W.Fast.tw6973509703527947151 : True := trivial
theorem PySem.W.Fast.tw16110886305458198120 : True := trivial
theorem PySem.W.Fast.tw13845052222898590331 : True := trivial
theorem PySem.W.Fast.tw12828514322346136532 : True := trivial
open PySem PySem.W PyProof.Rows
set_option maxRecDepth 100000 in
set_option maxHeartbeats 0 in
theorem PySem.Challenge.cw_hostfields_k50_whole_answers_holds : PySem.Challenge.rw_hostfields_k50_whole_answers.Holds := by
 w_on;o_law;k_head;(case hw=>w_witness2)
 k_fill
 first|refine G.walk (l:=PySem.Challenge.rw_hostfields_k50_whole_answers) rfl rfl (fun w h Y=>PySem.W.kIn_of Y) ?F|refine G.walk (l:=PySem.Challenge.rw_hostfields_k50_whole_answers) rfl rfl (fun w h Y=>PySem.W.km_in_of Y) ?F
 case F=>
  intro w mg fa h KX GG hmg
  refine' G.all_mk KX GG hmg ?e_MOST_HOSTS ?e_MOST_FIELDS ?a_0 ?l_0 ?c_0 ?k_0 ?a_1 ?l_1 ?c_1 ?k_1 ?a_2 ?l_2 ?c_2 ?k_2 ?a_3 ?l_3 ?c_3 ?k_3 ?a_4 ?l_4 ?c_4 ?k_4 ?a_5 ?l_5 ?c_5 ?k_5 ?a_6 ?l_6 ?c_6 ?k_6 ?a_7 ?l_7 ?c_7 ?k_7 ?a_8 ?l_8 ?c_8 ?k_8 ?a_9 ?l_9 ?c_9 ?k_9 ?a_10 ?l_10 ?c_10 ?k_10 ?a_11 ?l_11 ?c_11 ?k_11 ?a_12 ?l_12 ?c_12 ?k_12 ?a_13 ?l_13 ?c_13 ?k_13 ?a_14 ?l_14 ?c_14 ?k_14 ?a_15 ?l_15 ?c_15 ?k_15 ?a_16 ?l_16 ?c_16 ?k_16 ?a_17 ?l_17 ?c_17 ?k_17 ?a_18 ?l_18 ?c_18 ?k_18 ?a_19 ?l_19 ?c_19 ?k_19 ?a_20 ?l_20 ?c_20 ?k_20 ?a_21 ?l_21 ?c_21 ?k_21 ?a_22 ?l_22 ?c_22 ?k_22 ?a_23 ?l_23 ?c_23 ?k_23 ?a_24 ?l_24 ?c_24 ?k_24 ?a_25 ?l_25 ?c_25 ?k_25 ?a_26 ?l_26 ?c_26 ?k_26 ?a_27 ?l_27 ?c_27 ?k_27 ?a_28 ?l_28 ?c_28 ?k_28 ?a_29 ?l_29 ?c_29 ?k_29 ?a_30 ?l_30 ?c_30 ?k_30 ?a_31 ?l_31 ?c_31 ?k_31 ?a_32 ?l_32 ?c_32 ?k_32 ?a_33 ?l_33 ?c_33 ?k_33 ?a_34 ?l_34 ?c_34 ?k_34 ?a_35 ?l_35 ?c_35 ?k_35 ?a_36 ?l_36 ?c_36 ?k_36 ?a_37 ?l_37 ?c_37 ?k_37 ?a_38 ?l_38 ?c_38 ?k_38 ?a_39 ?l_39 ?c_39 ?k_39 ?a_40 ?l_40 ?c_40 ?k_40 ?a_41 ?l_41 ?c_41 ?k_41 ?a_42 ?l_42 ?c_42 ?k_42 ?a_43 ?l_43 ?c_43 ?k_43 ?a_44 ?l_44 ?c_44 ?k_44 ?a_45 ?l_45 ?c_45 ?k_45 ?a_46 ?l_46 ?c_46 ?k_46 ?a_47 ?l_47 ?c_47 ?k_47 ?a_48 ?l_48 ?c_48 ?k_48 ?a_49 ?l_49 ?c_49 ?k_49 ?a_50 ?l_50 ?c_50 ?k_50 ?a_51 ?l_51 ?c_51 ?k_51 ?a_52 ?l_52 ?c_52 ?k_52 ?a_53 ?l_53 ?c_53 ?k_53 ?a_54 ?l_54 ?c_54 ?k_54 ?a_55 ?l_55 ?c_55 ?k_55 ?a_56 ?l_56 ?c_56 ?k_56 ?a_57 ?l_57 ?c_57 ?k_57 ?a_58 ?l_58 ?c_58 ?k_58 ?a_59 ?l_59 ?c_59 ?k_59 ?z_abs ?z_all ?z_bool ?z_enumerate ?z_int ?z_isinstance ?z_len ?z_list ?z_max ?z_min ?z_range ?z_reversed ?z_sorted ?z_sum ?z_tuple ?z_zip
  (case e_MOST_HOSTS=>k_is)
  (case e_MOST_FIELDS=>k_is)
  (case a_0=>k_is)
  (case l_0=>k_is)
  (case c_0=>k_is)
  (case k_0=>k_is)
  (case a_1=>k_is)
  (case l_1=>k_is)
  (case c_1=>k_is)
  (case k_1=>k_is)
  (case a_2=>k_is)
  (case l_2=>k_is)
  (case c_2=>k_is)
  (case k_2=>k_is)
  (case a_3=>k_is)
  (case l_3=>k_is)
  (case c_3=>k_is)
  (case k_3=>k_is)
  (case a_4=>k_is)
  (case l_4=>k_is)
  (case c_4=>k_is)
  (case k_4=>k_is)
  (case a_5=>k_is)
  (case l_5=>k_is)
  (case c_5=>k_is)
  (case k_5=>k_is)
  (case a_6=>k_is)
  (case l_6=>k_is)
  (case c_6=>k_is)
  (case k_6=>k_is)
  (case a_7=>k_is)
  (case l_7=>k_is)
  (case c_7=>k_is)
  (case k_7=>k_is)
  (case a_8=>k_is)
  (case l_8=>k_is)
  (case c_8=>k_is)
  (case k_8=>k_is)
  (case a_9=>k_is)
  (case l_9=>k_is)
  (case c_9=>k_is)
  (case k_9=>k_is)
  (case a_10=>k_is)
  (case l_10=>k_is)
  (case c_10=>k_is)
  (case k_10=>k_is)
  (case a_11=>k_is)
  (case l_11=>k_is)
  (case c_11=>k_is)
  (case k_11=>k_is)
  (case a_12=>k_is)
  (case l_12=>k_is)
  (case c_12=>k_is)
  (case k_12=>k_is)
  (case a_13=>k_is)
  (case l_13=>k_is)
  (case c_13=>k_is)
  (case k_13=>k_is)
  (case a_14=>k_is)
  (case l_14=>k_is)
  (case c_14=>k_is)
  (case k_14=>k_is)
  (case a_15=>k_is)
  (case l_15=>k_is)
  (case c_15=>k_is)
  (case k_15=>k_is)
  (case a_16=>k_is)
  (case l_16=>k_is)
  (case c_16=>k_is)
  (case k_16=>k_is)
  (case a_17=>k_is)
  (case l_17=>k_is)
  (case c_17=>k_is)
  (case k_17=>k_is)
  (case a_18=>k_is)
  (case l_18=>k_is)
  (case c_18=>k_is)
  (case k_18=>k_is)
  (case a_19=>k_is)
  (case l_19=>k_is)
  (case c_19=>k_is)
  (case k_19=>k_is)
  (case a_20=>k_is)
  (case l_20=>k_is)
  (case c_20=>k_is)
  (case k_20=>k_is)
  (case a_21=>k_is)
  (case l_21=>k_is)
  (case c_21=>k_is)
  (case k_21=>k_is)
  (case a_22=>k_is)
  (case l_22=>k_is)
  (case c_22=>k_is)
  (case k_22=>k_is)
  (case a_23=>k_is)
  (case l_23=>k_is)
  (case c_23=>k_is)
  (case k_23=>k_is)
  (case a_24=>k_is)
  (case l_24=>k_is)
  (case c_24=>k_is)
  (case k_24=>k_is)
  (case a_25=>k_is)
  (case l_25=>k_is)
  (case c_25=>k_is)
  (case k_25=>k_is)
  (case a_26=>k_is)
  (case l_26=>k_is)
  (case c_26=>k_is)
  (case k_26=>k_is)
  (case a_27=>k_is)
  (case l_27=>k_is)
  (case c_27=>k_is)
  (case k_27=>k_is)
  (case a_28=>k_is)
  (case l_28=>k_is)
  (case c_28=>k_is)
  (case k_28=>k_is)
  (case a_29=>k_is)
  (case l_29=>k_is)
  (case c_29=>k_is)
  (case k_29=>k_is)
  (case a_30=>k_is)
  (case l_30=>k_is)
  (case c_30=>k_is)
  (case k_30=>k_is)
  (case a_31=>k_is)
  (case l_31=>k_is)
  (case c_31=>k_is)
  (case k_31=>k_is)
  (case a_32=>k_is)
  (case l_32=>k_is)
  (case c_32=>k_is)
  (case k_32=>k_is)
  (case a_33=>k_is)
  (case l_33=>k_is)
  (case c_33=>k_is)
  (case k_33=>k_is)
  (case a_34=>k_is)
  (case l_34=>k_is)
  (case c_34=>k_is)
  (case k_34=>k_is)
  (case a_35=>k_is)
  (case l_35=>k_is)
  (case c_35=>k_is)
  (case k_35=>k_is)
  (case a_36=>k_is)
  (case l_36=>k_is)
  (case c_36=>k_is)
  (case k_36=>k_is)
  (case a_37=>k_is)
  (case l_37=>k_is)
  (case c_37=>k_is)
  (case k_37=>k_is)
  (case a_38=>k_is)
  (case l_38=>k_is)
  (case c_38=>k_is)
  (case k_38=>k_is)
  (case a_39=>k_is)
  (case l_39=>k_is)
  (case c_39=>k_is)
  (case k_39=>k_is)
  (case a_40=>k_is)
  (case l_40=>k_is)
  (case c_40=>k_is)
  (case k_40=>k_is)
  (case a_41=>k_is)
  (case l_41=>k_is)
  (case c_41=>k_is)
  (case k_41=>k_is)
  (case a_42=>k_is)
  (case l_42=>k_is)
  (case c_42=>k_is)
  (case k_42=>k_is)
  (case a_43=>k_is)
  (case l_43=>k_is)
  (case c_43=>k_is)
  (case k_43=>k_is)
  (case a_44=>k_is)
  (case l_44=>k_is)
  (case c_44=>k_is)
  (case k_44=>k_is)
  (case a_45=>k_is)
  (case l_45=>k_is)
  (case c_45=>k_is)
  (case k_45=>k_is)
  (case a_46=>k_is)
  (case l_46=>k_is)
  (case c_46=>k_is)
  (case k_46=>k_is)
  (case a_47=>k_is)
  (case l_47=>k_is)
  (case c_47=>k_is)
  (case k_47=>k_is)
  (case a_48=>k_is)
  (case l_48=>k_is)
  (case c_48=>k_is)
  (case k_48=>k_is)
  (case a_49=>k_is)
  (case l_49=>k_is)
  (case c_49=>k_is)
  (case k_49=>k_is)
  (case a_50=>k_is)
  (case l_50=>k_is)
  (case c_50=>k_is)
  (case k_50=>k_is)
  (case a_51=>k_is)
  (case l_51=>k_is)
  (case c_51=>k_is)
  (case k_51=>k_is)
  (case a_52=>k_is)
  (case l_52=>k_is)
  (case c_52=>k_is)
  (case k_52=>k_is)
  (case a_53=>k_is)
  (case l_53=>k_is)
  (case c_53=>k_is)
  (case k_53=>k_is)
  (case a_54=>k_is)
  (case l_54=>k_is)
  (case c_54=>k_is)
  (case k_54=>k_is)
  (case a_55=>k_is)
  (case l_55=>k_is)
  (case c_55=>k_is)
  (case k_55=>k_is)
  (case a_56=>k_is)
  (case l_56=>k_is)
  (case c_56=>k_is)
  (case k_56=>k_is)
  (case a_57=>k_is)
  (case l_57=>k_is)
  (case c_57=>k_is)
  (case k_57=>k_is)
  (case a_58=>k_is)
  (case l_58=>k_is)
  (case c_58=>k_is)
  (case k_58=>k_is)
  (case a_59=>k_is)
  (case l_59=>k_is)
  (case c_59=>k_is)
  (case k_59=>k_is)
  (case z_abs=>k_is)
  (case z_all=>k_is)
  (case z_bool=>k_is)
  (case z_enumerate=>k_is)
  (case z_int=>k_is)
  (case z_isinstance=>k_is)
  (case z_len=>k_is)
  (case z_list=>k_is)
  (case z_max=>k_is)
  (case z_min=>k_is)
  (case z_range=>k_is)
  (case z_reversed=>k_is)
  (case z_sorted=>k_is)
  (case z_sum=>k_is)
  (case z_tuple=>k_is)
  (case z_zip=>k_is)
