import PyProof.Rows.All
import Wide.All
import OpenK.AllK
import Wide.FinOn
import Lean
import PyProof.EqAt
import PyProof.EqKinds
import PyProof.TupleCall
import PyProof.NeKinds
import PyProof.CompFree
import PyProof.EnumMake
import KE.KTryMore
import PyProof.ExcArgsOwn
import PyProof.ZipIter
import PyProof.ListRange
import KE.KIsAll
import PyProof.InstStoreFacts
import PyProof.ExcInit
import PyProof.ReprRoads
import PyProof.CallStr
import KE.KEqDict
import PyProof.EqLayable
import PyProof.StrLawsRepr
import PySem.Challenge.RW_hostfields_k68_a_host_more
open List renaming getElem?_eq_getElem->zbz6,length_map->zbz7,getElem?_eq_some_iff->zbz9,mem_of_getElem?->zca0,getElem?_map->zca1,getD_eq_getElem?_getD->zca2,size_toArray->zca4,length_append->zca7,mem_cons->zcb3,mem_map->zcb4,length_take->zcb8,all_eq_true->zcc0,getElem?_append_right->zcc2,mem_append->zcc3,getElem?_append_left->zcc4,getElem?_of_mem->zcc5,map_append->zcc6,map_map->zcc8,length_cons->zcd0,length_drop->zcd2,length_singleton->zcd3,not_mem_nil->zcd4,mem_cons_of_mem->zcd5,mem_append_right->zcd7,mem_singleton->zcd8,map_cons->zcd9,map_congr_left->zce1,getElem?_eq_none->zce3,lookup_cons->zce7,mem_cons_self->zce8,nodup_cons->zcf1,length_nil->zcf2,mem_range->zcf4,find?_cons->zcf6,take_length->zcf7,getElem?_take_of_lt->zcf9,getElem?_drop->zcg1,nodup_append->zcg2,getElem?_set_self->zcg3,take_of_length_le->zcg4,mem_or_eq_of_mem_set->zcg5,ext_getElem?->zcg6,length_set->zcg8,replicate_succ->zcg9,drop_of_length_le->zch1,filter_cons->zch3,drop_zero->zch5,sum_append->zch7,flatten_cons->zch8,length_range->zch9,mem_iff_getElem->zci0,mem_of_mem_take->zci1,countP_cons->zci2,ext_getElem->zci3,take_succ->zci4
open PySem.W renaming Frag->zbz8,kitOne->zca3,nsIn->zca9,mg_of->zcb0,subIn->zcb2,keepIn->zcb5,codeIn->zcb9,fnOf->zcc1,clsIn->zce0,mg_none_of->zce4,typeIn->zce9,kia_one->zcf0,findIn->zcf5,kitAny->zch6
open Bool renaming false_ne_true->zca5,and_eq_true->zcb1,true_and->zce5,false_eq_true->zcg0,eq_iff_iff->zcg7,and_false->zch4
open Option renaming map_eq_some_iff->zca6
open PySem.Heap renaming get?_push_of_some->zca8,lt_size->zcb7,get?_update_other->zcc9,get?_push_size->zcd1,get?_update_self->zcf8
open Nat renaming le_refl->zcb6,lt_of_lt_of_le->zcc7,zero_le->zcd6,ne_of_lt->zce2,le_trans->zce6,lt_irrefl->zch0,le_add_right->zch2
open Int renaming toNat_natCast->zcf3
set_option Elab.async false
set_option linter.all false
set_option maxRecDepth 100000
namespace L2
open PySem PySem.Spec PyProof.Rows
abbrev Key:=Sum Int Str
def zaw4:Key->Value->Bool
 | .inl k,v=>Value.isInt k v
 | .inr x,v=>Value.isStrOf x v
def keyH (w:World):Key->Int
 | .inl k=>hashInt k
 | .inr x=>hashStr w x
theorem zh1:∀ {k:Key}{v:Value},zaw4 k v=true->(∃ i t,k=Sum.inl i/\v=Value.int i t)∨(∃ x t,k=Sum.inr x/\v=Value.str x t)
 | .inl i,v,h=>by
  obtain⟨t,e⟩:=Value.isInt_shape (k:=i) (v:=v) h
  exact .inl ⟨i,t,rfl,e⟩
 | .inr x,v,h=>by
  obtain⟨t,e⟩:=Value.isStrOf_shape (x:=x) (v:=v) h
  exact .inr ⟨x,t,rfl,e⟩
theorem zbb7 (i:Int) (t:Tok):zaw4 (.inl i) (.int i t)=true:=by simp[zaw4,Value.isInt]
theorem zaz0 (x:Str) (t:Tok):zaw4 (.inr x) (.str x t)=true:=by simp[zaw4,Value.isStrOf]
theorem key_ll (a b:Int):decide ((Sum.inl a:Key)=Sum.inl b)=(a==b):=by
 by_cases e:a=b
 ·subst e;simp
 ·have h:¬ (Sum.inl a:Key)=Sum.inl b:=fun q=>e (Sum.inl.inj q)
  rw[decide_eq_false h]
  exact (beq_eq_false_iff_ne.mpr e).symm
theorem key_rr (a b:Str):decide ((Sum.inr a:Key)=Sum.inr b)=decide (a=b):=by
 by_cases e:a=b
 ·subst e;simp
 ·have h:¬ (Sum.inr a:Key)=Sum.inr b:=fun q=>e (Sum.inr.inj q)
  rw[decide_eq_false h,decide_eq_false e]
theorem key_lr (a:Int) (b:Str):decide ((Sum.inl a:Key)=Sum.inr b)=false:=decide_eq_false (fun q=>nomatch q)
theorem key_rl (a:Str) (b:Int):decide ((Sum.inr a:Key)=Sum.inl b)=false:=decide_eq_false (fun q=>nomatch q)
def zj6 (prog:Program) (w:World):PySem.KeyKind prog w Key where
 is:=zaw4
 hash:=keyH w
 inj:=fun v a b ha hb=>by
  rcases zh1 ha with ⟨i,t,rfl,rfl⟩|⟨x,t,rfl,rfl⟩
  ·rcases zh1 hb with ⟨j,u,rfl,e⟩|⟨y,u,rfl,e⟩
   ·injection e with e1 _;rw[e1]
   ·exact nomatch e
  ·rcases zh1 hb with ⟨j,u,rfl,e⟩|⟨y,u,rfl,e⟩
   ·exact nomatch e
   ·injection e with e1 _;rw[e1]
 byValue:=fun k v h=>by
  rcases zh1 h with ⟨i,t,rfl,rfl⟩|⟨x,t,rfl,rfl⟩<;>rfl
 pyHash:=fun hv h=>by
  rcases zh1 hv with ⟨i,t,rfl,rfl⟩|⟨x,t,rfl,rfl⟩
  ·exact wpAny_pyHash_int h
  ·exact wpAny_pyHash_str h
 eqBool:=fun hu hv h=>by
  rcases zh1 hu with ⟨i,t,rfl,rfl⟩|⟨x,t,rfl,rfl⟩
  ·rcases zh1 hv with ⟨j,u,rfl,rfl⟩|⟨y,u,rfl,rfl⟩
   ·rw[key_ll] at h;exact wpAny_eqBool_int h
   ·rw[key_lr] at h;exact SeqAt.EqAt.int_str i t y u _ _ _ _ h
  ·rcases zh1 hv with ⟨j,u,rfl,rfl⟩|⟨y,u,rfl,rfl⟩
   ·rw[key_rl] at h;exact SeqAt.EqAt.str_int x t j u _ _ _ _ h
   ·rw[key_rr] at h;exact wpAny_eqBool_str h
 «strs»:=fun k x t v h=>by
  rcases zh1 h with ⟨i,u,rfl,e⟩|⟨y,u,rfl,e⟩
  ·exact nomatch e
  ·injection e with e1 _
   subst e1
   cases v<;>rfl
theorem zap7 (prog:Program) (w:World) (i:Int) (t:Tok):(zj6 prog w).is (.inl i) (.int i t)=true:=zbb7 i t
theorem zaq5 (prog:Program) (w:World) (x:Str) (t:Tok):(zj6 prog w).is (.inr x) (.str x t)=true:=zaz0 x t
end L2
namespace L2
open PySem PySem.Spec PyProof.Rows
inductive V where
 | non | bl (b:Bool) | int (i:Int) | str (x:Str) | byt (b:Array UInt8) | flt (b:UInt64) | ref (a:Addr) | ty (n:String)
 deriving DecidableEq
def RelV:V->Value->Prop
 | .non,u=>u=Value.none
 | .bl b,u=>u=Value.bool b
 | .int i,u=>∃ t,u=Value.int i t
 | .str x,u=>∃ t,u=Value.str x t
 | .byt b,u=>∃ t,u=Value.bytes b t
 | .flt b,u=>∃ t,u=Value.float b t
 | .ref a,u=>u=Value.ref a
 | .ty n,u=>u=Value.type n
abbrev Vals:List V->List Value->Prop:=Paired RelV
theorem Vals.length {xs:List V}{us:List Value}(r:Vals xs us):xs.length=us.length:=Paired.length r
theorem Vals.get:∀ {xs:List V}{us:List Value}{i:Nat}{x:V},Vals xs us->xs[i]?=some x->∃ u,us[i]?=some u/\RelV x u
 | _,_,_,_,.nil,e=>by simp at e
 | _,_,0,_,.cons r _,e=>by simp at e;subst e;exact⟨_,rfl,r⟩
 | _,_,i+1,x,.cons _ t,e=>by
  obtain⟨u,h1,h2⟩:=Vals.get (i:=i) (x:=x) t (by simpa using e)
  exact⟨u,by simpa using h1,h2⟩
theorem Vals.set {x:V}{u:Value}(r:RelV x u):∀ {xs:List V}{us:List Value}(i:Nat),Vals xs us->Vals (xs.set i x) (us.set i u)
 | _,_,_,.nil=>.nil
 | _,_,0,.cons _ t=>.cons r t
 | _,_,i+1,.cons q t=>.cons q (Vals.set r i t)
theorem Vals.append:∀ {xs ys:List V}{us ws:List Value},Vals xs us->Vals ys ws->Vals (xs++ys) (us++ws)
 | _,_,_,_,.nil,s=>s
 | _,_,_,_,.cons r t,s=>.cons r (Vals.append t s)
theorem Vals.take:∀ {xs:List V}{us:List Value}(n:Nat),Vals xs us->Vals (xs.take n) (us.take n)
 | _,_,0,_=>.nil
 | _,_,_+1,.nil=>.nil
 | _,_,n+1,.cons r t=>.cons r (Vals.take n t)
theorem Vals.drop:∀ {xs:List V}{us:List Value}(n:Nat),Vals xs us->Vals (xs.drop n) (us.drop n)
 | _,_,0,r=>r
 | _,_,_+1,.nil=>.nil
 | _,_,n+1,.cons _ t=>Vals.drop n t
def RelO:Option V->Option Value->Prop
 | some v,some u=>RelV v u
 | none,none=>True
 | _,_=>False
def KV {κ:Type}:List (κ×V)->List (κ×Value)->Prop:=Paired fun (p:κ×V) (q:κ×Value)=>p.1=q.1/\RelV p.2 q.2
def kV:Key->V
 | .inl i=>.int i
 | .inr x=>.str x
inductive HO where
 | lst (xs:List V)
 | tup (xs:List V)
 | dK (kvs:List (Key×V)) | dT (kvs:List (List Key×V))
 | set (S:Int->Bool) (n:Nat)
 | ins (C dx:Addr) (fs:List (Str×V))
 | own (x:Addr)
 | xd (fs:List (Str×V))
 | met (f x:Addr)
 | rng (lo hi:Int)
 | frz (o:Obj) (u:HO)
 | tbl (ps:Array Value)
 | ext (φ:Heap->Prop)
abbrev Hp:=Addr->Option HO
def upd (H:Hp) (a:Addr) (o:HO):Hp:=fun b=>if b=a then some o else H b
theorem zc2 {H:Hp}{a:Addr}{o:HO}:upd H a o a=some o:=by unfold upd;rw[if_pos rfl]
theorem zd5 {H:Hp}{a b:Addr}{o:HO}(h:b≠a):upd H a o b=H b:=by unfold upd;rw[if_neg h]
theorem ne_of {H:Hp}{a b:Addr}{o u:HO}(h:H a=some o) (h':H b=some u) (d:o≠u):a≠b:=by
 intro e;subst e;rw[h] at h';exact d (Option.some.inj h')
theorem za4 {H:Hp}{a b:Addr}{o:HO}(h:H a=some o) (h':H b=none):a≠b:=by
 intro e;subst e;rw[h] at h';cases h'
section
variable (P:Program) (w:World)
def zf7 (H:Hp) (h:Heap) (a:Addr):HO->Prop
 | .lst xs=>xs.length<=sizeLine/\∃ (its:List Value) (n:Nat),Vals xs its/\h.get? a=some { cls:=.type "list",data:=.seq its.toArray n }
 | .tup xs=>xs.length<=sizeLine/\∃ its:List Value,Vals xs its/\IsTup h a its.toArray
 | .dK kvs=>kvs.length<=sizeLine/\(a==sysModules)=false/\∃ vs,KV kvs vs/\h.DictOf (zj6 P w) a vs
 | .dT kvs=>kvs.length<=sizeLine/\(a==sysModules)=false/\∃ xs:List (List Key×Addr×Value),
   Paired (fun (p:List Key×V) (q:List Key×Addr×Value)=>p.1=q.1/\H q.2.1=some (.tup (p.1.map kV))/\RelV p.2 q.2.2) kvs xs /\
   ∃ o es ep,h.get? a=some o/\o.ExactDict/\o.data=.dict es ep/\es.toList=xs.map (entryOfKey (tupleKind (zj6 P w)))/\(xs.map (·.1)).Nodup
 | .set S n=>h.SetOf (intKind P w) a S n
 | .ins C dx fs=>H dx=some (.own a)/\fs.length<=1000/\dx≠a/\h.get? a=some (PySem.W.instObj C dx) /\
   ∃ mA,h.Ns1 dx mA/\(∀ f,RelO (fs.lookup f) (mA f))/\PySem.Within mA (fs.map (·.1))
 | .own _=>∃ o,h.get? a=some o
 | .xd fs=>∃ mA,h.Ns1 a mA/\∀ f,RelO (fs.lookup f) (mA f)
 | .rng lo hi=>∃ t u v,h.get? a=some { cls:=.type "range",data:=.fields #[.int lo t,.int hi u,.int 1 v] }
 | .frz o u=>h.get? a=some o/\zf7 H h a u
 | .tbl ps=>h.get? a=some { cls:=.none,data:=.fields ps }
 | .met f x=>h.get? a=some (PySem.W.methodObj (.ref f) (.ref x))
 | .ext φ=>φ h/\(∃ o,h.get? a=some o)/\∀ h1 h2:Heap,φ h1->(∀ o,h1.get? a=some o->h2.get? a=some o)->φ h2
def HOk (H:Hp) (h:Heap):Prop:=∀ a o,H a=some o->zf7 P w H h a o
end
section
variable {P:Program}{w:World}{H H':Hp}{h h':Heap}{a:Addr}{o:HO}
theorem zf7.lt (x:zf7 P w H h a o):a<h.objs.size:=by
 cases o with
 | lst xs=>obtain⟨_,_,_,_,e⟩:=x;exact zcb7 e
 | tup xs=>obtain⟨_,_,_,p⟩:=x;exact p.lt
 | dK kvs=>obtain⟨_,_,_,_,o,_,_,e,_⟩:=x;exact zcb7 e
 | dT kvs=>obtain⟨_,_,_,_,o,_,_,e,_⟩:=x;exact zcb7 e
 | set S n=>obtain⟨o,_,_,_,e,_⟩:=x;exact zcb7 e
 | ins C dx fs=>obtain⟨_,_,_,e,_⟩:=x;exact zcb7 e
 | own y=>obtain⟨_,e⟩:=x;exact zcb7 e
 | xd fs=>obtain⟨_,⟨_,_,_,e,_⟩,_⟩:=x;exact zcb7 e
 | rng lo hi=>obtain⟨_,_,_,e⟩:=x;exact zcb7 e
 | frz ob u=>obtain⟨e,_⟩:=x;exact zcb7 e
 | tbl ps=>exact zcb7 (show h.get? a=some _ from x)
 | met f y=>exact zcb7 (show h.get? a=some _ from x)
 | ext φ=>obtain⟨_,⟨_,e⟩,_⟩:=x;exact zcb7 e
theorem Paired.mapP {α β:Type}{F G:α->β->Prop}:∀ {l₁:List α}{l₂:List β},Paired F l₁ l₂->(∀ a b,F a b->G a b)->Paired G l₁ l₂
 | _,_,.nil,_=>.nil
 | _,_,.cons r t,f=>.cons (f _ _ r) (Paired.mapP t f)
theorem zf7.stay (x:zf7 P w H h a o) (k:∀ b u,(b=a∨H b=some (.own a))->h.get? b=some u->h'.get? b=some u)
  (ho:∀ b,H b=some (.own a)->H' b=some (.own a)) (ht:∀ b xs,H b=some (.tup xs)->H' b=some (.tup xs)):zf7 P w H' h' a o:=by
 induction o with
 | lst xs=>obtain⟨z,its,n,r,e⟩:=x;exact⟨z,its,n,r,k _ _ (.inl rfl) e⟩
 | tup xs=>obtain⟨z,its,r,ob,e,c⟩:=x;exact⟨z,its,r,ob,k _ _ (.inl rfl) e,c⟩
 | dK kvs=>obtain⟨z,y,vs,r,ob,es,ep,e,c⟩:=x;exact⟨z,y,vs,r,ob,es,ep,k _ _ (.inl rfl) e,c⟩
 | dT kvs=>
  obtain⟨z,y,xs,r,ob,es,ep,e,c⟩:=x
  exact⟨z,y,xs,Paired.mapP r fun p q z=>⟨z.1,ht _ _ z.2.1,z.2.2⟩,ob,es,ep,k _ _ (.inl rfl) e,c⟩
 | set S n=>obtain⟨ob,es,ep,t,e,c⟩:=x;exact⟨ob,es,ep,t,k _ _ (.inl rfl) e,c⟩
 | ins C dx fs=>
  obtain⟨d,z,ne,e,mA,⟨od,es,ep,e2,c⟩,r⟩:=x
  exact⟨ho _ d,z,ne,k _ _ (.inl rfl) e,mA,⟨od,es,ep,k _ _ (.inr d) e2,c⟩,r⟩
 | own y=>obtain⟨ob,e⟩:=x;exact⟨ob,k _ _ (.inl rfl) e⟩
 | xd fs=>obtain⟨mA,⟨od,es,ep,e,c⟩,r⟩:=x;exact⟨mA,⟨od,es,ep,k _ _ (.inl rfl) e,c⟩,r⟩
 | rng lo hi=>obtain⟨t,u,v,e⟩:=x;exact⟨t,u,v,k _ _ (.inl rfl) e⟩
 | frz ob u ih=>obtain⟨e,q⟩:=x;exact⟨k _ _ (.inl rfl) e,ih q⟩
 | tbl ps=>
  have e:h.get? a=some { cls:=.none,data:=.fields ps }:=x
  show h'.get? a=some { cls:=.none,data:=.fields ps }
  exact k a _ (.inl rfl) e
 | met f y=>
  have e:h.get? a=some (PySem.W.methodObj (.ref f) (.ref y)):=x
  show h'.get? a=some (PySem.W.methodObj (.ref f) (.ref y))
  exact k a _ (.inl rfl) e
 | ext φ=>obtain⟨p,⟨o,e⟩,st⟩:=x;exact⟨st _ _ p fun o q=>k _ _ (.inl rfl) q,⟨o,k _ _ (.inl rfl) e⟩,st⟩
theorem HOk.lt (x:HOk P w H h) (e:H a=some o):a<h.objs.size:=(x a o e).lt
theorem HOk.fresh (x:HOk P w H h) (e:h.objs.size<=a):H a=none:=by
 cases q:H a with
 | none=>rfl
 | some u=>exact absurd (zcc7 (x.lt q) e) (zch0 _)
theorem HOk.kept (x:HOk P w H h) (k:∀ b u,h.get? b=some u->h'.get? b=some u):HOk P w H h':=fun a o e=>
 (x a o e).stay (fun b u _ q=>k b u q) (fun _ q=>q) fun _ _ q=>q
theorem HOk.laid (x:HOk P w H h) (k:∀ b u,h.get? b=some u->h'.get? b=some u) (hp:h.objs.size<=a) (new:zf7 P w (upd H a o) h' a o):HOk P w (upd H a o) h':=fun b u e=>by
 have hn:=x.fresh hp
 by_cases hb:b=a
 ·subst hb;rw[zc2] at e;cases e;exact new
 ·rw[zd5 hb] at e
  exact (x b u e).stay (fun c v _ q=>k c v q) (fun c q=>by rw[zd5 (za4 q hn)];exact q) fun c xs q=>by rw[zd5 (za4 q hn)];exact q
end
def Rd (H:Hp) (a:Addr) (u:HO):Prop:=H a=some u∨∃ o,H a=some (.frz o u)
theorem Rd.of {H:Hp}{a:Addr}{u:HO}(h:H a=some u):Rd H a u:=.inl h
theorem Rd.ok {P:Program}{w:World}{H:Hp}{h:Heap}{a:Addr}{u:HO}(r:Rd H a u) (x:HOk P w H h):zf7 P w H h a u:=by
 rcases r with r|⟨o,r⟩
 ·exact x a u r
 ·obtain⟨_,q⟩:=x a _ r
  exact q
def Mut:Option HO->Prop
 | some (.lst _)=>True
 | some (.dK _)=>True
 | some (.dT _)=>True
 | some (.set _ _)=>True
 | some (.ins _ _ _)=>True
 | some (.ext _)=>True
 | _=>False
section
variable {P:Program}{w:World}{H:Hp}{h h':Heap}{x e:Addr}{o':HO}
theorem HOk.write (ok:HOk P w H h) (mu:Mut (H x)) (he:e=x∨H e=some (.own x)) (k:∀ b u,b≠e->h.get? b=some u->h'.get? b=some u) (heo:∃ u,h'.get? e=some u)
  (new:zf7 P w (upd H x o') h' x o'):HOk P w (upd H x o') h':=fun b u q=>by
 have nown:∀ c y,H c=some (.own y)->c≠x:=fun c y r z=>by subst z;rw[r] at mu;exact mu
 have ntup:∀ c xs,H c=some (.tup xs)->c≠x:=fun c xs r z=>by subst z;rw[r] at mu;exact mu
 by_cases hb:b=x
 ·subst hb;rw[zc2] at q;cases q;exact new
 ·rw[zd5 hb] at q
  by_cases hbe:b=e
  ·have q':H b=some (.own x):=by
    rcases he with z|z
    ·exact absurd (hbe.trans z) hb
    ·rw[hbe];exact z
   rw[q] at q';cases q'
   obtain⟨v,hv⟩:=heo
   exact⟨v,by rw[hbe];exact hv⟩
  ·refine (ok b u q).stay (fun c v hc r=>k c v ?_ r) (fun c r=>by rw[zd5 (nown c b r)];exact r) fun c xs r=>by rw[zd5 (ntup c xs r)];exact r
   rcases hc with rfl|hc
   ·exact hbe
   ·rintro rfl
    rcases he with z|z
    ·exact nown c b hc z
    ·rw[hc] at z;cases z;exact hb rfl
end
structure Un (fs ex:List Addr) (H H':Hp) (h h':Heap):Prop where
 keep:∀ b o,h.get? b=some o->H b=none->b ∉ fs->b ∉ ex->h'.get? b=some o
 slot:∀ b o,h.get? b=some o->H b=none->b∈fs->b ∉ ex->∃ sl,h'.get? b=some { o with slots:=sl }
 free:∀ b o,h.get? b=some o->H b=none->b ∉ ex->H' b=none
 there:∀ b o,h.get? b=some o->b ∉ ex->∃ o',h'.get? b=some o'
 tups:∀ b xs,H b=some (.tup xs)->H' b=some (.tup xs)
 frzs:∀ b o u,H b=some (.frz o u)->H' b=some (.frz o u)
 tbls:∀ b ps,H b=some (.tbl ps)->∃ more,H' b=some (.tbl (ps++more))
section
variable {fs fs' ex ex':List Addr}{H H1 H2:Hp}{h h1 h2 h':Heap}{a x e:Addr}{o:HO}
theorem Un.any (u:Un fs ex H H1 h h1) {b:Addr}{ob:Obj}(q:h.get? b=some ob) (n:H b=none) (hx:b ∉ ex):∃ sl,h1.get? b=some { ob with slots:=sl }:=by
 by_cases hb:b∈fs
 ·exact u.slot b ob q n hb hx
 ·exact⟨ob.slots,u.keep b ob q n hb hx⟩
theorem Un.trans (a:Un fs ex H H1 h h1) (b:Un fs ex H1 H2 h1 h2):Un fs ex H H2 h h2 where
 keep:=fun c ob q n hc hx=>b.keep c ob (a.keep c ob q n hc hx) (a.free c ob q n hx) hc hx
 slot:=fun c ob q n hc hx=>by
  obtain⟨sl,e1⟩:=a.slot c ob q n hc hx
  obtain⟨sl',e2⟩:=b.slot c _ e1 (a.free c ob q n hx) hc hx
  exact⟨sl',e2⟩
 free:=fun c ob q n hx=>by
  obtain⟨o',e1⟩:=a.there c ob q hx
  exact b.free c o' e1 (a.free c ob q n hx) hx
 there:=fun c ob q hx=>by
  obtain⟨o',e1⟩:=a.there c ob q hx
  exact b.there c o' e1 hx
 tups:=fun c xs q=>b.tups c xs (a.tups c xs q)
 frzs:=fun c ob xs q=>b.frzs c ob xs (a.frzs c ob xs q)
 tbls:=fun c ps q=>by
  obtain⟨m1,e1⟩:=a.tbls c ps q
  obtain⟨m2,e2⟩:=b.tbls c _ e1
  exact⟨m1++m2,by rw[e2,Array.append_assoc]⟩
theorem Un.kept (k:∀ b u,h.get? b=some u->h'.get? b=some u):Un fs ex H H h h':=
 ⟨fun b ob q _ _ _=>k b ob q,fun b ob q _ _ _=>⟨ob.slots,k b ob q⟩,fun _ _ _ n _=>n,fun b ob q _=>⟨ob,k b ob q⟩,fun _ _ q=>q,fun _ _ _ q=>q,fun _ ps q=>⟨#[],by rw[q];simp⟩⟩
theorem Un.refl:Un fs ex H H h h:=Un.kept fun _ _ q=>q
theorem Un.laid (k:∀ b u,h.get? b=some u->h'.get? b=some u) (hp:h.objs.size<=a) (hn:H a=none):Un fs ex H (upd H a o) h h' where
 keep:=fun b u q _ _ _=>k b u q
 slot:=fun b u q _ _ _=>⟨u.slots,k b u q⟩
 free:=fun b u q n _=>by rw[zd5 (zce2 (zcc7 (zcb7 q) hp))];exact n
 there:=fun b u q _=>⟨u,k b u q⟩
 tups:=fun b xs q=>by rw[zd5 (za4 q hn)];exact q
 frzs:=fun b u xs q=>by rw[zd5 (za4 q hn)];exact q
 tbls:=fun b ps q=>⟨#[],by rw[zd5 (za4 q hn),q];simp⟩
theorem Un.write (mu:Mut (H x)) (he:e=x∨H e=some (.own x)) (k:∀ b u,b≠e->h.get? b=some u->h'.get? b=some u) (heo:∃ u,h'.get? e=some u):Un fs ex H (upd H x o) h h':=by
 have hx:∀ b,H b=none->b≠x:=fun b n z=>by subst z;rw[n] at mu;exact mu
 have hb:∀ b,H b=none->b≠e:=fun b n z=>by
  subst z
  rcases he with r|r
  ·exact hx b n r
  ·rw[n] at r;cases r
 have hm:∀ b u,H b=some u->¬ Mut (some u)->b≠x:=fun b u q nm z=>by subst z;rw[q] at mu;exact nm mu
 refine⟨fun b u q n _ _=>k b u (hb b n) q,fun b u q n _ _=>⟨u.slots,k b u (hb b n) q⟩,fun b u q n _=>by rw[zd5 (hx b n)];exact n,fun b u q _=>?_,
  fun b xs q=>by rw[zd5 (hm b _ q fun z=>z)];exact q,fun b u xs q=>by rw[zd5 (hm b _ q fun z=>z)];exact q,fun b ps q=>⟨#[],by rw[zd5 (hm b _ q fun z=>z),q];simp⟩⟩
 by_cases hbe:b=e
 ·subst hbe;exact heo
 ·exact⟨u,k b u hbe q⟩
end
def trk (h:Heap) (H:Hp):List Addr:=(List.range h.objs.size).filter fun a=>(H a).isSome
def hidT (h:Heap) (H:Hp):Heap:=PySem.W.hideAll h (trk h H)
theorem zay4 (h:Heap) (H:Hp):(hidT h H).objs.size=h.objs.size:=PySem.W.hideAll_size _ _
theorem zbg5 {h:Heap}{H:Hp}{b:Addr}{o:Obj}(e:h.get? b=some o) (n:H b=none):(hidT h H).get? b=some o:=
 PySem.W.hideAll_get _ e fun hm=>by
  have q:(H b).isSome=true:=(List.mem_filter.mp hm).2
  rw[n] at q;simp at q
theorem zbr7 {h:Heap}{H:Hp}{b:Addr}{o:Obj}(e:(hidT h H).get? b=some o):h.get? b=some o/\H b=none:=by
 have e':h.get? b=some o:=PySem.W.of_hideAll (trk h H) e
 refine⟨e',?_⟩
 cases q:H b with
 | none=>rfl
 | some x=>
  have hm:b∈trk h H:=List.mem_filter.mpr ⟨zcf4.mpr (zcb7 e'),by simp[q]⟩
  have z:(hidT h H).get? b=none:=PySem.W.hideAll_none (trk h H) hm
  rw[z] at e;cases e
def zbr2 (g h:Heap) (L:Addr):List (Addr×Obj):=(List.range h.objs.size).filterMap fun a=>if a=L∨(g.get? a).isSome=true then none else (h.get? a).map fun o=>(a,o)
def rest (g h:Heap) (L d:Addr):List (Addr×Obj):=(zbr2 g h L).filter fun p=>decide (p.1≠d)
end L2
namespace L2
open PySem PySem.Spec PyProof.Rows
structure Mod (K:zbz8) (mg:Str->Option Value) (base:Heap):Prop where
 kin:K.In base
 glob:base.Ns mainGlobals mg
 blt:∃ mb,base.Ns builtinsNs mb/\∀ x:Str,x≠"__name__"->mb x=bootBuiltins x
 nolimit:base.NoLimit
structure Cx where
 prog:Program
 w:World
 K:zbz8
 mg:Str->Option Value
 base:Heap
 A:Around
 N:List Str
 s₀:Shared
 H₀:Hp
 env:Env
 outer:List Env
 stack:List Env
 ex:List Addr
 fn:Str->Bool
 calm:Bool
 pn:List (Addr×Obj)
 xe:Value->Shared->Prop
def frs (l:List Env):List Addr:=l.filterMap (·.frame)
abbrev Cx.fs (X:Cx):List Addr:=frs X.outer
def Vis (sc:Scope) (x:Str):Prop:=sc.names.lookup x=some .local∨sc.names.lookup x=some .cell∨sc.names.lookup x=some .free
def Loc (sc:Scope) (x:Str):Prop:=sc.names.lookup x=some .local∨sc.names.lookup x=some .cell
def Look (env:Env) (h:Heap) (m:Str->Option Value) (x:Str) (u:Value):Prop:=
 (env.kindOf x=some .local/\m x=some u)∨((env.kindOf x=some .cell∨env.kindOf x=some .free)/\∃ c,env.cells.lookup x=some c/\h.IsCell c (some u))
structure Cx.Ok (X:Cx):Prop where
 mod:Mod X.K X.mg X.base
 kind:X.env.scope.kind=.function
 glob:X.env.globals=mainGlobals
 blt:X.env.builtins=builtinsNs
 above:X.s₀.heap.objs.size<=X.env.locals
 inj:∀ x y c,X.env.cells.lookup x=some c->X.env.cells.lookup y=some c->x=y
 has:∀ x,(X.env.kindOf x=some .cell∨X.env.kindOf x=some .free)->∃ c,X.env.cells.lookup x=some c
 cab:∀ x c,X.fn x=true->X.env.cells.lookup x=some c->X.s₀.heap.objs.size<=c
 hd:X.calm=true->X.A.handled=none
 frames:X.A.frames=some X.stack
 stk:X.stack=X.outer∨(X.stack=X.env :: X.outer/\X.env.frame=some X.env.locals)
 exf:∀ b∈X.ex,b≠X.env.locals/\∀ x c,X.env.cells.lookup x=some c->c≠b
 bs:∀ b o,X.base.get? b=some o->X.s₀.heap.get? b=some o/\X.H₀ b=none
 bsz:X.base.objs.size<=X.s₀.heap.objs.size
 noex:∀ b o,X.base.get? b=some o->b ∉ X.ex
 exfs:∀ b∈X.ex,b ∉ X.fs
 funs:X.s₀.heap.FunFrames X.base X.outer
 frf:∀ b∈X.fs,X.H₀ b=none
structure Inv (X:Cx) (pins:List (Addr×Obj)) (σ:List (Option V)) (H:Hp) (s:Shared):Prop where
 ok:X.Ok
 os:s.os=X.s₀.os
 bare:AllBare s.gens
 base:Un X.fs X.ex X.H₀ H X.s₀.heap s.heap
 loc:∃ m,s.heap.Ns X.env.locals m/\∀ (i:Nat) (x:Str) (v:V),X.N[i]?=some x->σ[i]?=some (some v)->Vis X.env.scope x->∃ u,RelV v u/\Look X.env s.heap m x u
 cell:∀ x c,X.env.cells.lookup x=some c->∃ v,s.heap.IsCell c v
 free:H X.env.locals=none
 freeC:∀ x c,X.env.cells.lookup x=some c->H c=none
 pin:∀ p∈X.pn++pins,s.heap.get? p.1=some p.2/\H p.1=none/\p.1≠X.env.locals/\p.1 ∉ X.fs/\∀ v,p.2.data≠.cell v
 hok:HOk X.prog X.w H s.heap
 len:σ.length=X.N.length
section
variable {X:Cx}{pins:List (Addr×Obj)}{σ:List (Option V)}{H H':Hp}{s:Shared}{h':Heap}
theorem Cx.Ok.nofr (ok:X.Ok) {b:Addr}{o:Obj}(e:X.base.get? b=some o):b ∉ X.fs:=fun hb=>by
 have:=(ok.funs.mem hb).1
 rw[e] at this;cases this
theorem Inv.bs (I:Inv X pins σ H s):∀ b o,X.base.get? b=some o->s.heap.get? b=some o/\H b=none:=fun b o e=>
 ⟨I.base.keep b o (I.ok.bs b o e).1 (I.ok.bs b o e).2 (I.ok.nofr e) (I.ok.noex b o e),I.base.free b o (I.ok.bs b o e).1 (I.ok.bs b o e).2 (I.ok.noex b o e)⟩
theorem Inv.bk (I:Inv X pins σ H s):∀ b o,X.base.get? b=some o->s.heap.get? b=some o:=fun b o e=>(I.bs b o e).1
theorem Inv.mod (I:Inv X pins σ H s):Mod X.K X.mg X.base:=I.ok.mod
theorem Inv.kIn (I:Inv X pins σ H s):X.K.In s.heap:=I.ok.mod.kin.keeps I.bk
theorem Inv.lt (I:Inv X pins σ H s):X.env.locals<s.heap.objs.size:=let ⟨_,hn,_⟩:=I.loc;hn.lt
theorem Inv.sz (I:Inv X pins σ H s):X.s₀.heap.objs.size<=s.heap.objs.size:=zce6 I.ok.above (Nat.le_of_lt I.lt)
theorem Inv.nofs (I:Inv X pins σ H s) {a:Addr}(h:s.heap.objs.size<=a):a ∉ X.fs:=fun hb=>by
 obtain⟨_,o,ho,_⟩:=I.ok.funs.mem hb
 exact absurd (zcc7 (zcb7 ho) (zce6 I.sz h)) (zch0 _)
theorem Inv.cne (I:Inv X pins σ H s):∀ x c,X.env.cells.lookup x=some c->c≠X.env.locals:=fun x c e z=>by
 obtain⟨v,o,ho,hd⟩:=I.cell x c e
 obtain⟨m,⟨o',es,ep,ho',hd',_⟩,_⟩:=I.loc
 rw[z,ho'] at ho;cases ho;rw[hd'] at hd;cases hd
theorem Inv.funs (I:Inv X pins σ H s):s.heap.FunFrames X.base X.outer:=by
 have all:∀ (l:List Env),(∀ b∈frs l,b∈X.fs)->X.s₀.heap.FunFrames X.base l->s.heap.FunFrames X.base l:=by
  intro l
  induction l with
  | nil=>intro _ _;trivial
  | cons env r ih=>
   intro hs hl
   obtain⟨hk,⟨L,o,hf,hn,ho,hd⟩,hr⟩:=hl
   have hL:L∈X.fs:=hs L (by unfold frs;rw[List.filterMap_cons,hf];exact zce8)
   obtain⟨sl,e⟩:=I.base.slot L o ho (I.ok.frf L hL) hL fun z=>I.ok.exfs L z hL
   exact⟨hk,⟨L,_,hf,hn,e,hd⟩,ih (fun b hb=>hs b (by unfold frs;rw[List.filterMap_cons,hf];exact zcd5 _ hb)) hr⟩
 exact all X.outer (fun _ hb=>hb) I.ok.funs
theorem Inv.stack (I:Inv X pins σ H s):s.heap.FunFrames X.base X.stack:=by
 rcases I.ok.stk with e|⟨e,hf⟩
 ·rw[e];exact I.funs
 ·rw[e]
  obtain⟨m,hn,_⟩:=I.loc
  refine .cons (by rw[I.ok.kind];decide) hf hn ?_ I.funs
  exact Heap.get?_none_of_le (zce6 I.ok.bsz I.ok.above)
theorem Inv.stkSub (I:Inv X pins σ H s):∀ b∈frs X.stack,b∈X.env.locals :: X.fs:=fun b hb=>by
 rcases I.ok.stk with e|⟨e,hf⟩
 ·rw[e] at hb;exact zcd5 _ hb
 ·rw[e] at hb
  unfold frs at hb
  rw[List.filterMap_cons,hf] at hb
  exact hb
theorem Inv.stkFree (I:Inv X pins σ H s):∀ b∈frs X.stack,H b=none:=fun b hb=>by
 rcases zcb3.mp (I.stkSub b hb) with e|hb
 ·rw[e];exact I.free
 ·obtain⟨_,o,ho,_⟩:=I.ok.funs.mem hb
  exact I.base.free b o ho (I.ok.frf b hb) fun z=>I.ok.exfs b z hb
theorem Inv.step {g':Array GenState}{t':Nat}{d':Drawn}{ch:List Addr}(I:Inv X pins σ H s)
  (hch:∀ b∈ch,(b∈X.ex∨X.s₀.heap.objs.size<=b)/\b≠X.env.locals/\(∀ x c,X.env.cells.lookup x=some c->c≠b)/\∀ p∈X.pn++pins,p.1≠b)
  (keep:∀ b o,b≠X.env.locals->b ∉ X.fs->b ∉ ch->s.heap.get? b=some o->H b=none->h'.get? b=some o)
  (slot:∀ b o,b≠X.env.locals->b∈X.fs->b ∉ ch->s.heap.get? b=some o->H b=none->∃ sl,h'.get? b=some { o with slots:=sl }) (free:∀ b o,b ∉ ch->s.heap.get? b=some o->H b=none->H' b=none)
  (there:∀ b o,b ∉ ch->s.heap.get? b=some o->∃ o',h'.get? b=some o')
  (tups:∀ b xs,H b=some (.tup xs)->H' b=some (.tup xs)) (frzs:∀ b o u,H b=some (.frz o u)->H' b=some (.frz o u)) (tbls:∀ b ps,H b=some (.tbl ps)->∃ more,H' b=some (.tbl (ps++more)))
  (ns:∀ m,s.heap.Ns X.env.locals m->h'.Ns X.env.locals m) (hok:HOk X.prog X.w H' h') (hg:AllBare g') :
  Inv X pins σ H' { s with heap:=h',gens:=g',drawn:=d',toks:=t' }:=by
 have neL:∀ b o,X.s₀.heap.get? b=some o->b≠X.env.locals:=fun b o e=>zce2 (zcc7 (zcb7 e) I.ok.above)
 have neC:∀ b o,X.s₀.heap.get? b=some o->b ∉ X.ex->b ∉ ch:=fun b o e hx hb=>by
  rcases (hch b hb).1 with z|z
  ·exact hx z
  ·exact absurd (zcc7 (zcb7 e) z) (zch0 _)
 have cellK:∀ x c,X.env.cells.lookup x=some c->∀ v,s.heap.IsCell c v->h'.IsCell c v:=fun x c e v ⟨o,ho,hd⟩=>by
  have nch:c ∉ ch:=fun z=>(hch c z).2.2.1 x c e rfl
  by_cases hc:c∈X.fs
  ·obtain⟨sl,q⟩:=slot c o (I.cne x c e) hc nch ho (I.freeC x c e)
   exact⟨_,q,hd⟩
  ·exact⟨o,keep c o (I.cne x c e) hc nch ho (I.freeC x c e),hd⟩
 refine⟨I.ok,I.os,hg,⟨fun b o e n hb hx=>?_,fun b o e n hb hx=>?_,fun b o e n hx=>?_,fun b o e hx=>?_,fun b xs e=>tups b xs (I.base.tups b xs e),fun b o xs e=>frzs b o xs (I.base.frzs b o xs e),fun b ps e=>?_⟩,?_,fun x c e=>?_,?_,fun x c e=>?_,fun p hp=>?_,hok,I.len⟩
 ·exact keep b o (neL b o e) hb (neC b o e hx) (I.base.keep b o e n hb hx) (I.base.free b o e n hx)
 ·obtain⟨sl,e1⟩:=I.base.slot b o e n hb hx
  obtain⟨sl',e2⟩:=slot b _ (neL b o e) hb (neC b o e hx) e1 (I.base.free b o e n hx)
  exact⟨sl',e2⟩
 ·obtain⟨o',e1⟩:=I.base.there b o e hx
  exact free b o' (neC b o e hx) e1 (I.base.free b o e n hx)
 ·obtain⟨o',e1⟩:=I.base.there b o e hx
  exact there b o' (neC b o e hx) e1
 ·obtain⟨m1,e1⟩:=I.base.tbls b ps e
  obtain⟨m2,e2⟩:=tbls b _ e1
  exact⟨m1++m2,by rw[e2,Array.append_assoc]⟩
 ·obtain⟨m,hn,hl⟩:=I.loc
  refine⟨m,ns m hn,fun i x v e1 e2 e3=>?_⟩
  obtain⟨u,r,l⟩:=hl i x v e1 e2 e3
  refine⟨u,r,?_⟩
  rcases l with l|⟨k,c,e,z⟩
  ·exact .inl l
  ·exact .inr ⟨k,c,e,cellK x c e _ z⟩
 ·obtain⟨v,z⟩:=I.cell x c e
  exact⟨v,cellK x c e v z⟩
 ·obtain⟨m,⟨o,_,_,ho,_⟩,_⟩:=I.loc
  exact free _ o (fun z=>(hch _ z).2.1 rfl) ho I.free
 ·obtain⟨v,o,ho,hd⟩:=I.cell x c e
  exact free c o (fun z=>(hch c z).2.2.1 x c e rfl) ho (I.freeC x c e)
 ·obtain⟨e,n,ne,nf,d⟩:=I.pin p hp
  have nch:p.1 ∉ ch:=fun z=>(hch p.1 z).2.2.2 p hp rfl
  exact⟨keep p.1 p.2 ne nf nch e n,free p.1 p.2 nch e n,ne,nf,d⟩
theorem Inv.un {t':Nat}(I:Inv X pins σ H s) (u:Un X.fs [] H H' s.heap h') (hok:HOk X.prog X.w H' h'):Inv X pins σ H' { s with heap:=h',toks:=t' }:=by
 obtain⟨m,⟨o,es,ep,ho,r⟩,_⟩:=id I.loc
 obtain⟨sl,hL⟩:=u.any ho I.free (by simp)
 exact I.step (g':=s.gens) (d':=s.drawn) (ch:=[]) (fun _ z=>nomatch z) (fun b o _ hb _ e n=>u.keep b o e n hb (by simp)) (fun b o _ hb _ e n=>u.slot b o e n hb (by simp)) (fun b o _ e n=>u.free b o e n (by simp)) (fun b o _ e=>u.there b o e (by simp)) u.tups u.frzs u.tbls (fun m' hm=>by
  obtain⟨o',es',ep',ho',r'⟩:=hm
  rw[ho] at ho';cases ho'
  exact⟨_,es',ep',hL,r'⟩) hok I.bare
theorem Inv.call {g':Array GenState}{t':Nat}{d':Drawn}{ch:List Addr}(I:Inv X pins σ H s) (u:Un (frs X.stack) ch H H' s.heap h') (hok:HOk X.prog X.w H' h') (hg:AllBare g')
  (hch:∀ b∈ch,(b∈X.ex∨X.s₀.heap.objs.size<=b)/\b≠X.env.locals/\(∀ x c,X.env.cells.lookup x=some c->c≠b)/\∀ p∈X.pn++pins,p.1≠b) :
  Inv X pins σ H' { s with heap:=h',gens:=g',drawn:=d',toks:=t' }:=by
 obtain⟨m,⟨o,es,ep,ho,r⟩,_⟩:=id I.loc
 obtain⟨sl,hL⟩:=u.any ho I.free fun z=>(hch _ z).2.1 rfl
 exact I.step (ch:=ch) hch (fun b o hL hb hc e n=>u.keep b o e n (fun z=>(zcb3.mp (I.stkSub b z)).elim hL hb) hc) (fun b o _ _ hc e n=>u.any e n hc) (fun b o hc e n=>u.free b o e n hc) (fun b o hc e=>u.there b o e hc) u.tups u.frzs u.tbls (fun m' hm=>by
  obtain⟨o',es',ep',ho',r'⟩:=hm
  rw[ho] at ho';cases ho'
  exact⟨_,es',ep',hL,r'⟩) hok hg
theorem Inv.turned {t':Nat}{it:Addr}(I:Inv X pins σ H s) (k:∀ b o,b≠it->s.heap.get? b=some o->h'.get? b=some o) (hn:H it=none) (hL:it≠X.env.locals)
  (h1:it∈X.ex∨X.s₀.heap.objs.size<=it) (h2:∀ x c,X.env.cells.lookup x=some c->c≠it) (h3:∀ p∈X.pn++pins,p.1≠it):Inv X pins σ H { s with heap:=h',toks:=t' }:=by
 have nit:∀ b u,H b=some u->b≠it:=fun b u e z=>by rw[z,hn] at e;cases e
 refine I.step (g':=s.gens) (d':=s.drawn) (ch:=[it]) (fun b hb=>?_) (fun b o _ _ hc e _=>k b o (fun z=>hc (by simp[z])) e) (fun b o _ _ hc e _=>⟨o.slots,k b o (fun z=>hc (by simp[z])) e⟩) (fun _ _ _ _ n=>n)
  (fun b o hc e=>⟨o,k b o (fun z=>hc (by simp[z])) e⟩) (fun _ _ e=>e) (fun _ _ _ e=>e) (fun b ps e=>⟨#[],by rw[e];simp⟩) (fun m hm=>?_) (fun b u e=>?_) I.bare
 ·have e:b=it:=by simpa using hb
  subst e
  exact⟨h1,hL,h2,h3⟩
 ·obtain⟨o,es,ep,ho,r⟩:=hm
  exact⟨o,es,ep,k _ o (Ne.symm hL) ho,r⟩
 ·refine (I.hok b u e).stay (fun c v hc q=>k c v ?_ q) (fun _ q=>q) fun _ _ q=>q
  rcases hc with z|z
  ·rw[z];exact nit b u e
  ·exact nit c _ z
theorem Inv.tok (I:Inv X pins σ H s) (t:Nat):Inv X pins σ H { s with toks:=t }:=I.un (h':=s.heap) (t':=t) Un.refl I.hok
theorem Inv.kept {t':Nat}(I:Inv X pins σ H s) (k:∀ b u,s.heap.get? b=some u->h'.get? b=some u):Inv X pins σ H { s with heap:=h',toks:=t' }:=I.un (Un.kept k) (I.hok.kept k)
theorem Inv.laid {a:Addr}{o:HO}{t':Nat}(I:Inv X pins σ H s) (k:∀ b u,s.heap.get? b=some u->h'.get? b=some u) (hp:s.heap.objs.size<=a) (new:zf7 X.prog X.w (upd H a o) h' a o) :
  Inv X pins σ (upd H a o) { s with heap:=h',toks:=t' }:=I.un (Un.laid k hp (I.hok.fresh hp)) (I.hok.laid k hp new)
theorem Inv.write {x e:Addr}{o:HO}{t':Nat}(I:Inv X pins σ H s) (mu:Mut (H x)) (he:e=x∨H e=some (.own x)) (k:∀ b u,b≠e->s.heap.get? b=some u->h'.get? b=some u) (heo:∃ u,h'.get? e=some u)
  (new:zf7 X.prog X.w (upd H x o) h' x o):Inv X pins σ (upd H x o) { s with heap:=h',toks:=t' }:=I.un (Un.write mu he k heo) (I.hok.write mu he k heo new)
theorem Inv.pins_of {pins':List (Addr×Obj)}(I:Inv X pins σ H s) (h:∀ p∈pins',s.heap.get? p.1=some p.2/\H p.1=none/\p.1≠X.env.locals/\p.1 ∉ X.fs/\∀ v,p.2.data≠.cell v):Inv X pins' σ H s:=
 ⟨I.ok,I.os,I.bare,I.base,I.loc,I.cell,I.free,I.freeC,fun p hp=>(zcc3.mp hp).elim (fun z=>I.pin p (List.mem_append_left _ z)) (h p),I.hok,I.len⟩
theorem zah0 {N:List Str}(hN:N.Nodup) {i j:Nat}{x:Str}(a:N[i]?=some x) (b:N[j]?=some x):i=j:=by
 obtain⟨h1,e1⟩:=zbz9.mp a
 obtain⟨h2,e2⟩:=zbz9.mp b
 exact (List.getElem_inj hN).mp (e1.trans e2.symm)
theorem zam1 {M:Model}{A:Around}{E:Value->Shared->Prop}{i:Nat}{x:Str}{v:V}{u:Value}{Q:Unit->Shared->Prop}(I:Inv X pins σ H s) (hN:X.N.Nodup) (hi:X.N[i]?=some x) (hx:Loc X.env.scope x) (r:RelV v u)
  (h:∀ s',Inv X pins (σ.set i (some v)) H s'->(∃ a,Heap.SameBut a s.heap s'.heap/\(a=X.env.locals∨X.env.cells.lookup x=some a))->Q () s') (hf:X.fn x=true∨X.env.scope.names.lookup x=some .local:=by first|exact .inl rfl|exact .inr rfl|assumption):wpAny M A (storeName X.env x u) Q E s:=by
 obtain⟨m,hn,hl⟩:=id I.loc
 have hcls:(X.env.scope.kind==.class || (X.env.scope.kind==.module&&X.env.locals != X.env.globals))=false:=by rw[I.ok.kind];rfl
 have hiσ:i<σ.length:=by rw[I.len];exact (zbz9.mp hi).1
 have cne:=I.cne
 have tracked:∀ {a:Addr}{h':Heap},(∃ o,s.heap.get? a=some o/\H a=none)->Heap.SameBut a s.heap h'->HOk X.prog X.w H h':=fun {a h'} ha hs b ob e=>by
  obtain⟨_,_,hfree⟩:=ha
  refine (I.hok b ob e).stay (fun c w' hc q=>(hs.2 c ?_).trans q) (fun _ q=>q) fun _ _ q=>q
  rintro rfl
  rcases hc with rfl|hc
  ·rw[hfree] at e;cases e
  ·rw[hfree] at hc;cases hc
 rcases hx with hk|hk
 ·refine wpAny_storeName_local hk hn (fun h' hn' hs=>?_) hcls
  obtain⟨oL,_,_,hoL,_⟩:=id hn
  refine h _ ⟨I.ok,I.os,I.bare,⟨fun b o e n hb hx=>?_,fun b o e n hb hx=>?_,I.base.free,fun b o e hx=>?_,I.base.tups,I.base.frzs,I.base.tbls⟩,⟨_,hn',fun j y v' e1 e2 e3=>?_⟩,fun y c e=>?_,I.free,I.freeC,fun p hp=>?_,tracked ⟨oL,hoL,I.free⟩ hs,by simpa using I.len⟩ ⟨_,hs,.inl rfl⟩
  ·exact (hs.2 b (zce2 (zcc7 (zcb7 e) I.ok.above))).trans (I.base.keep b o e n hb hx)
  ·obtain⟨sl,e1⟩:=I.base.slot b o e n hb hx
   exact⟨sl,(hs.2 b (zce2 (zcc7 (zcb7 e) I.ok.above))).trans e1⟩
  ·obtain⟨o',e1⟩:=I.base.there b o e hx
   exact⟨o',(hs.2 b (zce2 (zcc7 (zcb7 e) I.ok.above))).trans e1⟩
  ·by_cases hj:j=i
   ·subst hj
    rw[hi] at e1;cases e1
    rw[zcg3 hiσ] at e2
    cases e2
    exact⟨u,r,.inl ⟨hk,by simp⟩⟩
   ·rw[List.getElem?_set_ne (Ne.symm hj)] at e2
    obtain⟨u',r',q⟩:=hl j y v' e1 e2 e3
    refine⟨u',r',?_⟩
    rcases q with ⟨k,e⟩|⟨k,c,e,z⟩
    ·refine .inl ⟨k,?_⟩
     have:y≠x:=fun e=>hj (zah0 hN e1 (e▸hi))
     simp[this,e]
    ·exact .inr ⟨k,c,e,z.sameBut hs (cne y c e)⟩
  ·obtain⟨w',z⟩:=I.cell y c e
   exact⟨w',z.sameBut hs (cne y c e)⟩
  ·obtain⟨e,n,ne,nf,d⟩:=I.pin p hp
   exact⟨(hs.2 p.1 ne).trans e,n,ne,nf,d⟩
 ·have hfn:X.fn x=true:=by
   rcases hf with z|z
   ·exact z
   ·rw[z] at hk;cases hk
  obtain⟨c,hc⟩:=I.ok.has x (.inl hk)
  obtain⟨w',z⟩:=I.cell x c hc
  refine wpAny_storeName_cell I.ok.kind hk hc z (fun h' hc' hs=>?_)
  obtain⟨oc,hoc,hocd⟩:=id z
  refine h { s with heap:=h' } ⟨I.ok,I.os,I.bare,⟨fun b o e n hb hx=>?_,fun b o e n hb hx=>?_,I.base.free,fun b o e hx=>?_,I.base.tups,I.base.frzs,I.base.tbls⟩,⟨m,hn.sameBut hs (Ne.symm (cne x c hc)),fun j y v' e1 e2 e3=>?_⟩,fun y c' e=>?_,I.free,I.freeC,fun p hp=>?_,tracked ⟨oc,hoc,I.freeC x c hc⟩ hs,by simpa using I.len⟩ ⟨c,hs,.inr hc⟩
  ·exact (hs.2 b (zce2 (zcc7 (zcb7 e) (I.ok.cab x c hfn hc)))).trans (I.base.keep b o e n hb hx)
  ·obtain⟨sl,e1⟩:=I.base.slot b o e n hb hx
   exact⟨sl,(hs.2 b (zce2 (zcc7 (zcb7 e) (I.ok.cab x c hfn hc)))).trans e1⟩
  ·obtain⟨o',e1⟩:=I.base.there b o e hx
   exact⟨o',(hs.2 b (zce2 (zcc7 (zcb7 e) (I.ok.cab x c hfn hc)))).trans e1⟩
  ·by_cases hj:j=i
   ·subst hj
    rw[hi] at e1;cases e1
    rw[zcg3 hiσ] at e2
    cases e2
    exact⟨u,r,.inr ⟨.inl hk,c,hc,hc'⟩⟩
   ·rw[List.getElem?_set_ne (Ne.symm hj)] at e2
    obtain⟨u',r',q⟩:=hl j y v' e1 e2 e3
    refine⟨u',r',?_⟩
    rcases q with q|⟨k,c',e,z'⟩
    ·exact .inl q
    ·refine .inr ⟨k,c',e,z'.sameBut hs ?_⟩
     rintro rfl
     exact hj (zah0 hN e1 (I.ok.inj _ _ _ e hc▸hi))
  ·by_cases hcc:c'=c
   ·subst hcc;exact⟨_,hc'⟩
   ·obtain⟨w2,z2⟩:=I.cell y c' e
    exact⟨w2,z2.sameBut hs hcc⟩
  ·obtain⟨e,n,ne,nf,d⟩:=I.pin p hp
   refine⟨(hs.2 p.1 ?_).trans e,n,ne,nf,d⟩
   intro q
   rw[q,hoc] at e
   have q':oc=p.2:=Option.some.inj e
   exact d w' (by rw[← q'];exact hocd)
theorem zz6 {M:Model}{A:Around}{E:Value->Shared->Prop}{i:Nat}{x:Str}{v:V}{u:Value}{Q:Unit->Shared->Prop}(I:Inv X pins σ H s) (hN:X.N.Nodup) (hi:X.N[i]?=some x) (hx:Loc X.env.scope x) (r:RelV v u)
  (h:∀ s',Inv X pins (σ.set i (some v)) H s'->Q () s') (hf:X.fn x=true∨X.env.scope.names.lookup x=some .local:=by first|exact .inl rfl|exact .inr rfl|assumption):wpAny M A (storeName X.env x u) Q E s:=
 zam1 I hN hi hx r (fun s' I' _=>h s' I') hf
theorem Inv.call' {s':Shared}{ch:List Addr}(I:Inv X pins σ H s) (ho:s'.os=s.os) (u:Un (frs X.stack) ch H H' s.heap s'.heap) (hok:HOk X.prog X.w H' s'.heap) (hg:AllBare s'.gens)
  (hch:∀ b∈ch,(b∈X.ex∨X.s₀.heap.objs.size<=b)/\b≠X.env.locals/\(∀ x c,X.env.cells.lookup x=some c->c≠b)/\∀ p∈X.pn++pins,p.1≠b):Inv X pins σ H' s':=by
 obtain⟨h',g',d',t',o'⟩:=s'
 have e:o'=s.os:=ho
 subst e
 exact I.call (g':=g') (t':=t') (d':=d') u hok hg hch
end
abbrev XK:=Value->Option Addr->Hp->Prop
abbrev St:=List (Option V)
abbrev VK:=V->Hp->Prop
abbrev TE:=St->Hp->VK->Prop
abbrev TT:=St->Hp->(Bool->Hp->Prop)->Prop
abbrev TA:=St->Hp->(List V->Hp->Prop)->Prop
structure Ends where
 nx:St->Hp->Prop
 rt:VK
 bk:St->Hp->Prop:=fun _ _=>False
 ct:St->Hp->Prop:=fun _ _=>False
abbrev TS:=Ends->St->Hp->Prop
def EP (X:Cx) (pins:List (Addr×Obj)) (σ:St) (Q:VK) (u:Value) (s':Shared):Prop:=∃ v H',Inv X pins σ H' s'/\RelV v u/\Q v H'
def TP (X:Cx) (pins:List (Addr×Obj)) (σ:St) (Q:Bool->Hp->Prop) (b:Bool) (s':Shared):Prop:=∃ H',Inv X pins σ H' s'/\Q b H'
def AP (X:Cx) (pins:List (Addr×Obj)) (σ:St) (Q:List V->Hp->Prop) (us:List Value) (s':Shared):Prop:=∃ vs H',Inv X pins σ H' s'/\Vals vs us/\Q vs H'
def SP (X:Cx) (pins:List (Addr×Obj)) (D:Ends) (f:Flow) (s':Shared):Prop:=
 match f with
 | .next=>∃ σ' H',Inv X pins σ' H' s'/\D.nx σ' H'
 | .brk=>∃ σ' H',Inv X pins σ' H' s'/\D.bk σ' H'
 | .cont=>∃ σ' H',Inv X pins σ' H' s'/\D.ct σ' H'
 | .ret u=>∃ v σ' H',Inv X pins σ' H' s'/\RelV v u/\D.rt v H'
def PE (X:Cx) (e:Expr) (t:TE):Prop:=
 ∀ (pins:List (Addr×Obj)) (s:Shared) (σ:St) (H:Hp) (Q:VK),Inv X pins σ H s->t σ H Q->wpAny (model X.prog X.w) X.A (eval e X.env) (EP X pins σ Q) X.xe s
def PT (X:Cx) (e:Expr) (t:TT):Prop:=
 ∀ (pins:List (Addr×Obj)) (s:Shared) (σ:St) (H:Hp) (Q:Bool->Hp->Prop),Inv X pins σ H s->t σ H Q->wpAny (model X.prog X.w) X.A (isTrue e X.env (eval e X.env)) (TP X pins σ Q) X.xe s
def PW (X:Cx) (e:Expr) (t:TT):Prop:=
 ∀ (whole:Sem Value) (pins:List (Addr×Obj)) (s:Shared) (σ:St) (H:Hp) (Q:Bool->Hp->Prop),Inv X pins σ H s->t σ H Q->wpAny (model X.prog X.w) X.A (isTrue e X.env whole) (TP X pins σ Q) X.xe s
theorem PW.pt {X:Cx}{e:Expr}{t:TT}(h:PW X e t):PT X e t:=h _
def PA (X:Cx) (es:List Expr) (t:TA):Prop:=
 ∀ (pos:Pos) (pins:List (Addr×Obj)) (s:Shared) (σ:St) (H:Hp) (Q:List V->Hp->Prop),Inv X pins σ H s->t σ H Q->wpAny (model X.prog X.w) X.A (spliced (backTo pos (starEach es X.env))) (AP X pins σ Q) X.xe s
def PS (X:Cx) (st:Stmt) (t:TS):Prop:=
 ∀ (pins:List (Addr×Obj)) (s:Shared) (σ:St) (H:Hp) (D:Ends),Inv X pins σ H s->t D σ H->wpAny (model X.prog X.w) X.A (exec st X.env) (SP X pins D) X.xe s
def PSs (X:Cx) (st:List Stmt) (t:TS):Prop:=
 ∀ (pins:List (Addr×Obj)) (s:Shared) (σ:St) (H:Hp) (D:Ends),Inv X pins σ H s->t D σ H->wpAny (model X.prog X.w) X.A (execs st X.env) (SP X pins D) X.xe s
theorem thn {α:Type}{t:Sem α}{Q Q':α->Shared->Prop}{M:Model}{A:Around}{E:Value->Shared->Prop}{s:Shared}(h:wpAny M A t Q E s) (hQ:∀ a s,Q a s->Q' a s):wpAny M A t Q' E s:=wpAny_mono h hQ fun _ _ x=>x
end L2
namespace L2
open PySem PySem.Spec PyProof.Rows
section
variable {X:Cx}
theorem bin {a b:Expr}{ta tb:TE}(ha:PE X a ta) (hb:PE X b tb) {pins:List (Addr×Obj)}{s:Shared}{σ:St}{H:Hp}{R:V->V->Hp->Prop}(I:Inv X pins σ H s) (h:ta σ H fun x H1=>tb σ H1 fun y H2=>R x y H2)
  {α:Type}{Q:α->Shared->Prop}{f:Value->Value->Sem α}
  (hf:∀ v u s2 x y H2,Inv X pins σ H2 s2->RelV x v->RelV y u->R x y H2->wpAny (model X.prog X.w) X.A (f v u) Q X.xe s2) :
  wpAny (model X.prog X.w) X.A (eval a X.env) (fun v s₁=>wpAny (model X.prog X.w) X.A (eval b X.env) (fun u s₂=>wpAny (model X.prog X.w) X.A (f v u) Q X.xe s₂) X.xe s₁) X.xe s:=by
 refine thn (ha pins s σ H _ I h) fun v s1 ⟨x,H1,I1,r1,q1⟩=>?_
 refine thn (hb pins s1 σ H1 _ I1 q1) fun u s2 ⟨y,H2,I2,r2,q2⟩=>?_
 exact hf v u s2 x y H2 I2 r1 r2 q2
def tVar (i:Nat):TE:=fun σ H Q=>∃ v,σ[i]?=some (some v)/\Q v H
def tC (v:V):TE:=fun _ H Q=>Q v H
theorem pe_var {i:Nat}{x:Str}{pos:Pos}(hN:X.N[i]?=some x) (hv:Vis X.env.scope x) (hd:(x==("__debug__":Str))=false:=by decide) (hcd:(x==("__classdict__":Str))=false:=by decide):PE X (.Name x pos) (tVar i):=by
 intro pins s σ H Q I h
 obtain⟨v,e,h⟩:=h
 obtain⟨m,hn,hl⟩:=I.loc
 obtain⟨u,r,l⟩:=hl i x v hN e hv
 have fin:EP X pins σ Q u s:=⟨v,H,I,r,h⟩
 rcases l with ⟨hk,hm⟩|⟨hk,c,hc,hcell⟩
 ·exact wpAny_Name (wpAny_loadName_local I.ok.kind hk hn hm fin) hd
 ·rcases hk with hk|hk
  ·exact wpAny_Name (wpAny_loadName_cell I.ok.kind hk hc hcell fin) hd
  ·exact wpAny_Name (wpAny_loadName_free I.ok.kind hk hc hcell fin hcd) hd
theorem za2 {i j pos}:PE X (.Constant (.int i) j pos) (tC (.int i)):=fun _ _ _ H _ I h=>wpAny_Constant_int ⟨.int i,H,I.tok _,⟨_,rfl⟩,h⟩
theorem zn1 {b j pos}:PE X (.Constant (.bool b) j pos) (tC (.bl b)):=fun _ _ _ H _ I h=>Constant_bool ⟨.bl b,H,I,rfl,h⟩
theorem zba2 {j pos}:PE X (.Constant .none j pos) (tC .non):=fun _ _ _ H _ I h=>Constant_none ⟨.non,H,I,rfl,h⟩
theorem zp8 {x j pos}:PE X (.Constant (.str x) j pos) (tC (.str x)):=fun _ _ _ H _ I h=>Calls.Constant_str ⟨.str x,H,I.tok _,⟨_,rfl⟩,h⟩
def Gl (X:Cx) (x:Str):Prop:=X.env.kindOf x=some .globalImplicit
theorem zac6 {E:Value->Shared->Prop}{pins:List (Addr×Obj)}{s:Shared}{σ:St}{H:Hp}{x:Str}{u:Value}{pos:Pos}{Q:Value->Shared->Prop}(I:Inv X pins σ H s) (hg:Gl X x) (hm:X.mg x=some u) (h:Q u s)
  (hd:(x==("__debug__":Str))=false:=by decide):wpAny (model X.prog X.w) X.A (eval (.Name x pos) X.env) Q E s:=
 Calls.Name_function_global I.ok.kind hg (Calls.loadGlobal_global (by rw[I.ok.glob];exact I.mod.glob.keeps I.bk) hm h) hd
theorem zx9 {E:Value->Shared->Prop}{pins:List (Addr×Obj)}{s:Shared}{σ:St}{H:Hp}{x:Str}{u:Value}{pos:Pos}{Q:Value->Shared->Prop}(I:Inv X pins σ H s) (hg:Gl X x) (hm:X.mg x=none) (hv:bootBuiltins x=some u) (h:Q u s)
  (hn:x≠"__name__":=by decide) (hd:(x==("__debug__":Str))=false:=by decide):wpAny (model X.prog X.w) X.A (eval (.Name x pos) X.env) Q E s:=by
 obtain⟨mb,h1,h2⟩:=I.mod.blt
 exact Calls.Name_function_global I.ok.kind hg (Calls.loadGlobal_builtin (by rw[I.ok.glob];exact I.mod.glob.keeps I.bk) hm (by rw[I.ok.blt];exact h1.keeps I.bk) ((h2 x hn).trans hv) h) hd
theorem zj5 {x:Str}{v:V}{u:Value}{pos:Pos}(hg:Gl X x) (hm:X.mg x=some u) (r:RelV v u) (hd:(x==("__debug__":Str))=false:=by decide):PE X (.Name x pos) (tC v):=
 fun _ _ _ H _ I h=>zac6 I hg hm ⟨v,H,I,r,h⟩ hd
theorem zbo7 {x:Str}{v:V}{u:Value}{pos:Pos}(hg:Gl X x) (hm:X.mg x=none) (hv:bootBuiltins x=some u) (r:RelV v u) (hn:x≠"__name__":=by decide) (hd:(x==("__debug__":Str))=false:=by decide):PE X (.Name x pos) (tC v):=
 fun _ _ _ H _ I h=>zx9 I hg hm hv ⟨v,H,I,r,h⟩ hn hd
variable {a b:Expr}{ta tb:TE}{pos:Pos}
variable {tA tB':TT}{rest:List Expr}
def tAnd (t u:TT):TT:=fun σ H Q=>t σ H fun c H1=>if c=true then u σ H1 Q else Q false H1
def tOr (t u:TT):TT:=fun σ H Q=>t σ H fun c H1=>if c=true then Q true H1 else u σ H1 Q
def tNot (t:TT):TT:=fun σ H Q=>t σ H fun c H1=>Q (!c) H1
theorem zao0 (ha:PT X a tA):PW X (.BoolOp .And [a] pos) tA:=by
 intro wh pins s σ H Q I h
 refine isTrue_and (thn (ha pins s σ H Q I h) fun c s1 e=>?_)
 cases c with
 | true=>exact isTrue_and_nil e
 | false=>exact e
theorem zr5 (ha:PT X a tA):PW X (.BoolOp .Or [a] pos) tA:=by
 intro wh pins s σ H Q I h
 refine isTrue_or (thn (ha pins s σ H Q I h) fun c s1 e=>?_)
 cases c with
 | false=>exact isTrue_or_nil e
 | true=>exact e
theorem pw_and (ha:PT X a tA) (hb:PW X (.BoolOp .And (b :: rest) pos) tB'):PW X (.BoolOp .And (a :: b :: rest) pos) (tAnd tA tB'):=by
 intro wh pins s σ H Q I h
 refine isTrue_and (thn (ha pins s σ H _ I h) fun c s1 ⟨H1,I1,q1⟩=>?_)
 cases c with
 | true=>exact hb wh pins s1 σ H1 Q I1 q1
 | false=>exact⟨H1,I1,q1⟩
theorem pw_or (ha:PT X a tA) (hb:PW X (.BoolOp .Or (b :: rest) pos) tB'):PW X (.BoolOp .Or (a :: b :: rest) pos) (tOr tA tB'):=by
 intro wh pins s σ H Q I h
 refine isTrue_or (thn (ha pins s σ H _ I h) fun c s1 ⟨H1,I1,q1⟩=>?_)
 cases c with
 | true=>exact⟨H1,I1,q1⟩
 | false=>exact hb wh pins s1 σ H1 Q I1 q1
theorem zl8 (ha:PT X a tA):PT X (.UnaryOp .Not a pos) (tNot tA):=by
 intro pins s σ H Q I h
 exact isTrue_not (ha pins s σ H (fun c H1=>Q (!c) H1) I h)
theorem zy0 {op} {t:TE}(h:PE X a t):PE X (.BoolOp op [a] pos) t:=fun pins s σ H Q I hw=>BoolOp_one (h pins s σ H Q I hw)
end
end L2
namespace L2
open PySem PySem.Spec PyProof.Rows
def SqL (K:zbz8) (H:Hp) (a:Addr) (xs:List V):Prop:=
 Rd H a (.lst xs) ∨
  ∃ (o:Obj) (its:Array Value) (n:Nat),K.lookup a=some o/\o.cls=.type "list"/\o.dict=none/\o.data=.seq its n/\its.size<=sizeLine/\Vals xs its.toList
def SqT (K:zbz8) (H:Hp) (a:Addr) (xs:List V):Prop:=
 Rd H a (.tup xs) ∨
  ∃ (o:Obj) (its:Array Value) (n:Nat),K.lookup a=some o/\o.cls=.type "tuple"/\o.data=.seq its n/\its.size<=sizeLine/\Vals xs its.toList
def absV:Value->Option V
 | .none=>some .non
 | .bool b=>some (.bl b)
 | .int i _=>some (.int i)
 | .str x _=>some (.str x)
 | .bytes b _=>some (.byt b)
 | .float b _=>some (.flt b)
 | .ref a=>some (.ref a)
 | .type n=>some (.ty n)
 | _=>none
theorem RelV.abs {x:V}{u:Value}(r:RelV x u):absV u=some x:=by
 cases x with
 | non=>cases r;rfl
 | bl _=>cases r;rfl
 | int _=>obtain⟨t,rfl⟩:=r;rfl
 | str _=>obtain⟨t,rfl⟩:=r;rfl
 | byt _=>obtain⟨t,rfl⟩:=r;rfl
 | flt _=>obtain⟨t,rfl⟩:=r;rfl
 | ref _=>cases r;rfl
 | ty _=>cases r;rfl
theorem RelV.inj {x y:V}{u:Value}(r:RelV x u) (q:RelV y u):x=y:=Option.some.inj (r.abs.symm.trans q.abs)
theorem Vals.inj:∀ {xs ys:List V}{us:List Value},Vals xs us->Vals ys us->xs=ys
 | _,_,_,.nil,.nil=>rfl
 | _,_,_,.cons r t,.cons r' t'=>by rw[r.inj r',Vals.inj t t']
section
variable {X:Cx}{pins:List (Addr×Obj)}{σ:St}{H:Hp}{s:Shared}{a:Addr}{xs ys:List V}
theorem SqL.of {K:zbz8}(h:H a=some (.lst xs)):SqL K H a xs:=.inl (.inl h)
theorem SqT.of {K:zbz8}(h:H a=some (.tup xs)):SqT K H a xs:=.inl (.inl h)
theorem Inv.list (I:Inv X pins σ H s) (h:SqL X.K H a xs):∃ its:List Value,Vals xs its/\PlainL s.heap a its.toArray/\xs.length<=sizeLine:=by
 rcases h with h|⟨o,its,n,hk,hc,hd,hs,hz,r⟩
 ·obtain⟨z,its,n,r,e⟩:=h.ok I.hok
  exact⟨its,r,⟨_,n,e,rfl,rfl,rfl⟩,z⟩
 ·refine⟨its.toList,r,⟨o,n,I.kIn a o hk,hc,hd,by simpa using hs⟩,?_⟩
  have e:=r.length
  simp only[Array.length_toList] at e
  omega
theorem Inv.tuple (I:Inv X pins σ H s) (h:SqT X.K H a xs):∃ its:List Value,Vals xs its/\IsTup s.heap a its.toArray/\xs.length<=sizeLine:=by
 rcases h with h|⟨o,its,n,hk,hc,hs,hz,r⟩
 ·obtain⟨z,its,r,p⟩:=h.ok I.hok
  exact⟨its,r,p,z⟩
 ·refine⟨its.toList,r,⟨o,I.kIn a o hk,hc,n,by simpa using hs⟩,?_⟩
  have e:=r.length
  simp only[Array.length_toList] at e
  omega
theorem Inv.list_inj (I:Inv X pins σ H s) (h:SqL X.K H a xs) (h':SqL X.K H a ys):xs=ys:=by
 obtain⟨its,r,⟨o,n,e,_,_,d⟩,_⟩:=I.list h
 obtain⟨its',r',⟨o',n',e',_,_,d'⟩,_⟩:=I.list h'
 rw[e] at e';cases e'
 rw[d] at d'
 injection d' with d1 _
 have:its=its':=by simpa using congrArg Array.toList d1
 subst this
 exact r.inj r'
theorem Inv.tuple_inj (I:Inv X pins σ H s) (h:SqT X.K H a xs) (h':SqT X.K H a ys):xs=ys:=by
 obtain⟨its,r,⟨o,e,_,n,d⟩,_⟩:=I.tuple h
 obtain⟨its',r',⟨o',e',_,n',d'⟩,_⟩:=I.tuple h'
 rw[e] at e';cases e'
 rw[d] at d'
 injection d' with d1 _
 have:its=its':=by simpa using congrArg Array.toList d1
 subst this
 exact r.inj r'
end
abbrev Cx.wish (X:Cx) (E:Value->Shared->Prop):Cx:={ X with xe:=E }
abbrev Cx.nox (X:Cx):Cx:=X.wish fun _ _=>False
theorem Cx.Ok.wish {X:Cx}(ok:X.Ok) (E:Value->Shared->Prop):(X.wish E).Ok:=
 ⟨ok.mod,ok.kind,ok.glob,ok.blt,ok.above,ok.inj,ok.has,ok.cab,ok.hd,ok.frames,ok.stk,ok.exf,ok.bs,ok.bsz,ok.noex,ok.exfs,ok.funs,ok.frf⟩
theorem Cx.Ok.unwish {X:Cx}{E:Value->Shared->Prop}(ok:(X.wish E).Ok):X.Ok:=
 ⟨ok.mod,ok.kind,ok.glob,ok.blt,ok.above,ok.inj,ok.has,ok.cab,ok.hd,ok.frames,ok.stk,ok.exf,ok.bs,ok.bsz,ok.noex,ok.exfs,ok.funs,ok.frf⟩
section
variable {X:Cx}{pins:List (Addr×Obj)}{σ:St}{H:Hp}{s:Shared}{E:Value->Shared->Prop}
theorem Inv.wish (I:Inv X pins σ H s) (E:Value->Shared->Prop):Inv (X.wish E) pins σ H s:=⟨I.ok.wish E,I.os,I.bare,I.base,I.loc,I.cell,I.free,I.freeC,I.pin,I.hok,I.len⟩
theorem Inv.unwish (I:Inv (X.wish E) pins σ H s):Inv X pins σ H s:=⟨I.ok.unwish,I.os,I.bare,I.base,I.loc,I.cell,I.free,I.freeC,I.pin,I.hok,I.len⟩
theorem SP.unwish {D:Ends}{f:Flow}{s':Shared}(h:SP (X.wish E) pins D f s'):SP X pins D f s':=by
 cases f with
 | next=>obtain⟨σ',H',I,q⟩:=h;exact⟨σ',H',I.unwish,q⟩
 | brk=>obtain⟨σ',H',I,q⟩:=h;exact⟨σ',H',I.unwish,q⟩
 | cont=>obtain⟨σ',H',I,q⟩:=h;exact⟨σ',H',I.unwish,q⟩
 | ret u=>obtain⟨v,σ',H',I,r,q⟩:=h;exact⟨v,σ',H',I.unwish,r,q⟩
theorem PSs.nox {st:List Stmt}{t:TS}(h:PSs X.nox st t):PSs X st t:=fun pins s σ H D I hw=>
 wpAny_mono (h pins s σ H D (I.wish _) hw) (fun _ _ q=>q.unwish) fun _ _ z=>False.elim z
end
section
variable {X:Cx}{st:Stmt}{rest:List Stmt}{t u:TS}{e:Expr}{te:TE}{pos:Pos}
def tNext:TS:=fun D σ H=>D.nx σ H
def tSeq (t u:TS):TS:=fun D σ H=>t { D with nx:=u D } σ H
theorem zb5:PSs X [] tNext:=fun _ _ σ H _ I h=>wpAny_execs_nil ⟨σ,H,I,h⟩
theorem za3 (h1:PS X st t) (h2:PSs X rest u):PSs X (st :: rest) (tSeq t u):=by
 intro pins s σ H D I h
 refine wpAny_execs_cons (thn (h1 pins s σ H { D with nx:=u D } I h) fun f s1 q=>?_)
 cases f with
 | next=>
  obtain⟨σ',H',I',q⟩:=q
  exact h2 pins s1 σ' H' D I' q
 | ret v=>exact q
 | brk=>exact q
 | cont=>exact q
theorem za6 (h1:PS X st t):PSs X [st] t:=by
 intro pins s σ H D I h
 refine wpAny_execs_cons (thn (h1 pins s σ H D I h) fun f s1 q=>?_)
 cases f with
 | next=>exact wpAny_execs_nil q
 | ret v=>exact q
 | brk=>exact q
 | cont=>exact q
theorem Inv.quiet {pins:List (Addr×Obj)}{σ:St}{H:Hp}{s:Shared}(I:Inv X pins σ H s):interactive X.env=false:=by simp[interactive,I.ok.kind]
def tDrop (te:TE):TS:=fun D σ H=>te σ H fun _ H1=>D.nx σ H1
theorem zl3 (he:PE X e te) (hs:swapsWith e none pos.line X.env=pure false:=by rfl):PS X (.Expr e pos) (tDrop te):=by
 intro pins s σ H D I h
 exact wpAny_Expr_any (thn (he pins s σ H _ I h) fun v s1 ⟨x,H1,I1,r1,q1⟩=>⟨σ,H1,I1,q1⟩) I.quiet hs
def tRet (te:TE):TS:=fun D σ H=>te σ H D.rt
theorem zb1 (he:PE X e te):PS X (.Return (some e) pos) (tRet te):=by
 intro pins s σ H D I h
 exact wpAny_Return_some (thn (he pins s σ H _ I h) fun v s1 ⟨x,H1,I1,r1,q1⟩=>⟨x,σ,H1,I1,r1,q1⟩)
def tIfS (c:TT) (t u:TS):TS:=fun D σ H=>c σ H fun b H1=>if b=true then t D σ H1 else u D σ H1
theorem ps_if {c:Expr}{a b:List Stmt}{tc:TT}(hc:PT X c tc) (ha:PSs X a t) (hb:PSs X b u):PS X (.If c a b pos) (tIfS tc t u):=by
 intro pins s σ H D I h
 refine wpAny_If (thn (hc pins s σ H _ I h) fun d s1 ⟨H1,I1,q1⟩=>?_)
 cases d with
 | true=>exact ha pins s1 σ H1 D I1 q1
 | false=>exact hb pins s1 σ H1 D I1 q1
end
abbrev TG:=V->St->Hp->(St->Hp->Prop)->Prop
abbrev TGs:=List V->St->Hp->(St->Hp->Prop)->Prop
def PG (X:Cx) (target:Expr) (t:TG):Prop:=
 ∀ (pins:List (Addr×Obj)) (s:Shared) (σ:St) (H:Hp) (v:V) (u:Value) (Q:St->Hp->Prop),Inv X pins σ H s->RelV v u->t v σ H Q ->
  wpAny (model X.prog X.w) X.A (assign target X.env u) (fun _ s'=>∃ σ' H',Inv X pins σ' H' s'/\Q σ' H') X.xe s
def PGs (X:Cx) (ts:List Expr) (t:TGs):Prop:=
 ∀ (pins:List (Addr×Obj)) (s:Shared) (σ:St) (H:Hp) (vs:List V) (us:List Value) (Q:St->Hp->Prop),Inv X pins σ H s->Vals vs us->t vs σ H Q ->
  wpAny (model X.prog X.w) X.A (assignInOrder ((assignEach ts X.env).map (·.2)) us) (fun _ s'=>∃ σ' H',Inv X pins σ' H' s'/\Q σ' H') X.xe s
abbrev TSet:=V->V->V->Hp->(Hp->Prop)->Prop
def PSet (X:Cx) (t:TSet):Prop:=
 ∀ (pins:List (Addr×Obj)) (s:Shared) (σ:St) (H:Hp) (o i v:V) (ov iv u:Value) (Q:Hp->Prop),Inv X pins σ H s->RelV o ov->RelV i iv->RelV v u->t o i v H Q ->
  wpAny (model X.prog X.w) X.A (setItem ov iv u) (fun _ s'=>∃ H',Inv X pins σ H' s'/\Q H') X.xe s
section
variable {X:Cx}{pos:Pos}
def zav3 (i:Nat):TG:=fun v σ H Q=>Q (σ.set i (some v)) H
theorem za8 {i:Nat}{x:Str}(hN:X.N.Nodup) (hi:X.N[i]?=some x) (hx:Loc X.env.scope x) (hf:X.fn x=true∨X.env.scope.names.lookup x=some .local:=by first|exact .inl rfl|exact .inr rfl|assumption):PG X (.Name x pos) (zav3 i):=by
 intro pins s σ H v u Q I r h
 exact wpAny_assign_Name (zz6 I hN hi hx r (fun s' I'=>⟨_,H,I',h⟩) hf)
def gNil:TGs:=fun vs σ H Q=>vs=[]/\Q σ H
def gCons (t:TG) (u:TGs):TGs:=fun vs σ H Q=>∃ v r,vs=v :: r/\t v σ H fun σ' H'=>u r σ' H' Q
theorem zbr3:PGs X [] gNil:=by
 intro pins s σ H vs us Q I r h
 obtain⟨e,h⟩:=h
 subst e
 cases r
 exact assignInOrder_nil ⟨σ,H,I,h⟩
theorem zbj9 {e:Expr}{es:List Expr}{t:TG}{u:TGs}(h1:PG X e t) (h2:PGs X es u)
  (hs:(assignEach (e :: es) X.env).map (·.2)=assign e X.env :: (assignEach es X.env).map (·.2):=by rfl):PGs X (e :: es) (gCons t u):=by
 intro pins s σ H vs us Q I r h
 obtain⟨v,vr,e1,h⟩:=h
 subst e1
 cases r with
 | cons r rr=>
  rw[hs]
  refine assignInOrder_cons (thn (h1 pins s σ H _ _ _ I r h) fun _ s1 ⟨σ1,H1,I1,q1⟩=>?_)
  exact h2 pins s1 σ1 H1 _ _ Q I1 rr q1
def gTup (K:zbz8) (n:Nat) (t:TGs):TG:=fun v σ H Q=>∃ a xs,v=.ref a/\SqT K H a xs/\xs.length=n/\t xs σ H Q
theorem pg_tup {es:List Expr}{k:Nat}{t:TGs}{n:Nat}(hc:X.calm=true) (h:PGs X es t)
  (hn:(assignEach es X.env).length=n:=by rfl) (hst:(assignEach es X.env).findIdx? (·.1)=none:=by rfl):PG X (.Tuple es k pos) (gTup X.K n t):=by
 intro pins s σ H v u Q I r hw
 obtain⟨a,xs,e1,hq,hl,hw⟩:=hw
 subst e1
 cases r
 obtain⟨its,rv,ht,hz⟩:=I.tuple hq
 refine assign_Tuple_tuple (I.ok.hd hc) ht (by simp[hn,← hl,rv.length]) hst fun h' hx=>?_
 have I1:Inv X pins σ H { s with heap:=h' }:=I.kept (t':=s.toks) fun b o e=>hx b o (zce2 (zcb7 e)) e
 exact h pins _ σ H xs _ Q I1 (by simpa using rv) hw
def gSub (to ti:TE) (t:TSet):TG:=fun v σ H Q=>to σ H fun o H1=>ti σ H1 fun i H2=>t o i v H2 fun H3=>Q σ H3
theorem zac1 {o i:Expr}{to ti:TE}{t:TSet}(ho:PE X o to) (hi:PE X i ti) (hs:PSet X t)
  (ha:∀ v,assign (.Subscript o i pos) X.env v=(do
   let ov ← holding [v] (eval o X.env)
   let iv ← holding [v,ov] (eval i X.env)
   standAt pos
   holding [v,ov,iv] (setItem ov iv v)
   release [v,ov,iv] []):=by intro _;rfl):PG X (.Subscript o i pos) (gSub to ti t):=by
 intro pins s σ H v u Q I r h
 rw[ha]
 refine wpAny_bind (wpAny_holding (thn (ho pins s σ H _ I h) fun ov s1 ⟨x,H1,I1,r1,q1⟩=>?_))
 refine wpAny_bind (wpAny_holding (thn (hi pins s1 σ H1 _ I1 q1) fun iv s2 ⟨y,H2,I2,r2,q2⟩=>?_))
 refine wpAny_bind (wpAny_standAt (wpAny_bind (wpAny_holding (thn (hs pins s2 σ H2 x y v ov iv u _ I2 r1 r2 r q2) fun _ s3 ⟨H3,I3,q3⟩=>?_))))
 exact wpAny_release ⟨σ,H3,I3,q3⟩
def tAsg (te:TE) (g:TG):TS:=fun D σ H=>te σ H fun x H1=>g x σ H1 D.nx
theorem zx8 {tg e:Expr}{te:TE}{g:TG}(he:PE X e te) (hg:PG X tg g) (hs:swapsWithSole [tg] e pos.line X.env=pure false:=by rfl) (hw:swappedStores [tg] e X.env=pure none:=by rfl)
  (h1:(assignEach [tg] X.env).map (·.2)=[assign tg X.env]:=by rfl):PS X (.Assign [tg] e pos) (tAsg te g):=by
 intro pins s σ H D I h
 refine wpAny_Assign_stores (thn (he pins s σ H _ I h) fun v s1 ⟨x,H1,I1,r1,q1⟩=>?_) hs hw
 rw[h1]
 exact thn (hg pins s1 σ H1 x v _ I1 r1 q1) fun _ s2 q=>q
theorem zbe1 {i:Nat}{x:Str}{e:Expr}{te:TE}{pos':Pos}(hN:X.N.Nodup) (hi:X.N[i]?=some x) (hx:Loc X.env.scope x) (he:PE X e te) (hs:swapsWith e (some (.Name x pos')) pos.line X.env=pure false:=by rfl) (hf:X.fn x=true∨X.env.scope.names.lookup x=some .local:=by first|exact .inl rfl|exact .inr rfl|assumption) :
  PS X (.Assign [.Name x pos'] e pos) (tAsg te (zav3 i)):=by
 intro pins s σ H D I h
 refine wpAny_Assign_Name (thn (he pins s σ H _ I h) fun v s1 ⟨y,H1,I1,r1,q1⟩=>?_) hs
 exact zz6 I1 hN hi hx r1 (fun s2 I2=>⟨_,H1,I2,q1⟩) hf
end
section
variable {X:Cx}{pos:Pos}
end
structure It where
 go:Nat->Hp->Prop
 yld:Nat->Hp->V->Hp->Prop
 stop:Nat->Hp->Prop
def FpOk (X:Cx) (pins:List (Addr×Obj)) (H:Hp) (b:Addr):Prop:=
 H b=none/\b≠X.env.locals/\b ∉ X.fs/\(b∈X.ex∨X.s₀.heap.objs.size<=b)/\(∀ x c,X.env.cells.lookup x=some c->c≠b)/\∀ p∈X.pn++pins,p.1≠b
theorem Inv.fpOk {X:Cx}{pins:List (Addr×Obj)}{σ:St}{H H':Hp}{s:Shared}{b:Addr}(I:Inv X pins σ H s) (hb:s.heap.objs.size<=b) (hn:H' b=none):FpOk X pins H' b:=by
 refine⟨hn,Nat.ne_of_gt (zcc7 I.lt hb),I.nofs hb,.inr (zce6 I.sz hb),fun x c e z=>?_,fun p hp z=>?_⟩
 ·obtain⟨v,q⟩:=I.cell x c e
  exact absurd (zcc7 q.lt (by rw[z];exact hb)) (zch0 _)
 ·exact absurd (zcc7 (zcb7 (I.pin p hp).1) (by rw[z];exact hb)) (zch0 _)
structure Turn (P:Program) (w:World) (K:zbz8) (tg:Expr) (J:It) (fp:List Addr) (it:Addr) (tn:Nat->Heap->Prop):Prop where
 mem:it∈fp
 obj:∀ i h,tn i h->∀ b∈fp,∃ o,h.get? b=some o/\∀ v,o.data≠.cell v
 keep:∀ i h h',tn i h->(∀ b∈fp,∀ o,h.get? b=some o->h'.get? b=some o)->tn i h'
 item:∀ (X:Cx),X.prog=P->X.w=w->X.K=K->X.calm=true->∀ (i:Nat) (pins:List (Addr×Obj)) (s:Shared) (σ:St) (H:Hp) (E:Value->Shared->Prop),Inv X pins σ H s->(∀ b∈fp,FpOk X pins H b)->tn i s.heap->J.go i H ->
  wpAny (model P w) X.A (pyNext (.ref it)) (fun r s1=>∃ u,r=some u /\
   wpAny (model P w) X.A (letOwnedTupleGo tg (.ref it) u) (fun _ s2=>∃ x H',Inv X pins σ H' s2/\RelV x u/\J.yld i H x H'/\tn (i+1) s2.heap/\∀ b∈fp,H' b=none) E s1) E s
 done:∀ (X:Cx),X.prog=P->X.w=w->X.K=K->X.calm=true->∀ (i:Nat) (pins:List (Addr×Obj)) (s:Shared) (σ:St) (H:Hp) (E:Value->Shared->Prop),Inv X pins σ H s->(∀ b∈fp,FpOk X pins H b)->tn i s.heap->J.stop i H ->
  wpAny (model P w) X.A (pyNext (.ref it)) (fun r s1=>r=none/\Inv X pins σ H s1) E s
 self:∀ (A:Around) (i:Nat) (s:Shared) (Q:Value->Shared->Prop) (E:Value->Shared->Prop),tn i s.heap->Q (.ref it) s->wpAny (model P w) A (pyIter (.ref it)) Q E s
abbrev TI:=St->Hp->(It->Hp->Prop)->Prop
def PIE (X:Cx) (pins:List (Addr×Obj)) (σ:St) (tg:Expr) (R:It->Hp->Prop) (itv:Value) (s2:Shared):Prop:=
 ∃ (it:Addr) (fp:List Addr) (tn:Nat->Heap->Prop) (J:It) (H':Hp),itv=.ref it/\Inv X pins σ H' s2/\Turn X.prog X.w X.K tg J fp it tn/\tn 0 s2.heap/\(∀ b∈fp,FpOk X pins H' b)/\R J H'
def PI (X:Cx) (tg iter:Expr) (wi:TI):Prop:=
 ∀ (pins:List (Addr×Obj)) (s:Shared) (σ:St) (H:Hp) (R:It->Hp->Prop),Inv X pins σ H s->wi σ H R ->
  wpAny (model X.prog X.w) X.A (eval iter X.env) (fun v s1=>wpAny (model X.prog X.w) X.A (pyIter v) (PIE X pins σ tg R) X.xe s1) X.xe s
theorem go_of {M:Model}{A:Around}{E:Value->Shared->Prop}{s:Shared}{tg:Expr}{it:Addr}{u:Value}{o:Obj}{n:String}{vs:Array Value}{Q:Unit->Shared->Prop}(ho:s.heap.get? it=some o) (hc:o.cls=.type n) (hd:o.data=.fields vs)
  (hn:["enumerate","zip","dict_itemiterator","dict_reverseitemiterator","odict_iterator","itertools.zip_longest","itertools.pairwise"].contains n=false) (hQ:Q () s):wpAny M A (letOwnedTupleGo tg (.ref it) u) Q E s:=by
 unfold letOwnedTupleGo
 cases tg<;>first
  | exact wpAny_pure hQ
  | (cases u<;>first
    | exact wpAny_pure hQ
    | (refine wpAny_bind (wpAny_load ho ?_);rw[hc,hd];show wpAny M A (if (["enumerate","zip","dict_itemiterator","dict_reverseitemiterator","odict_iterator","itertools.zip_longest","itertools.pairwise"].contains n&&vs[0]?==some (rawInt _))=true then _ else _) Q E s;rw[if_neg (by intro h;rw[hn,Bool.false_and] at h;cases h)];exact wpAny_pure hQ))
def Itl (K:zbz8) (a:Addr):It:=
 ⟨fun i H=>∃ xs x,SqL K H a xs/\xs[i]?=some x,fun i H x H'=>H'=H/\∀ xs,SqL K H a xs->xs[i]?=some x,fun i H=>∃ xs,SqL K H a xs/\xs.length<=i⟩
def Itt (K:zbz8) (a:Addr):It:=
 ⟨fun i H=>∃ xs x,SqT K H a xs/\xs[i]?=some x,fun i H x H'=>H'=H/\∀ xs,SqT K H a xs->xs[i]?=some x,fun i H=>∃ xs,SqT K H a xs/\xs.length<=i⟩
def Itr (lo:Int) (n:Nat):It:=⟨fun i _=>i<n,fun i H x H'=>H'=H/\x=.int (lo+i),fun i _=>n<=i⟩
theorem zaz4 {P:Program}{w:World}{K:zbz8}{tg:Expr}(a it:Addr):Turn P w K tg (Itl K a) [it] it (fun i h=>h.IsListIter it a i) where
 mem:=by simp
 obj:=fun i h st b hb=>by
  have e:b=it:=by simpa using hb
  subst e
  obtain⟨o,e,c,d⟩:=st
  exact⟨o,e,fun v z=>by rw[d] at z;cases z⟩
 keep:=fun i h h' st k=>st.at fun o e=>k it (by simp) o e
 item:=by
  intro X hP hw hK hc i pins s σ H E I hf st hg
  subst hP hw hK
  obtain⟨xs,x,hq,hx⟩:=hg
  obtain⟨its,rv,p,hz⟩:=I.list hq
  obtain⟨u,hu,ru⟩:=rv.get hx
  obtain⟨f0,f1,f2,f3,f4,f5⟩:=hf it (by simp)
  refine wpAny_pyNext_list_item st p.isList (x:=u) (by simpa using hu) fun h' st' sb=>?_
  have I1:Inv X pins σ H { s with heap:=h' }:=I.turned (t':=s.toks) (fun b o hb e=>(sb.2 b hb).trans e) f0 f1 f3 f4 f5
  obtain⟨o,e,c,d⟩:=id st'
  exact⟨u,rfl,go_of (s:={ s with heap:=h' }) e c d (by decide) ⟨x,H,I1,ru,⟨rfl,fun ys hy=>by rw[I.list_inj hy hq];exact hx⟩,st',fun b hb=>(hf b hb).1⟩⟩
 done:=by
  intro X hP hw hK hc i pins s σ H E I hf st hg
  subst hP hw hK
  obtain⟨xs,hq,hx⟩:=hg
  obtain⟨its,rv,p,hz⟩:=I.list hq
  obtain⟨f0,f1,f2,f3,f4,f5⟩:=hf it (by simp)
  have hl:=rv.length
  exact wpAny_pyNext_list_end (I.ok.hd hc) st p.isList (by simp;omega) fun h' eb=>⟨rfl,I.turned (t':=s.toks) (fun b o hb e=>eb b o hb e) f0 f1 f3 f4 f5⟩
 self:=fun _ _ _ _ _ st h=>wpAny_pyIter_listiter st h
theorem zav4 {P:Program}{w:World}{K:zbz8}{tg:Expr}(a it:Addr):Turn P w K tg (Itt K a) [it] it (fun i h=>h.IsTupleIter it a i) where
 mem:=by simp
 obj:=fun i h st b hb=>by
  have e:b=it:=by simpa using hb
  subst e
  obtain⟨o,e,c,d⟩:=st
  exact⟨o,e,fun v z=>by rw[d] at z;cases z⟩
 keep:=fun i h h' st k=>st.at fun o e=>k it (by simp) o e
 item:=by
  intro X hP hw hK hc i pins s σ H E I hf st hg
  subst hP hw hK
  obtain⟨xs,x,hq,hx⟩:=hg
  obtain⟨its,rv,p,hz⟩:=I.tuple hq
  obtain⟨u,hu,ru⟩:=rv.get hx
  obtain⟨f0,f1,f2,f3,f4,f5⟩:=hf it (by simp)
  refine wpAny_pyNext_tuple_item st (show s.heap.IsTuple a its.toArray from p) (x:=u) (by simpa using hu) fun h' st' sb=>?_
  have I1:Inv X pins σ H { s with heap:=h' }:=I.turned (t':=s.toks) (fun b o hb e=>(sb.2 b hb).trans e) f0 f1 f3 f4 f5
  obtain⟨o,e,c,d⟩:=id st'
  exact⟨u,rfl,go_of (s:={ s with heap:=h' }) e c d (by decide) ⟨x,H,I1,ru,⟨rfl,fun ys hy=>by rw[I.tuple_inj hy hq];exact hx⟩,st',fun b hb=>(hf b hb).1⟩⟩
 done:=by
  intro X hP hw hK hc i pins s σ H E I hf st hg
  subst hP hw hK
  obtain⟨xs,hq,hx⟩:=hg
  obtain⟨its,rv,p,hz⟩:=I.tuple hq
  obtain⟨f0,f1,f2,f3,f4,f5⟩:=hf it (by simp)
  have hl:=rv.length
  exact wpAny_pyNext_tuple_end (I.ok.hd hc) st (show s.heap.IsTuple a its.toArray from p) (by simp;omega) fun h' eb=>⟨rfl,I.turned (t':=s.toks) (fun b o hb e=>eb b o hb e) f0 f1 f3 f4 f5⟩
 self:=fun _ _ _ _ _ st h=>wpAny_pyIter_tupleiter st h
theorem zav7 {P:Program}{w:World}{K:zbz8}{tg:Expr}(it:Addr) (lo:Int) (n:Nat):Turn P w K tg (Itr lo n) [it] it (fun i h=>IsRangeIter h it (lo+(i:Nat)*1) ((n:Int) - (i:Nat)) 1) where
 mem:=by simp
 obj:=fun i h st b hb=>by
  have e:b=it:=by simpa using hb
  subst e
  exact⟨_,st,fun v z=>by
   have z':Data.fields _=Data.cell v:=z
   cases z'⟩
 keep:=fun i h h' st k=>k it (by simp) _ st
 item:=by
  intro X hP hw hK hc i pins s σ H E I hf st hg
  subst hP hw hK
  obtain⟨f0,f1,f2,f3,f4,f5⟩:=hf it (by simp)
  have W:=Walks.range (prog:=X.prog) (w:=X.w) (I.ok.hd hc) it lo 1 n
  refine W.item i s _ _ hg st fun v h' tk hv st' kk=>?_
  obtain⟨t,rfl⟩:=hv
  have I1:Inv X pins σ H { s with heap:=h',toks:=tk }:=I.turned (fun b o hb e=>kk b o (by simpa using hb) e) f0 f1 f3 f4 f5
  refine⟨_,rfl,go_of (s:={ s with heap:=h',toks:=tk }) (n:="range_iterator") st' rfl rfl (by decide) ⟨.int (lo+i),H,I1,⟨t,?_⟩,⟨rfl,rfl⟩,st',fun b hb=>(hf b hb).1⟩⟩
  rw[Int.mul_one]
 done:=by
  intro X hP hw hK hc i pins s σ H E I hf st hg
  subst hP hw hK
  obtain⟨f0,f1,f2,f3,f4,f5⟩:=hf it (by simp)
  exact wpAny_pyNext_range_end (I.ok.hd hc) st (by have:n<=i:=hg;omega) fun h' eb=>⟨rfl,I.turned (t':=s.toks) (fun b o hb e=>eb b o hb e) f0 f1 f3 f4 f5⟩
 self:=fun _ _ _ _ _ st h=>wpAny_pyIter_rangeiter st h
end L2
namespace L2
open PySem PySem.Spec PyProof.Rows
section
variable {X:Cx}{tg:Expr}
theorem zz3 {pins:List (Addr×Obj)}{σ:St}{H:Hp}{s:Shared}{R:It->Hp->Prop}{E:Value->Shared->Prop}{lo hi:Int}{t u v:Tok}{tk:Nat}(I:Inv X pins σ H s) (h1:-(2 ^ 62)<=lo) (h2:lo<2 ^ 62) (h3:-(2 ^ 62)<=hi) (h4:hi<2 ^ 62)
  (q:R (Itr lo (hi - lo).toNat) H):wpAny (model X.prog X.w) X.A (pyIter (.ref s.heap.objs.size)) (PIE X pins σ tg R) E { s with heap:=s.heap.push { cls:=.type "range",data:=.fields #[.int lo t,.int hi u,.int 1 v] },toks:=tk }:=by
 refine wpAny_pyIter_range (IsRange.new ..) (small_one h1 h2 h3 h4) ?_
 have I1:Inv X pins σ H { s with heap:=s.heap.push { cls:=.type "range",data:=.fields #[.int lo t,.int hi u,.int 1 v] },toks:=tk }:=I.kept fun b o e=>zca8 _ e
 refine⟨(s.heap.push { cls:=.type "range",data:=.fields #[.int lo t,.int hi u,.int 1 v] }).objs.size,[(s.heap.push { cls:=.type "range",data:=.fields #[.int lo t,.int hi u,.int 1 v] }).objs.size],_,_,H,rfl,
  I1.kept (t':=tk) fun b o e=>zca8 _ e,zav7 _ lo (hi - lo).toNat,?_,fun b hb=>?_,q⟩
 ·have e1:lo+((0:Nat):Int)*1=lo:=by simp
  have e2:(((hi - lo).toNat:Nat):Int) - ((0:Nat):Int)=Builtin.Range.rangeSize lo hi 1:=by rw[rangeSize_one];split<;>omega
  show IsRangeIter _ _ (lo+((0:Nat):Int)*1) ((((hi - lo).toNat:Nat):Int) - ((0:Nat):Int)) 1
  rw[e1,e2]
  exact zcd1 _ rfl
 ·have e:b=(s.heap.push { cls:=.type "range",data:=.fields #[.int lo t,.int hi u,.int 1 v] }).objs.size:=by simpa using hb
  subst e
  exact I1.fpOk (zcb6 _) (I1.hok.fresh (zcb6 _))
def tFor (wi:TI) (g:TG) (tb:TS):TS:=fun D σ H=>wi σ H fun J H1=>∃ W:Nat->Nat->St->Hp->Prop,(∃ m,W 0 m σ H1)/\∀ i m σ H,W i m σ H ->
 (J.stop i H/\D.nx σ H)∨(J.go i H/\∃ N:St->Hp->Prop,(∀ σ' H',N σ' H'->∃ m',m'<m/\W (i+1) m' σ' H')/\∀ x H',J.yld i H x H'->g x σ H' fun σ2 H2=>tb { D with nx:=N,ct:=N,bk:=D.nx } σ2 H2)
def zaj8 (fp:List Addr) (h:Heap):List (Addr×Obj):=fp.filterMap fun b=>(h.get? b).map fun o=>(b,o)
theorem zt0 {fp:List Addr}{h:Heap}{b:Addr}{o:Obj}(hb:b∈fp) (e:h.get? b=some o):(b,o)∈zaj8 fp h:=List.mem_filterMap.mpr ⟨b,hb,by rw[e];rfl⟩
theorem zbe9 {fp:List Addr}{h:Heap}{p:Addr×Obj}(hp:p∈zaj8 fp h):p.1∈fp/\h.get? p.1=some p.2:=by
 obtain⟨b,hb,e⟩:=List.mem_filterMap.mp hp
 cases q:h.get? b with
 | none=>rw[q] at e;cases e
 | some o=>
  rw[q] at e
  have e':(b,o)=p:=Option.some.inj e
  subst e'
  exact⟨hb,q⟩
theorem Inv.pinned {pins:List (Addr×Obj)}{σ:St}{H:Hp}{s:Shared}{fp:List Addr}(I:Inv X pins σ H s) (hf:∀ b∈fp,FpOk X pins H b) (ho:∀ b∈fp,∃ o,s.heap.get? b=some o/\∀ v,o.data≠.cell v):Inv X (pins++zaj8 fp s.heap) σ H s:=
 I.pins_of fun p hp=>(zcc3.mp hp).elim (fun z=>I.pin p (zcd7 _ z)) fun z=>by
  obtain⟨hb,e⟩:=zbe9 z
  obtain⟨f0,f1,f2,_⟩:=hf p.1 hb
  obtain⟨o,e',d⟩:=ho p.1 hb
  rw[e] at e';cases e'
  exact⟨e,f0,f1,f2,d⟩
theorem Inv.unpinned {pins pl:List (Addr×Obj)}{σ:St}{H:Hp}{s:Shared}(I:Inv X (pins++pl) σ H s):Inv X pins σ H s:=I.pins_of fun p hp=>I.pin p (zcd7 _ (List.mem_append_left _ hp))
theorem ps_for {iter:Expr}{body:List Stmt}{wi:TI}{g:TG}{tb:TS}{pos:Pos}(hp:PassesOwn (model X.prog X.w) X.A X.env X.xe) (hc:X.calm=true) (hi:PI X tg iter wi) (hg:PG X tg g) (hb:PSs X body tb)
  (hs:∀ x,foldedSetIterable iter X.env x=pure x:=by intro _;rfl):PS X (.For tg iter body [] pos) (tFor wi g tb):=by
 intro pins s σ H D I h
 refine wpAny_For (thn (hi pins s σ H _ I h) fun v s1 h1=>thn h1 fun itv s2 h2=>?_) hs
 obtain⟨it,fp,tn,J,H2,e,I2,T,st2,f2,W,⟨m0,w0⟩,turn⟩:=h2
 subst e
 have stat:∀ {H':Hp},(∀ b∈fp,H' b=none)->∀ b∈fp,FpOk X pins H' b:=fun hn b hb=>⟨hn b hb,(f2 b hb).2⟩
 refine codeAny_forLoop_any (fun n s'=>∃ i σ' H',Inv X pins σ' H' s'/\tn i s'.heap/\(∀ b∈fp,H' b=none)/\W i n σ' H') ?_ m0 ⟨0,σ,H2,I2,st2,fun b hb=>(f2 b hb).1,w0⟩
 rintro n s3 ⟨i,σ3,H3,I3,st3,fr3,w3⟩
 rcases turn i n σ3 H3 w3 with ⟨stop,qn⟩|⟨go,N,hN,step⟩
 ·refine wpAny_passesOwn hp (thn (T.done X rfl rfl rfl hc i pins s3 σ3 H3 X.xe I3 (stat fr3) st3 stop) fun r s4 ⟨hr,I4⟩=>?_)
  subst hr
  exact wpAny_execs_nil ⟨σ3,H3,I4,qn⟩
 ·refine wpAny_passesOwn hp (thn (T.item X rfl rfl rfl hc i pins s3 σ3 H3 X.xe I3 (stat fr3) st3 go) fun r s4 ⟨u,hr,h4⟩=>?_)
  subst hr
  refine wpAny_passesOwn hp (thn h4 fun _ s5 ⟨x,H5,I5,r5,y5,st5,fr5⟩=>?_)
  have I5':=I5.pinned (stat fr5) (T.obj _ _ st5)
  refine wpAny_passesOwn hp (thn (hg _ s5 σ3 H5 x u _ I5' r5 (step x H5 y5)) fun _ s6 ⟨σ6,H6,I6,q6⟩=>?_)
  refine wpAny_passesOwn hp (thn (hb _ s6 σ6 H6 _ I6 q6) fun f s7 q7=>?_)
  have again:∀ {σ7:St}{H7:Hp},Inv X (pins++zaj8 fp s5.heap) σ7 H7 s7->N σ7 H7->∃ m,m<n/\∃ i σ' H',Inv X pins σ' H' s7/\tn i s7.heap/\(∀ b∈fp,H' b=none)/\W i m σ' H':=fun {σ7 H7} I7 n7=>by
   obtain⟨m',hm,w7⟩:=hN σ7 H7 n7
   refine⟨m',hm,i+1,σ7,H7,I7.unpinned,T.keep _ _ _ st5 fun b hb o e=>(I7.pin (b,o) (zcd7 _ (zcd7 _ (zt0 hb e)))).1,fun b hb=>?_,w7⟩
   obtain⟨o,e,d⟩:=T.obj _ _ st5 b hb
   exact (I7.pin (b,o) (zcd7 _ (zcd7 _ (zt0 hb e)))).2.1
  cases f with
  | next=>obtain⟨σ7,H7,I7,n7⟩:=q7;exact again I7 n7
  | cont=>obtain⟨σ7,H7,I7,n7⟩:=q7;exact again I7 n7
  | brk=>obtain⟨σ7,H7,I7,q7⟩:=q7;exact⟨σ7,H7,I7.unpinned,q7⟩
  | ret v=>obtain⟨x7,σ7,H7,I7,r7,q7⟩:=q7;exact⟨x7,σ7,H7,I7.unpinned,r7,q7⟩
end
theorem zbi8 {K:zbz8}{a:Addr}{xs:List V}{g:TG}{tb:TS}{D:Ends}{σ:St}{H:Hp}(Pv:Nat->St->Hp->Prop) (h0:Pv 0 σ H) (hl:∀ i σ H,i<=xs.length->Pv i σ H->SqL K H a xs)
  (hs:∀ i x σ H,xs[i]?=some x->Pv i σ H->g x σ H fun σ2 H2=>tb { D with nx:=Pv (i+1),ct:=Pv (i+1),bk:=D.nx } σ2 H2) (hd:∀ σ H,Pv xs.length σ H->D.nx σ H) :
  ∃ W:Nat->Nat->St->Hp->Prop,(∃ m,W 0 m σ H)/\∀ i m σ H,W i m σ H ->
   ((Itl K a).stop i H/\D.nx σ H)∨((Itl K a).go i H/\∃ N:St->Hp->Prop,(∀ σ' H',N σ' H'->∃ m',m'<m/\W (i+1) m' σ' H')/\∀ x H',(Itl K a).yld i H x H'->g x σ H' fun σ2 H2=>tb { D with nx:=N,ct:=N,bk:=D.nx } σ2 H2):=by
 refine⟨fun i m σ H=>m=xs.length - i/\i<=xs.length/\Pv i σ H,⟨xs.length,by simp,zcd6 _,h0⟩,?_⟩
 rintro i m σ H ⟨rfl,hi,p⟩
 have q:=hl i σ H hi p
 by_cases hlt:i<xs.length
 ·refine .inr ⟨⟨xs,xs[i],q,by simp[hlt]⟩,Pv (i+1),fun σ' H' p'=>⟨xs.length - (i+1),by omega,rfl,hlt,p'⟩,fun x H' y=>?_⟩
  obtain⟨e,y⟩:=y
  subst e
  exact hs i x σ _ (y xs q) p
 ·have e:i=xs.length:=by omega
  subst e
  exact .inl ⟨⟨xs,q,zcb6 _⟩,hd σ H p⟩
theorem zbs7 {K:zbz8}{a:Addr}{xs:List V}{g:TG}{tb:TS}{D:Ends}{σ:St}{H:Hp}(Pv:Nat->St->Hp->Prop) (h0:Pv 0 σ H) (hl:∀ i σ H,i<=xs.length->Pv i σ H->SqT K H a xs)
  (hs:∀ i x σ H,xs[i]?=some x->Pv i σ H->g x σ H fun σ2 H2=>tb { D with nx:=Pv (i+1),ct:=Pv (i+1),bk:=D.nx } σ2 H2) (hd:∀ σ H,Pv xs.length σ H->D.nx σ H) :
  ∃ W:Nat->Nat->St->Hp->Prop,(∃ m,W 0 m σ H)/\∀ i m σ H,W i m σ H ->
   ((Itt K a).stop i H/\D.nx σ H)∨((Itt K a).go i H/\∃ N:St->Hp->Prop,(∀ σ' H',N σ' H'->∃ m',m'<m/\W (i+1) m' σ' H')/\∀ x H',(Itt K a).yld i H x H'->g x σ H' fun σ2 H2=>tb { D with nx:=N,ct:=N,bk:=D.nx } σ2 H2):=by
 refine⟨fun i m σ H=>m=xs.length - i/\i<=xs.length/\Pv i σ H,⟨xs.length,by simp,zcd6 _,h0⟩,?_⟩
 rintro i m σ H ⟨rfl,hi,p⟩
 have q:=hl i σ H hi p
 by_cases hlt:i<xs.length
 ·refine .inr ⟨⟨xs,xs[i],q,by simp[hlt]⟩,Pv (i+1),fun σ' H' p'=>⟨xs.length - (i+1),by omega,rfl,hlt,p'⟩,fun x H' y=>?_⟩
  obtain⟨e,y⟩:=y
  subst e
  exact hs i x σ _ (y xs q) p
 ·have e:i=xs.length:=by omega
  subst e
  exact .inl ⟨⟨xs,q,zcb6 _⟩,hd σ H p⟩
theorem zay1 {lo:Int}{n:Nat}{g:TG}{tb:TS}{D:Ends}{σ:St}{H:Hp}(Pv:Nat->St->Hp->Prop) (h0:Pv 0 σ H)
  (hs:∀ i σ H,i<n->Pv i σ H->g (.int (lo+i)) σ H fun σ2 H2=>tb { D with nx:=Pv (i+1),ct:=Pv (i+1),bk:=D.nx } σ2 H2) (hd:∀ σ H,Pv n σ H->D.nx σ H) :
  ∃ W:Nat->Nat->St->Hp->Prop,(∃ m,W 0 m σ H)/\∀ i m σ H,W i m σ H ->
   ((Itr lo n).stop i H/\D.nx σ H)∨((Itr lo n).go i H/\∃ N:St->Hp->Prop,(∀ σ' H',N σ' H'->∃ m',m'<m/\W (i+1) m' σ' H')/\∀ x H',(Itr lo n).yld i H x H'->g x σ H' fun σ2 H2=>tb { D with nx:=N,ct:=N,bk:=D.nx } σ2 H2):=by
 refine⟨fun i m σ H=>m=n - i/\i<=n/\Pv i σ H,⟨n,by simp,zcd6 _,h0⟩,?_⟩
 rintro i m σ H ⟨rfl,hi,p⟩
 by_cases hlt:i<n
 ·refine .inr ⟨hlt,Pv (i+1),fun σ' H' p'=>⟨n - (i+1),by omega,rfl,hlt,p'⟩,fun x H' y=>?_⟩
  obtain⟨e,y⟩:=y
  subst e y
  exact hs i σ _ hlt p
 ·have e:i=n:=by omega
  subst e
  exact .inl ⟨zcb6 _,hd σ H p⟩
end L2
namespace L2
open PySem PySem.Spec PyProof.Rows
abbrev R2:=V->V->Hp->VK->Prop
def OpR (X:Cx) (f:Value->Value->Sem Value) (r:R2):Prop:=
 ∀ (pins:List (Addr×Obj)) (s:Shared) (σ:St) (H:Hp) (x y:V) (v u:Value) (Q:VK),Inv X pins σ H s->RelV x v->RelV y u->r x y H Q ->
  wpAny (model X.prog X.w) X.A (f v u) (EP X pins σ Q) X.xe s
def UnR (X:Cx) (f:Value->Sem Value) (r:V->Hp->VK->Prop):Prop:=
 ∀ (pins:List (Addr×Obj)) (s:Shared) (σ:St) (H:Hp) (x:V) (v:Value) (Q:VK),Inv X pins σ H s->RelV x v->r x H Q ->
  wpAny (model X.prog X.w) X.A (f v) (EP X pins σ Q) X.xe s
def zn4 (X:Cx) (f:Value) (r:List V->Hp->VK->Prop):Prop:=
 ∀ (pins:List (Addr×Obj)) (s:Shared) (σ:St) (H:Hp) (xs:List V) (us:List Value) (Q:VK),Inv X pins σ H s->Vals xs us->r xs H Q ->
  wpAny (model X.prog X.w) X.A (call f us) (EP X pins σ Q) X.xe s
def TruR (X:Cx) (r:V->Hp->(Bool->Hp->Prop)->Prop):Prop:=
 ∀ (pins:List (Addr×Obj)) (s:Shared) (σ:St) (H:Hp) (x:V) (v:Value) (Q:Bool->Hp->Prop),Inv X pins σ H s->RelV x v->r x H Q ->
  wpAny (model X.prog X.w) X.A (truthy v) (TP X pins σ Q) X.xe s
def tOp (r:R2) (ta tb:TE):TE:=fun σ H Q=>ta σ H fun x H1=>tb σ H1 fun y H2=>r x y H2 Q
def tUn (r:V->Hp->VK->Prop) (ta:TE):TE:=fun σ H Q=>ta σ H fun x H1=>r x H1 Q
def rI (C:Int->Int->Prop) (g:Int->Int->V):R2:=fun x y H Q=>∃ i j,x=.int i/\y=.int j/\C i j/\Q (g i j) H
def rI0 (g:Int->Int->V):R2:=fun x y H Q=>∃ i j,x=.int i/\y=.int j/\Q (g i j) H
def rU (g:Int->V):V->Hp->VK->Prop:=fun x H Q=>∃ i,x=.int i/\Q (g i) H
section
variable {X:Cx}{a b c:Expr}{ta tb tc:TE}{pos:Pos}
theorem binT (ha:PE X a ta) (hb:PE X b tb) {pins:List (Addr×Obj)}{s:Shared}{σ:St}{H:Hp}{R:V->V->Hp->Prop}(I:Inv X pins σ H s)
  (h:ta σ H fun x H1=>tb σ H1 fun y H2=>R x y H2) {Q:Value->Shared->Prop}{f:Value->Value->Sem Value}
  (hf:∀ v u s2 x y H2,Inv X pins σ H2 s2->RelV x v->RelV y u->R x y H2->wpAny (model X.prog X.w) X.A (f v u) Q X.xe s2) :
  wpAny (model X.prog X.w) X.A (eval a X.env) (fun v s₁=>wpAny (model X.prog X.w) X.A (eval b X.env) (fun u s₂=>wpAny (model X.prog X.w) X.A (f v u) Q X.xe s₂) X.xe s₁) X.xe s:=by
 refine thn (ha pins s σ H _ I h) fun v s1 ⟨x,H1,I1,r1,q1⟩=>?_
 refine thn (hb pins s1 σ H1 _ I1 q1) fun u s2 ⟨y,H2,I2,r2,q2⟩=>?_
 exact hf v u s2 x y H2 I2 r1 r2 q2
theorem zb4 {op:Operator}{r:R2}(ho:OpR X (binaryOp op) r) (ha:PE X a ta) (hb:PE X b tb):PE X (.BinOp a op b pos) (tOp r ta tb):=by
 intro pins s σ H Q I h
 exact wpAny_BinOp (binT ha hb I h fun v u s2 x y H2 I2 rx ry q=>ho pins s2 σ H2 x y v u Q I2 rx ry q)
theorem zaw0 {op:UnaryOp}{r:V->Hp->VK->Prop}(ho:UnR X (unaryOp op) r) (ha:PE X a ta):PE X (.UnaryOp op a pos) (tUn r ta):=by
 intro pins s σ H Q I h
 exact UnaryOp_ (thn (ha pins s σ H _ I h) fun v s1 ⟨x,H1,I1,r1,q1⟩=>ho pins s1 σ H1 x v Q I1 r1 q1)
theorem opI {f:Value->Value->Sem Value}{C:Int->Int->Prop}{g:Int->Int->Int}
  (rule:∀ (i j:Int) (t u:Tok) (s:Shared) (Q:Value->Shared->Prop) (E:Value->Shared->Prop),C i j->Q (.int (g i j) s.toks) { s with toks:=s.toks+1 }->wpAny (model X.prog X.w) X.A (f (.int i t) (.int j u)) Q E s) :
  OpR X f (rI C fun i j=>.int (g i j)):=by
 intro pins s σ H x y v u Q I rx ry h
 obtain⟨i,j,rfl,rfl,hc,q⟩:=h
 obtain⟨t,rfl⟩:=rx
 obtain⟨t',rfl⟩:=ry
 exact rule i j t t' s _ _ hc ⟨.int (g i j),H,I.tok _,⟨_,rfl⟩,q⟩
theorem opI0 {f:Value->Value->Sem Value}{g:Int->Int->Int}
  (rule:∀ (i j:Int) (t u:Tok) (s:Shared) (Q:Value->Shared->Prop) (E:Value->Shared->Prop),Q (.int (g i j) s.toks) { s with toks:=s.toks+1 }->wpAny (model X.prog X.w) X.A (f (.int i t) (.int j u)) Q E s) :
  OpR X f (rI0 fun i j=>.int (g i j)):=by
 intro pins s σ H x y v u Q I rx ry h
 obtain⟨i,j,rfl,rfl,q⟩:=h
 obtain⟨t,rfl⟩:=rx
 obtain⟨t',rfl⟩:=ry
 exact rule i j t t' s _ _ ⟨.int (g i j),H,I.tok _,⟨_,rfl⟩,q⟩
theorem opB0 {f:Value->Value->Sem Value}{g:Int->Int->Bool}
  (rule:∀ (i j:Int) (t u:Tok) (s:Shared) (Q:Value->Shared->Prop) (E:Value->Shared->Prop),Q (.bool (g i j)) s->wpAny (model X.prog X.w) X.A (f (.int i t) (.int j u)) Q E s) :
  OpR X f (rI0 fun i j=>.bl (g i j)):=by
 intro pins s σ H x y v u Q I rx ry h
 obtain⟨i,j,rfl,rfl,q⟩:=h
 obtain⟨t,rfl⟩:=rx
 obtain⟨t',rfl⟩:=ry
 exact rule i j t t' s _ _ ⟨.bl (g i j),H,I,rfl,q⟩
def CPow (i j:Int):Prop:=0<=j/\j<=1000000/\i.natAbs<2 ^ 64
def CMul (i j:Int):Prop:=(-(2 ^ 64)<i/\i<2 ^ 64)∨(-(2 ^ 64)<j/\j<2 ^ 64)
theorem CMul.ok {i j:Int}(h:CMul i j):IntMulOk i j:=by
 rcases h with ⟨h1,h2⟩|⟨h1,h2⟩
 ·exact .of_left (intBits_le_64 h1 h2)
 ·exact .of_right (intBits_le_64 h1 h2)
theorem op_add:OpR X (binaryOp .Add) (rI0 fun i j=>.int (i+j)):=opI0 fun _ _ _ _ _ _ _ q=>add_int q
theorem op_sub:OpR X (binaryOp .Sub) (rI0 fun i j=>.int (i - j)):=opI0 fun _ _ _ _ _ _ _ q=>sub_int q
theorem zbs1:OpR X (binaryOp .Mod) (rI (fun _ j=>j≠0) fun i j=>.int (i.fmod j)):=opI fun _ _ _ _ _ _ _ hc q=>mod_int' hc q
theorem op_pow:OpR X (binaryOp .Pow) (rI CPow fun i j=>.int (i ^ j.toNat)):=opI fun _ _ _ _ _ _ _ hc q=>pow_int_small hc.1 hc.2.1 hc.2.2 q
theorem unI {f:Value->Sem Value}{g:Int->Int}
  (rule:∀ (i:Int) (t:Tok) (s:Shared) (Q:Value->Shared->Prop) (E:Value->Shared->Prop),Q (.int (g i) s.toks) { s with toks:=s.toks+1 }->wpAny (model X.prog X.w) X.A (f (.int i t)) Q E s) :
  UnR X f (rU fun i=>.int (g i)):=by
 intro pins s σ H x v Q I rx h
 obtain⟨i,rfl,q⟩:=h
 obtain⟨t,rfl⟩:=rx
 exact rule i t s _ _ ⟨.int (g i),H,I.tok _,⟨_,rfl⟩,q⟩
theorem un_neg:UnR X (unaryOp .USub) (rU fun i=>.int (-i)):=unI fun _ _ _ _ _ q=>neg_int q
end
def scal:V->V->Bool
 | .non,.non=>true | .non,.int _=>true | .int _,.non=>true | .non,.bl _=>true | .bl _,.non=>true | .non,.str _=>true | .str _,.non=>true
 | .int _,.int _=>true | .bl _,.bl _=>true | .str _,.str _=>true | .byt _,.byt _=>true
 | .int _,.str _=>true | .str _,.int _=>true | .bl _,.str _=>true | .str _,.bl _=>true
 | _,_=>false
def rEq:R2:=fun x y H Q=>scal x y=true/\Q (.bl (decide (x=y))) H
def rNe:R2:=fun x y H Q=>scal x y=true/\Q (.bl (!decide (x=y))) H
theorem zba6 {i j:Int}:decide (V.int i=V.int j)=(i==j):=by
 rw[zcg7]
 simp
theorem zbn5 {i j:Bool}:decide (V.bl i=V.bl j)=(i==j):=by
 rw[zcg7]
 simp
theorem zbe2 {i j:Str}:decide (V.str i=V.str j)=(i==j):=by
 rw[zcg7]
 simp
theorem zbe3 {i j:Array UInt8}:decide (V.byt i=V.byt j)=(i.toList==j.toList):=by
 rw[zcg7]
 cases i
 cases j
 simp
section
variable {X:Cx}{a b c:Expr}{ta tb tc:TE}{pos:Pos}
theorem ze7 {pins:List (Addr×Obj)}{σ:St}{H:Hp}{s:Shared}{Q:VK}{k k':Bool}(I:Inv X pins σ H s) (q:Q (.bl k) H) (e:k=k'):EP X pins σ Q (.bool k') s:=by
 subst e
 exact⟨.bl k,H,I,rfl,q⟩
theorem zan6:OpR X (compareOp .Eq) rEq:=by
 intro pins s σ H x y v u Q I rx ry h
 obtain⟨hs,q⟩:=h
 cases x with
 | non=>
  cases rx
  cases y with
  | non=>cases ry;exact PySem.EqNone.eq_none_none (ze7 I q (by simp))
  | bl j=>cases ry;exact PySem.EqNone.eq_none_bool (ze7 I q (by simp))
  | int j=>obtain⟨t',rfl⟩:=ry;exact PySem.EqNone.eq_none_int (ze7 I q (by simp))
  | str j=>obtain⟨t',rfl⟩:=ry;exact PySem.EqNone.eq_none_str (ze7 I q (by simp))
  | _=>exact absurd (show false=true from hs) zca5
 | bl i=>
  cases rx
  cases y with
  | non=>cases ry;exact PySem.EqNone.eq_bool_none (ze7 I q (by simp))
  | bl j=>cases ry;exact eq_bool (ze7 I q zbn5)
  | str j=>obtain⟨t',rfl⟩:=ry;exact PySem.EqMixed.eq_bool_str (ze7 I q (by simp))
  | _=>exact absurd (show false=true from hs) zca5
 | int i=>
  obtain⟨t,rfl⟩:=rx
  cases y with
  | non=>cases ry;exact PySem.EqNone.eq_int_none (ze7 I q (by simp))
  | int j=>obtain⟨t',rfl⟩:=ry;exact eq_int (ze7 I q zba6)
  | str j=>obtain⟨t',rfl⟩:=ry;exact PySem.EqMixed.eq_int_str (ze7 I q (by simp))
  | _=>exact absurd (show false=true from hs) zca5
 | str i=>
  obtain⟨t,rfl⟩:=rx
  cases y with
  | non=>cases ry;exact PySem.EqNone.eq_str_none (ze7 I q (by simp))
  | bl j=>cases ry;exact PySem.EqMixed.eq_str_bool (ze7 I q (by simp))
  | int j=>obtain⟨t',rfl⟩:=ry;exact PySem.EqMixed.eq_str_int (ze7 I q (by simp))
  | str j=>obtain⟨t',rfl⟩:=ry;exact eq_str (ze7 I q zbe2)
  | _=>exact absurd (show false=true from hs) zca5
 | byt i=>
  obtain⟨t,rfl⟩:=rx
  cases y with
  | byt j=>obtain⟨t',rfl⟩:=ry;exact PySem.W.eq_bytes (ze7 I q zbe3)
  | _=>exact absurd (show false=true from hs) zca5
 | _=>cases y<;>exact absurd (show false=true from hs) zca5
theorem zap2:OpR X (compareOp .NotEq) rNe:=by
 intro pins s σ H x y v u Q I rx ry h
 obtain⟨hs,q⟩:=h
 cases x with
 | non=>
  cases rx
  cases y with
  | non=>cases ry;exact PySem.EqNone.ne_none_none (ze7 I q (by simp))
  | bl j=>cases ry;exact PySem.EqNone.ne_none_bool (ze7 I q (by simp))
  | int j=>obtain⟨t',rfl⟩:=ry;exact PySem.EqNone.ne_none_int (ze7 I q (by simp))
  | str j=>obtain⟨t',rfl⟩:=ry;exact PySem.EqNone.ne_none_str (ze7 I q (by simp))
  | _=>exact absurd (show false=true from hs) zca5
 | bl i=>
  cases rx
  cases y with
  | non=>cases ry;exact PySem.EqNone.ne_bool_none (ze7 I q (by simp))
  | bl j=>cases ry;exact ne_bool (ze7 I q (congrArg not zbn5))
  | str j=>obtain⟨t',rfl⟩:=ry;exact PySem.EqMixed.ne_bool_str (ze7 I q (by simp))
  | _=>exact absurd (show false=true from hs) zca5
 | int i=>
  obtain⟨t,rfl⟩:=rx
  cases y with
  | non=>cases ry;exact PySem.EqNone.ne_int_none (ze7 I q (by simp))
  | int j=>obtain⟨t',rfl⟩:=ry;exact ne_int (ze7 I q (congrArg not zba6))
  | str j=>obtain⟨t',rfl⟩:=ry;exact PySem.EqMixed.ne_int_str (ze7 I q (by simp))
  | _=>exact absurd (show false=true from hs) zca5
 | str i=>
  obtain⟨t,rfl⟩:=rx
  cases y with
  | non=>cases ry;exact PySem.EqNone.ne_str_none (ze7 I q (by simp))
  | bl j=>cases ry;exact PySem.EqMixed.ne_str_bool (ze7 I q (by simp))
  | int j=>obtain⟨t',rfl⟩:=ry;exact PySem.EqMixed.ne_str_int (ze7 I q (by simp))
  | str j=>obtain⟨t',rfl⟩:=ry;exact ne_str (ze7 I q (congrArg not zbe2))
  | _=>exact absurd (show false=true from hs) zca5
 | byt i=>
  obtain⟨t,rfl⟩:=rx
  cases y with
  | byt j=>obtain⟨t',rfl⟩:=ry;exact PySem.W.ne_bytes (ze7 I q (congrArg not zbe3))
  | _=>exact absurd (show false=true from hs) zca5
 | _=>cases y<;>exact absurd (show false=true from hs) zca5
theorem op_lt:OpR X (compareOp .Lt) (rI0 fun i j=>.bl (decide (i<j))):=opB0 fun _ _ _ _ _ _ _ q=>lt_int q
theorem op_le:OpR X (compareOp .LtE) (rI0 fun i j=>.bl (decide (i<=j))):=opB0 fun _ _ _ _ _ _ _ q=>le_int q
theorem op_gt:OpR X (compareOp .Gt) (rI0 fun i j=>.bl (decide (j<i))):=opB0 fun _ _ _ _ _ _ _ q=>gt_int q
theorem op_ge:OpR X (compareOp .GtE) (rI0 fun i j=>.bl (decide (j<=i))):=opB0 fun _ _ _ _ _ _ _ q=>ge_int q
theorem op_isN:OpR X (compareOp .Is) (fun x y H Q=>y=.non/\Q (.bl (decide (x=.non))) H):=by
 intro pins s σ H x y v u Q I rx ry h
 obtain⟨rfl,q⟩:=h
 cases ry
 refine is_none_gen (ze7 I q ?_)
 cases x<;>first
  | (cases rx;rfl)
  | (obtain⟨t,rfl⟩:=rx;rfl)
theorem zbm5 (b:Expr) {op:CmpOp}(h:op≠.In:=by decide) (h2:op≠.NotIn:=by decide):behindInMarks op b=false:=by
 have e1:(op==CmpOp.In)=false:=by cases op<;>first|rfl|exact absurd rfl h
 have e2:(op==CmpOp.NotIn)=false:=by cases op<;>first|rfl|exact absurd rfl h2
 cases b<;>simp[behindInMarks,e1,e2]
theorem zbr0 {op:CmpOp}{r:R2}(ho:OpR X (compareOp op) r) (ha:PE X a ta) (hb:PE X b tb) (hm:behindInMarks op b=false):PE X (.Compare a [op] [b] pos) (tOp r ta tb):=by
 intro pins s σ H Q I h
 exact wpAny_Compare1 (binT ha hb I h fun v u s2 x y H2 I2 rx ry q=>ho pins s2 σ H2 x y v u Q I2 rx ry q) hm
def TruV (K:zbz8) (x:V) (H:Hp) (k:Bool):Prop:=
 match x with
 | .non=>k=false
 | .bl b=>k=b
 | .int i=>k=(i != 0)
 | .str y=>y.length<=sizeLine/\k=((y.length:Int) != 0)
 | .byt y=>y.size<=sizeLine/\k=((y.size:Int) != 0)
 | .ref p=>(∃ xs,SqL K H p xs/\k=!xs.isEmpty)∨(∃ xs,SqT K H p xs/\k=!xs.isEmpty)∨∃ kvs,H p=some (.dK kvs)/\k=!kvs.isEmpty
 | _=>False
theorem zav1 {κ:Type}{kvs:List (κ×V)}{vs:List (κ×Value)}(r:KV kvs vs):(!vs.isEmpty)=!kvs.isEmpty:=by
 cases r<;>rfl
theorem zae6 {xs:List V}{its:List Value}(r:Vals xs its):(!its.toArray.isEmpty)=!xs.isEmpty:=by
 cases r<;>simp
theorem zab8:(sizeLine:Nat)<2 ^ 63:=by rw[sizeLine_eq];decide
theorem zax0:TruR X (fun x H Q=>∃ k,TruV X.K x H k/\Q k H):=by
 intro pins s σ H x v Q I rx h
 obtain⟨k,e,q⟩:=h
 have hl:=zab8
 have hs:sizeLine=16777216:=sizeLine_eq
 cases x with
 | non=>
  cases rx
  have e':k=false:=e
  subst e'
  exact truthy_none ⟨H,I,q⟩
 | bl b=>
  cases rx
  have e':k=b:=e
  subst e'
  exact wpAny_truthy_bool ⟨H,I,q⟩
 | int i=>
  obtain⟨t,rfl⟩:=rx
  have e':k=(i != 0):=e
  subst e'
  exact PySem.P.truthy_int ⟨H,I,q⟩
 | str y=>
  obtain⟨t,rfl⟩:=rx
  obtain⟨hy,e'⟩:y.length<=sizeLine/\k=((y.length:Int) != 0):=e
  subst e'
  exact PySem.P.truthy_str (by omega) ⟨H,I.tok _,q⟩
 | byt y=>
  obtain⟨t,rfl⟩:=rx
  obtain⟨hy,e'⟩:y.size<=sizeLine/\k=((y.size:Int) != 0):=e
  subst e'
  exact PySem.W.truthy_bytes (by omega) ⟨H,I.tok _,q⟩
 | ref p=>
  cases rx
  have e':(∃ xs,SqL X.K H p xs/\k=!xs.isEmpty)∨(∃ xs,SqT X.K H p xs/\k=!xs.isEmpty)∨∃ kvs,H p=some (.dK kvs)/\k=!kvs.isEmpty:=e
  rcases e' with ⟨xs,hx,e'⟩|⟨xs,hx,e'⟩|⟨kvs,hx,e'⟩
  ·subst e'
   obtain⟨its,r,pl,hz⟩:=I.list hx
   have hlen:=r.length
   exact wpAny_truthy_list pl.isList (by simp only[zca4];omega) ⟨H,I.tok _,by rw[zae6 r];exact q⟩
  ·subst e'
   obtain⟨its,r,pl,hz⟩:=I.tuple hx
   have hlen:=r.length
   exact truthy_tuple pl (by simp only[zca4];omega) ⟨H,I.tok _,by rw[zae6 r];exact q⟩
  ·subst e'
   obtain⟨hz,hS,vs,r,m⟩:kvs.length<=sizeLine/\(p==sysModules)=false/\∃ vs,KV kvs vs/\s.heap.DictOf (zj6 X.prog X.w) p vs:=I.hok p _ hx
   have hlen:kvs.length=vs.length:=Paired.length r
   exact wpAny_truthy_dict hS m (by omega) ⟨H,I.tok _,by rw[zav1 r];exact q⟩
 | _=>exact (show False from e).elim
theorem zau7:OpR X (binaryOp .Add) (fun x y H Q=>∃ i j,x=.str i/\y=.str j/\i.length+j.length<=sizeLine/\Q (.str (i++j)) H):=by
 intro pins s σ H x y v u Q I rx ry h
 obtain⟨i,j,rfl,rfl,hz,q⟩:=h
 obtain⟨t,rfl⟩:=rx
 obtain⟨t',rfl⟩:=ry
 exact add_str (fun t' tk=>⟨.str (i++j),H,I.tok _,⟨_,rfl⟩,q⟩) hz
theorem zae0 {x:V}{us:List Value}(r:Vals [x] us):∃ u,us=[u]/\RelV x u:=by
 cases r with
 | cons r1 r2=>cases r2;exact⟨_,rfl,r1⟩
theorem zbf1 {x y:V}{us:List Value}(r:Vals [x,y] us):∃ u w',us=[u,w']/\RelV x u/\RelV y w':=by
 cases r with
 | cons r1 r2=>
  cases r2 with
  | cons r3 r4=>cases r4;exact⟨_,_,rfl,r1,r3⟩
theorem zal1:zn4 X (.type "int") (fun xs H Q=>(∃ i,xs=[.int i]/\Q (.int i) H)∨∃ k,xs=[.bl k]/\Q (.int (if k then 1 else 0)) H):=by
 intro pins s σ H xs us Q I r h
 rcases h with ⟨i,rfl,q⟩|⟨k,rfl,q⟩
 ·obtain⟨u,rfl,t,rfl⟩:=zae0 r
  exact call_int_int ⟨.int i,H,I,⟨_,rfl⟩,q⟩
 ·obtain⟨u,rfl,r1⟩:=zae0 r
  cases r1
  exact call_int_bool ⟨.int (if k then 1 else 0),H,I.tok _,⟨_,rfl⟩,q⟩
end
end L2
namespace L2
open PySem PySem.Spec PyProof.Rows
structure ObjM (h:Heap) (x dx C:Addr) (mA:Str->Option Value):Prop where
 obj:h.get? x=some (PySem.W.instObj C dx)
 ns:h.Ns1 dx mA
 ne:dx≠x
theorem zbb9 {h:Heap}{dx:Addr}{mA:Str->Option Value}(n:h.Ns1 dx mA):∃ od,h.get? dx=some od/\∀ name,PySem.W.lookIn name od=some (mA name):=by
 obtain⟨o,es,ep,ho,hd,hk,_,hm⟩:=n
 refine⟨o,ho,fun name=>?_⟩
 have e:=hm name
 unfold nsFind findBy at e
 rw[← Array.find?_toList] at e
 unfold PySem.W.lookIn
 rw[hd]
 dsimp only
 split
 ·rename_i y q
  rw[q] at e
  exact congrArg some e
 ·rename_i q
  rw[q] at e
  have a:es.toList.any (·.refKey)=false:=by
   rw[List.any_eq_false]
   intro y hy
   obtain⟨z,t,hkey⟩:=hk y (Array.mem_toList_iff.mp hy)
   simp[DictEntry.refKey,hkey]
  have a':¬ es.toList.any (·.refKey)=true:=by rw[a];exact zca5
  rw[if_neg a']
  exact congrArg some e
theorem ObjM.look {h:Heap}{x dx C:Addr}{mA:Str->Option Value}(I:ObjM h x dx C mA):∃ od,PySem.W.InstAt h x (PySem.W.instObj C dx) C (some od)/\∀ name,PySem.W.lookIn name od=some (mA name):=
 let ⟨od,ho,hl⟩:=zbb9 I.ns
 ⟨od,⟨I.obj,rfl,rfl,ho⟩,hl⟩
section
variable {prog:Program}{w:World}{A:Around}{E:Value->Shared->Prop}{s:Shared}{K:zbz8}{x dx C f:Addr}{mA:Str->Option Value}{name:Str}{v:Value}
end
theorem RelO.some_of {v:V}{o:Option Value}(r:RelO (some v) o):∃ u,o=some u/\RelV v u:=by
 cases o with
 | none=>exact (show False from r).elim
 | some u=>exact⟨u,rfl,r⟩
section
variable {P:Program}{w:World}{H H':Hp}{h h':Heap}{a C dx:Addr}{fs fs':List (Str×V)}
theorem zay7 (hok:HOk P w H h) (e:H a=some (.ins C dx fs)):∃ mA,ObjM h a dx C mA/\(∀ f,RelO (fs.lookup f) (mA f))/\PySem.Within mA (fs.map (·.1))/\fs.length<=1000/\H dx=some (.own a):=by
 obtain⟨d,z,ne,ob,mA,n,r,q⟩:=(show zf7 P w H h a (.ins C dx fs) from hok a _ e)
 exact⟨mA,⟨ob,n,ne⟩,r,q,z,d⟩
end
structure Cls (K:zbz8) (C:Addr):Prop where
 pg:PySem.W.plainGet K C Str.empty=true
 hd:PySem.W.hasDictIn K C=true
 po:PySem.W.plainOver K C=true
 sa:zcf5 K (.ref C) "__setattr__"=some (some (.builtin "object.__setattr__"))
theorem Cls.get {K:zbz8}{C:Addr}(c:Cls K C) (f:Str):PySem.W.plainGet K C f=true:=c.pg
section
variable {X:Cx}{pins:List (Addr×Obj)}{σ:St}{H:Hp}{s:Shared}{a C dx:Addr}{fs:List (Str×V)}{f:Str}{v:V}{A:Around}{E:Value->Shared->Prop}
end
section
variable {X:Cx}{o e value:Expr}{f:Str}{pos pos' tpos:Pos}{ta tv:TE}
end
section
variable {X:Cx}{pins:List (Addr×Obj)}{σ:St}{H:Hp}{s:Shared}{A:Around}{E:Value->Shared->Prop}{Q:Value->Shared->Prop}{c:Value}{b:Bool}
inductive TyOf (K:zbz8) (H:Hp):V->Value->Prop where
 | non:TyOf K H .non (.type "NoneType")
 | bl (x:Bool):TyOf K H (.bl x) (.type "bool")
 | int (i:Int):TyOf K H (.int i) (.type "int")
 | str (x:Str):TyOf K H (.str x) (.type "str")
 | flt (x:UInt64):TyOf K H (.flt x) (.type "float")
 | lst {a:Addr}{xs:List V}(e:H a=some (.lst xs)):TyOf K H (.ref a) (.type "list")
 | frz {a:Addr}{o:Obj}{xs:List V}(e:H a=some (.frz o (.lst xs))):TyOf K H (.ref a) (.type "list")
 | tup {a:Addr}{xs:List V}(e:H a=some (.tup xs)):TyOf K H (.ref a) (.type "tuple")
 | dK {a:Addr}{kvs:List (Key×V)}(e:H a=some (.dK kvs)):TyOf K H (.ref a) (.type "dict")
 | dT {a:Addr}{kvs:List (List Key×V)}(e:H a=some (.dT kvs)):TyOf K H (.ref a) (.type "dict")
 | ins {a C dx:Addr}{fs:List (Str×V)}(e:H a=some (.ins C dx fs)) (cl:Cls K C) (ha:zcf5 K (.ref C) "__class__"=some (some (.builtin "object.__class__")))
   (hn:PySem.W.specialIn K (.builtin "object.__class__") "__get__"=some (some (.builtin "getset_descriptor.__get__"))) (htk:PySem.W.takesIn K (.builtin "object.__class__")=some true)
   (hm:PySem.W.mroIn K C (.type "object")=some true):TyOf K H (.ref a) (.ref C)
theorem zbb5 {x:V}{u t:Value}(I:Inv X pins σ H s) (rx:RelV x u) (ty:TyOf X.K H x t) (e:zca3 X.K t c=some b) (h:∀ tk,Q (.bool b) { s with toks:=tk }) :
  wpAny (model X.prog X.w) A (call (.builtin "isinstance") [u,c]) Q E s:=by
 cases ty with
 | non=>cases (show u=Value.none from rx);exact zcf0 PySem.W.kitx_none I.kIn True.intro e (fun z=>nomatch z) h
 | bl y=>cases (show u=Value.bool y from rx);exact zcf0 PySem.W.kitx_bool I.kIn True.intro e (fun z=>nomatch z) h
 | int i=>obtain⟨t,q⟩:=(show ∃ t,u=Value.int i t from rx);cases q;exact zcf0 PySem.W.kitx_int I.kIn True.intro e (fun z=>nomatch z) h
 | str y=>obtain⟨t,q⟩:=(show ∃ t,u=Value.str y t from rx);cases q;exact zcf0 PySem.W.kitx_str I.kIn True.intro e (fun z=>nomatch z) h
 | flt y=>obtain⟨t,q⟩:=(show ∃ t,u=Value.float y t from rx);cases q;exact zcf0 PySem.W.kitx_float I.kIn True.intro e (fun z=>nomatch z) h
 | @lst a xs ea=>
  cases (show u=Value.ref a from rx)
  obtain⟨_,_,n,_,h1⟩:=(show zf7 X.prog X.w H s.heap a (.lst xs) from I.hok a _ ea)
  exact zcf0 PySem.W.kitx_list I.kIn ⟨_,h1,rfl⟩ e (fun z=>nomatch z) h
 | @frz a ob xs ea=>
  cases (show u=Value.ref a from rx)
  obtain⟨_,_,_,n,_,h1⟩:=(show zf7 X.prog X.w H s.heap a (.frz ob (.lst xs)) from I.hok a _ ea)
  exact zcf0 PySem.W.kitx_list I.kIn ⟨_,h1,rfl⟩ e (fun z=>nomatch z) h
 | @tup a xs ea=>
  cases (show u=Value.ref a from rx)
  obtain⟨_,_,_,p⟩:=(show zf7 X.prog X.w H s.heap a (.tup xs) from I.hok a _ ea)
  obtain⟨o,h1,h2,_⟩:=p
  exact zcf0 PySem.W.kitx_tuple I.kIn ⟨o,h1,h2⟩ e (fun z=>nomatch z) h
 | @dK a kvs ea=>
  cases (show u=Value.ref a from rx)
  obtain⟨_,_,vs,_,p⟩:=(show zf7 X.prog X.w H s.heap a (.dK kvs) from I.hok a _ ea)
  obtain⟨o,es,ep,h1,h2,_⟩:=p
  exact zcf0 PySem.W.kitx_dict I.kIn ⟨o,h1,h2.1⟩ e (fun z=>nomatch z) h
 | @dT a kvs ea=>
  cases (show u=Value.ref a from rx)
  obtain⟨_,_,xs,_,o,es,ep,h1,h2,_⟩:=(show zf7 X.prog X.w H s.heap a (.dT kvs) from I.hok a _ ea)
  exact zcf0 PySem.W.kitx_dict I.kIn ⟨o,h1,h2.1⟩ e (fun z=>nomatch z) h
 | @ins a C dx fs ea cl ha hn htk hm=>
  cases (show u=Value.ref a from rx)
  obtain⟨mA,O,_⟩:=zay7 I.hok ea
  obtain⟨od,J,_⟩:=O.look
  exact zcf0 (PySem.W.kitx_own (cl.get _) cl.hd ha hn htk hm) I.kIn J e (fun z=>nomatch z) h
end
end L2
namespace L2
open PySem PySem.Spec PyProof.Rows
structure Room (k:Nat) (A:Around):Prop where
 hd:A.handled=none
 dp:A.depth+3*k+5<recursionLimit
 un:A.units+16*k+200<cLine
 gd:A.guards=some []
theorem Room.mono {j k:Nat}{A:Around}(r:Room k A) (h:j<=k):Room j A:=⟨r.hd,by have:=r.dp;omega,by have:=r.un;omega,r.gd⟩
theorem Room.deeper {k:Nat}{A:Around}(r:Room (k+1) A) (env:Env):Room k (A.deeper env):=
 ⟨r.hd,by have:=r.dp;show A.depth+1+3*k+5<_;omega,by have:=r.un;show A.units+3+16*k+200<_;omega,r.gd⟩
theorem Room.depth {k:Nat}{A:Around}(r:Room k A):A.depth<recursionLimit:=by have:=r.dp;omega
theorem Room.units {k:Nat}{A:Around}(r:Room k A):A.units+64<cLine:=by have:=r.un;omega
def tNil:TA:=fun _ H Q=>Q [] H
def tCons (ta:TE) (tr:TA):TA:=fun σ H Q=>ta σ H fun x H1=>tr σ H1 fun xs H2=>Q (x :: xs) H2
section
variable {X:Cx}{e:Expr}{es:List Expr}{te:TE}{t:TA}{pos:Pos}
theorem za1:PA X [] tNil:=fun _ _ _ _ H Q I h=>Calls.spliced_nil ⟨[],H,I,.nil,h⟩
theorem za0 (ha:PE X e te) (hr:PA X es t) (hs:starEach (e :: es) X.env=(false,eval e X.env) :: starEach es X.env:=by rfl):PA X (e :: es) (tCons te t):=by
 intro pos pins s σ H Q I h
 rw[hs]
 show wpAny _ _ (spliced ((false,eval e X.env) :: backTo pos (starEach es X.env))) _ _ s
 refine Calls.spliced_cons (thn (ha pins s σ H _ I h) fun u s1 ⟨x,H1,I1,r1,q1⟩=>?_)
 exact thn (hr pos pins s1 σ H1 _ I1 q1) fun us s2 ⟨xs,H2,I2,r2,q2⟩=>⟨x :: xs,H2,I2,.cons r1 r2,q2⟩
end
abbrev Sp:=List V->Hp->VK->XK->Prop
abbrev CXT:=List Env->Hp->Shared->XK->Value->Shared->Prop
structure Env0 (P:Program) (w:World) (K:zbz8) (mg:Str->Option Value) (base:Heap) (A:Around) (outer:List Env) (s:Shared) (H:Hp):Prop where
 frames:A.frames=some outer
 mod:Mod K mg base
 bs:∀ b o,base.get? b=some o->s.heap.get? b=some o/\H b=none
 bsz:base.objs.size<=s.heap.objs.size
 funs:s.heap.FunFrames base outer
 frf:∀ b∈frs outer,H b=none
 hok:HOk P w H s.heap
 bare:AllBare s.gens
def CE (outer:List Env) (P:Program) (w:World) (H:Hp) (s:Shared) (Q:VK) (u:Value) (s':Shared):Prop:=
 ∃ v H',s'.os=s.os/\AllBare s'.gens/\Un (frs outer) [] H H' s.heap s'.heap/\HOk P w H' s'.heap/\RelV v u/\Q v H'
def CR (CX:CXT) (outer:List Env) (P:Program) (w:World) (H:Hp) (s:Shared) (Q:VK) (E:XK) (r:Result) (s':Shared):Prop:=
 match r with
 | .ok (.ret u)=>CE outer P w H s Q u s'
 | .ok _=>False
 | .error e=>CX outer H s E e s'
structure FnOk (P:Program) (w:World) (K:zbz8) (mg:Str->Option Value) (base:Heap) (CX:CXT) (k:Nat) (f:Addr) (fd:FuncData) (ps:List Str) (sp:Sp):Prop where
 len:∀ vs H Q E,sp vs H Q E->vs.length=ps.length
 run:∀ (A:Around) (outer:List Env) (s:Shared) (H:Hp) (args:Args) (us:List Value) (vs:List V) (Q:VK) (E:XK),Room k A->Env0 P w K mg base A outer s H->BindsTo s fd args (ps.zip us)->Vals vs us->sp vs H Q E ->
  codeAny (model P w) A (.call (.ref f) args) (CR CX outer P w H s Q E) s
section
variable {X:Cx}{pins:List (Addr×Obj)}{σ:St}{H:Hp}{s s':Shared}
theorem Inv.env0 (I:Inv X pins σ H s):Env0 X.prog X.w X.K X.mg X.base X.A X.stack s H:=
 ⟨I.ok.frames,I.ok.mod,I.bs,zce6 I.ok.bsz I.sz,I.stack,I.stkFree,I.hok,I.bare⟩
theorem Inv.after {Q:VK}{u:Value}(I:Inv X pins σ H s) (h:CE X.stack X.prog X.w H s Q u s'):EP X pins σ Q u s':=by
 obtain⟨v,H',os,bare,un,hok,r,q⟩:=h
 obtain⟨hh,g,d,t,os'⟩:=s'
 obtain rfl:os'=s.os:=os
 exact⟨v,H',I.call (h':=hh) (g':=g) (d':=d) (t':=t) (ch:=[]) un hok bare (fun b z=>absurd z (by simp)),r,q⟩
end
def tCall (sp:Sp) (dvs:List V) (E:XK) (t:TA):TE:=fun σ H Q=>t σ H fun vs H1=>sp (vs++dvs) H1 Q E
def zaj7 (K:zbz8) (fd:FuncData) (ps:List Str) (ds:List Value):Prop:=
 ∀ (s:Shared) (us:List Value),K.In s.heap->(us++ds).length=ps.length->BindsTo s fd ⟨us,[]⟩ (ps.zip (us++ds))
theorem zaj7.all {K:zbz8}{fd:FuncData}{ps:List Str}(h:∀ us:List Value,us.length=ps.length->bindArgs fd ⟨us,[]⟩=pure (ps.zip us)):zaj7 K fd ps []:=fun s us _ hl=>by
 rw[List.append_nil] at hl ⊢
 exact .of_eq (h us hl)
def zaf3 (CX:CXT) (X:Cx) (E:XK):Prop:=∀ (pins:List (Addr×Obj)) (σ:St) (H:Hp) (s:Shared) (e:Value) (s':Shared),Inv X pins σ H s->CX X.stack H s E e s'->X.xe e s'
section
variable {X:Cx}{CX:CXT}{k:Nat}{f C:Addr}{fd:FuncData}{ps:List Str}{sp:Sp}{dvs:List V}{ds:List Value}{E:XK}{x m:Str}{p pos apos:Pos}{e o:Expr}{es:List Expr}{ta:TE}{t:TA}
theorem run_fn {pins:List (Addr×Obj)}{σ:St}{H:Hp}{s:Shared}{Q:VK}{us:List Value}{vs:List V}(F:FnOk X.prog X.w X.K X.mg X.base CX k f fd ps sp) (hr:Room k X.A) (hb:zaj7 X.K fd ps ds) (hd:Vals dvs ds) (hx:zaf3 CX X E)
  (I:Inv X pins σ H s) (r:Vals vs us) (h:sp (vs++dvs) H Q E):wpAny (model X.prog X.w) X.A (call (.ref f) us) (EP X pins σ Q) X.xe s:=by
 have r2:Vals (vs++dvs) (us++ds):=r.append hd
 have hl:(us++ds).length=ps.length:=by rw[← r2.length];exact F.len _ _ _ _ h
 refine wpAny_call (codeAny_mono (F.run X.A X.stack s H ⟨us,[]⟩ (us++ds) (vs++dvs) Q E hr I.env0 (hb s us I.kIn hl) r2 h) fun r s' hq=>?_)
 cases r with
 | error e=>exact hx pins σ H s e s' I hq
 | ok fl=>
  cases fl with
  | ret u=>exact I.after hq
  | next=>exact False.elim hq
  | brk=>exact False.elim hq
  | cont=>exact False.elim hq
theorem zbp7 (F:FnOk X.prog X.w X.K X.mg X.base CX k f fd ps sp) (hr:Room k X.A) (hg:Gl X x) (hm:X.mg x=some (.ref f)) (hk:zcb5 X.K (.ref f)=true) (hb:zaj7 X.K fd ps ds) (hd:Vals dvs ds) (hx:zaf3 CX X E)
  (ha:PA X (e :: es) t) (hdb:(x==("__debug__":Str))=false:=by decide) (he:starEach (e :: es) X.env=(false,eval e X.env) :: starEach es X.env:=by rfl) (hpl:(backTo pos (starEach es X.env)).any (·.1)=false:=by rfl) :
  PE X (.Call (.Name x p) (e :: es) [] pos) (tCall sp dvs E t):=by
 intro pins s σ H Q I h
 refine wpAny_Call_Name_kw (zac6 I hg hm ?_ hdb)
 refine PySem.W.callWith_K (h₀:=X.base) I.ok.mod.kin hk (thn (ha pos pins s σ H _ I h) fun us s1 ⟨vs,H1,I1,r,q⟩=>⟨I1.kIn,?_⟩) he hpl
 exact run_fn F hr hb hd hx I1 r q
end
section
variable {X:Cx}{CX:CXT}{k:Nat}{f C:Addr}{fd:FuncData}{ps ks:List Str}{sp:Sp}{E:XK}{x m:Str}{p pos apos kpos:Pos}{e o:Expr}{es:List Expr}{kws:List Keyword}{te ta:TE}{t tk:TA}{nm:Option Str}
variable {g:List Value->List Value->List Value}{gV:List V->List V->List V}
end
structure zb7 (N P:List Str) (sc:Scope):Prop where
 kind:sc.kind=.function
 co:sc.isCoroutine=false
 gen:sc.isGenerator=false
 nd:N.Nodup
 pre:N.take P.length=P
 par:∀ x∈P,sc.names.lookup x=some .local∨sc.names.lookup x=some .cell
 nofree:∀ y∈sc.names,y.2≠.free
theorem zam2 {kindOf:Str->Option NameKind}{x:Str}:∀ {binds:List (Str×Value)}{m:Str->Option Value},(∀ v,(x,v) ∉ binds)->bindL kindOf binds m x=m x
 | [],_,_=>rfl
 | (n,v) :: r,m,h=>by
  unfold bindL
  rw[zam2 fun w hw=>h w (zcd5 _ hw)]
  split
  ·have:x≠n:=by rintro rfl;exact h v zce8
   simp[this]
  ·rfl
theorem zak1 {kindOf:Str->Option NameKind}{x:Str}:∀ {binds:List (Str×Value)}{m:Str->Option Value},(∀ v,(x,v) ∉ binds)->bindC kindOf binds m x=m x
 | [],_,_=>rfl
 | (n,v) :: r,m,h=>by
  unfold bindC
  rw[zak1 fun w hw=>h w (zcd5 _ hw)]
  split
  ·rfl
  ·have:x≠n:=by rintro rfl;exact h v zce8
   simp[this]
theorem zal9 {kindOf:Str->Option NameKind}{x:Str}{v:Value}:∀ {P:List Str}{vs:List Value}{i:Nat}{m:Str->Option Value},P.Nodup->P[i]?=some x->vs[i]?=some v->kindOf x=some .local ->
  bindL kindOf (P.zip vs) m x=some v
 | [],_,_,_,_,h,_,_=>by simp at h
 | _ :: _,[],_,_,_,_,h,_=>by simp at h
 | p :: P,w :: vs,0,m,nd,h1,h2,hk=>by
  simp at h1 h2;subst h1;subst h2
  show bindL kindOf ((p,w) :: P.zip vs) m p=_
  unfold bindL
  rw[zam2 fun v hv=>(zcf1.mp nd).1 (List.of_mem_zip hv).1,if_pos hk]
  simp
 | p :: P,w :: vs,i+1,m,nd,h1,h2,hk=>by
  show bindL kindOf ((p,w) :: P.zip vs) m x=_
  unfold bindL
  exact zal9 (i:=i) (zcf1.mp nd).2 (by simpa using h1) (by simpa using h2) hk
theorem zaj1 {kindOf:Str->Option NameKind}{x:Str}{v:Value}:∀ {P:List Str}{vs:List Value}{i:Nat}{m:Str->Option Value},P.Nodup->P[i]?=some x->vs[i]?=some v->kindOf x≠some .local ->
  bindC kindOf (P.zip vs) m x=some v
 | [],_,_,_,_,h,_,_=>by simp at h
 | _ :: _,[],_,_,_,_,h,_=>by simp at h
 | p :: P,w :: vs,0,m,nd,h1,h2,hk=>by
  simp at h1 h2;subst h1;subst h2
  show bindC kindOf ((p,w) :: P.zip vs) m p=_
  unfold bindC
  rw[zak1 fun v hv=>(zcf1.mp nd).1 (List.of_mem_zip hv).1,if_neg hk]
  simp
 | p :: P,w :: vs,i+1,m,nd,h1,h2,hk=>by
  show bindC kindOf ((p,w) :: P.zip vs) m x=_
  unfold bindC
  exact zaj1 (i:=i) (zcf1.mp nd).2 (by simpa using h1) (by simpa using h2) hk
def zai9 (N:List Str) (vs:List V):St:=vs.map some++List.replicate (N.length - vs.length) none
def cxOf (CX:CXT) (P:Program) (w:World) (K:zbz8) (mg:Str->Option Value) (base:Heap) (N:List Str) (qual:Str) (scope:Scope) (f:Addr) (cd:Value) (A:Around) (outer:List Env) (s:Shared) (H:Hp) (E:XK):Cx where
 prog:=P
 w:=w
 K:=K
 mg:=mg
 base:=base
 A:=A.deeper (envOfC qual scope s.heap.objs.size f cd)
 N:=N
 s₀:=s
 H₀:=H
 env:=envOfC qual scope s.heap.objs.size f cd
 outer:=outer
 stack:=envOfC qual scope s.heap.objs.size f cd :: outer
 ex:=[]
 calm:=true
 fn:=fun _=>true
 pn:=[]
 xe:=fun e s'=>wpAny (model P w) (A.deeper (envOfC qual scope s.heap.objs.size f cd)) (leaving (envOfC qual scope s.heap.objs.size f cd) e) (fun _ s''=>CX outer H s E e s'') (fun e' s''=>CX outer H s E e' s'') s'
theorem zat9 {sc:Scope}{n:Nat}{x:Str}(h:sc.names.lookup x=some .cell):∃ c,(cellsFrom n sc.names []).lookup x=some c:=by
 have q:=PySem.W.cellsFrom_some sc.names n [] (.inl h)
 exact Option.isSome_iff_exists.mp q
theorem zba9 {CX:CXT}{P:Program}{w:World}{K:zbz8}{mg:Str->Option Value}{base:Heap}{N ps:List Str}{qual:Str}{scope:Scope}{f:Addr}{cd:Value}{A:Around}{outer:List Env}{s s1:Shared}{H:Hp}{E:XK}{us:List Value}{vs:List V}
  (S:zb7 N ps scope) (hd:A.handled=none) (e0:Env0 P w K mg base A outer s H) (hl:vs.length=ps.length) (r:Vals vs us)
  (x:InCallC s s.heap.objs.size (bindL (envOfC qual scope s.heap.objs.size f cd).kindOf (ps.zip us) fun _=>none) (cellsFrom (s.heap.objs.size+1) scope.names []) (bindC (envOfC qual scope s.heap.objs.size f cd).kindOf (ps.zip us) fun _=>none) s1) :
  Inv (cxOf CX P w K mg base N qual scope f cd A outer s H E) [] (zai9 N vs) H s1:=by
 have hpl:ps.length<=N.length:=by have:=congrArg List.length S.pre;rw[zcb8] at this;omega
 obtain⟨h1,tk,rfl,hk⟩:=x.done
 have noA:∀ b:Addr,b ∉ (cxOf CX P w K mg base N qual scope f cd A outer s H E).ex:=fun b z=>absurd (show b∈([]:List Addr) from z) (by simp)
 refine⟨⟨e0.mod,S.kind,rfl,rfl,zcb6 _,fun y z c h1 h2=>?_,fun y hy=>?_,fun y c _ h=>?_,fun _=>hd,Around.frames_deeper e0.frames,.inr ⟨rfl,rfl⟩,fun b z=>absurd z (noA b),e0.bs,e0.bsz,fun b _ _=>noA b,fun b z=>absurd z (noA b),e0.funs,e0.frf⟩,
  rfl,e0.bare,Un.kept hk,⟨_,x.toInCall.ns,fun i y v h1 h2 h3=>?_⟩,fun y c h=>⟨_,x.cell y c h⟩,e0.hok.fresh (zcb6 _),fun y c h=>?_,fun p hp=>absurd (show p∈([]:List (Addr×Obj)) from hp) (by simp),e0.hok.kept hk,?_⟩
 ·exact name_of_addr x.apart (PySem.mem_of_lookup h1) (PySem.mem_of_lookup h2)
 ·have hy:scope.names.lookup y=some .cell∨scope.names.lookup y=some .free:=hy
  rcases hy with hy|hy
  ·exact zat9 hy
  ·exact absurd rfl (S.nofree _ (PySem.mem_of_lookup hy))
 ·exact Nat.le_of_lt (x.above y c (PySem.mem_of_lookup h))
 ·have hi:i<vs.length:=by
   unfold zai9 at h2
   by_cases hi:i<vs.length
   ·exact hi
   ·rw[zcc2 (by simpa using hi)] at h2
    rw[List.getElem?_replicate] at h2
    split at h2<;>cases h2
  have ha:vs[i]?=some v:=by
   unfold zai9 at h2
   rw[zcc4 (by simpa using hi),zca1] at h2
   cases e:vs[i]? with
   | none=>rw[e] at h2;cases h2
   | some a=>rw[e] at h2;cases h2;rfl
  obtain⟨u,hu,rv⟩:=r.get ha
  have hp:ps[i]?=some y:=by
   rw[← S.pre,zcf9 (by omega)];exact h1
  have ndP:ps.Nodup:=by rw[← S.pre];exact S.nd.sublist (List.take_sublist _ _)
  refine⟨u,rv,?_⟩
  rcases S.par y (zca0 hp) with k|k
  ·exact .inl ⟨k,zal9 ndP hp hu k⟩
  ·obtain⟨c,e⟩:=zat9 (n:=s.heap.objs.size+1) k
   refine .inr ⟨.inl k,c,e,?_⟩
   have q:=x.cell y c e
   rw[zaj1 ndP hp hu (by show scope.names.lookup y≠_;rw[k];decide)] at q
   exact q
 ·exact e0.hok.fresh (Nat.le_of_lt (x.above y c (PySem.mem_of_lookup h)))
 ·unfold zai9
  show _=N.length
  rw[zca7,zbz7,List.length_replicate]
  omega
theorem fn_of {CX:CXT}{P:Program}{w:World}{K:zbz8}{mg:Str->Option Value}{base:Heap}{k:Nat}{f:Addr}{name qual:Str}{params:Arguments}{body:List Stmt}{scope:Scope}{dV kV doc pm cdv ct oc:Value}{an od:Option Addr}
  {osl:Array (Option Value)}{N ps:List Str}{sp:Sp}(lk:K.lookup f=some ⟨oc,od,.func (zcc1 name qual params body scope dV kV doc pm an cdv ct),osl⟩) (hcd:zcb9 K cdv qual=true) (S:zb7 N ps scope)
  (len:∀ vs H Q E,sp vs H Q E->vs.length=ps.length)
  (hbody:∀ (A:Around) (outer:List Env) (s:Shared) (H:Hp) (vs:List V) (Q:VK) (E:XK),Room k (A.deeper (envOfC qual scope s.heap.objs.size f cdv))->sp vs H Q E ->
   ∃ t,PSs (cxOf CX P w K mg base N qual scope f cdv A outer s H E) body t/\t { nx:=fun _ H'=>Q .non H',rt:=Q } (zai9 N vs) H) :
  FnOk P w K mg base CX (k+1) f (zcc1 name qual params body scope dV kV doc pm an cdv ct) ps sp:=by
 refine⟨len,fun A outer s H args us vs Q E hr e0 hb r hsp=>?_⟩
 have hl:=len _ _ _ _ hsp
 have KX:K.In s.heap:=e0.mod.kin.keeps fun b o e=>(e0.bs b o e).1
 have lim:s.heap.NoLimit:=e0.mod.nolimit.keeps fun b o e=>(e0.bs b o e).1
 have hkind:∀ y∈ps.zip us,scope.names.lookup y.1=some .local∨(scope.names.lookup y.1=some .cell/\((cellsFrom (s.heap.objs.size+1) scope.names []).lookup y.1).isSome=true):=fun ⟨n,v⟩ hy=>by
  rcases S.par n (List.of_mem_zip hy).1 with q|q
  ·exact .inl q
  ·exact .inr ⟨q,PySem.W.cellsFrom_some _ _ _ (.inl q)⟩
 refine codeAny_call_function hr.depth (KX _ _ lk) rfl S.co S.gen rfl (PySem.W.codeRec_of KX hcd) (hb _ _ _ _ ?_)
 refine wpAny_newFunctionEnv_cells S.kind hkind fun env he s1 x=>?_
 subst he
 refine⟨lim.keeps x.toInCall.keep,codeAny_func ?_⟩
 obtain⟨t,ht,hq⟩:=hbody A outer s H vs Q E (hr.deeper _) hsp
 have I:Inv (cxOf CX P w K mg base N qual scope f cdv A outer s H E) [] (zai9 N vs) H s1:=zba9 S hr.hd e0 hl r x
 refine wpAny_mono (ht [] s1 (zai9 N vs) H _ I hq) (fun fl s' hs=>?_) fun e s' hs=>hs
 have fin:∀ {σ':St}{H':Hp}{v:V}{u:Value},Inv (cxOf CX P w K mg base N qual scope f cdv A outer s H E) [] σ' H' s'->RelV v u->Q v H'->CE outer P w H s Q u s':=
  fun {σ' H' v u} J rv q=>⟨v,H',J.os,J.bare,J.base,J.hok,rv,q⟩
 cases fl with
 | ret u=>
  obtain⟨v,σ',H',J,rv,q⟩:=hs
  exact fin J rv q
 | next=>
  obtain⟨σ',H',J,q⟩:=hs
  exact fin (v:=V.non) (u:=Value.none) J rfl q
 | brk=>
  obtain⟨_,_,_,q⟩:=hs
  exact False.elim q
 | cont=>
  obtain⟨_,_,_,q⟩:=hs
  exact False.elim q
end L2
namespace L2
open PySem PySem.Spec PyProof.Rows
section
variable {X:Cx}{x:Str}{p pos:Pos}{e:Expr}{es:List Expr}{t:TA}{id T:String}{r:List V->Hp->VK->Prop}
def tCB (r:List V->Hp->VK->Prop) (t:TA):TE:=fun σ H Q=>t σ H fun vs H1=>r vs H1 Q
theorem zbj2 (hc:zn4 X (.builtin id) r) (hg:Gl X x) (hm:X.mg x=none) (hv:bootBuiltins x=some (.builtin id)) (ha:PA X (e :: es) t) (hn:x≠"__name__":=by decide) (hdb:(x==("__debug__":Str))=false:=by decide)
  (he:starEach (e :: es) X.env=(false,eval e X.env) :: starEach es X.env:=by rfl) (hpl:(backTo pos (starEach es X.env)).any (·.1)=false:=by rfl):PE X (.Call (.Name x p) (e :: es) [] pos) (tCB r t):=by
 intro pins s σ H Q I h
 refine wpAny_Call_Name_kw (zx9 I hg hm hv ?_ hn hdb)
 exact PyProof.Rows.callWith_builtin1 (thn (ha pos pins s σ H _ I h) fun us s1 ⟨vs,H1,I1,r1,q1⟩=>hc pins s1 σ H1 vs us Q I1 r1 q1) he hpl
theorem zbe5 (hc:zn4 X (.type T) r) (hg:Gl X x) (hm:X.mg x=none) (hv:bootBuiltins x=some (.type T)) (ha:PA X (e :: es) t) (hn:x≠"__name__":=by decide) (hdb:(x==("__debug__":Str))=false:=by decide)
  (he:starEach (e :: es) X.env=(false,eval e X.env) :: starEach es X.env:=by rfl) (hpl:(backTo pos (starEach es X.env)).any (·.1)=false:=by rfl):PE X (.Call (.Name x p) (e :: es) [] pos) (tCB r t):=by
 intro pins s σ H Q I h
 refine wpAny_Call_Name_kw (zx9 I hg hm hv ?_ hn hdb)
 exact PyProof.Rows.callWith_type1 (thn (ha pos pins s σ H _ I h) fun us s1 ⟨vs,H1,I1,r1,q1⟩=>hc pins s1 σ H1 vs us Q I1 r1 q1) he hpl
end
end L2
namespace HT
open PySem PyProof.Rows
section
open PySem.SeqAt
open PySem.AutoSeq1 (wpAny_loadPart')
open PySem.MeetsSeq PySem.MeetsSeq2 PySem.MeetsSeq3
end
section
variable {prog:Program}{w:World}{A:Around}{E:Value->Shared->Prop}{s:Shared}
def sIx (n d:Nat):Option Int->Nat
 | none=>d
 | some v=>if v<0 then (v+(n:Int)).toNat else min v.toNat n
theorem sIx_le (n d:Nat) (hd:d<=n) (o:Option Int):sIx n d o<=n:=by
 cases o with
 | none=>exact hd
 | some v=>
  show (if v<0 then (v+(n:Int)).toNat else min v.toNat n)<=n
  by_cases hv:v<0
  ·rw[if_pos hv];omega
  ·rw[if_neg hv];exact Nat.min_le_right _ _
theorem zay3 (v:Int) (n d:Nat):(if v<0 then max (v+(n:Int)) 0 else min v (n:Int))=((sIx n d (some v):Nat):Int):=by
 show (if v<0 then max (v+(n:Int)) 0 else min v (n:Int))=(((if v<0 then (v+(n:Int)).toNat else min v.toNat n):Nat):Int)
 by_cases hv:v<0
 ·simp only[if_pos hv];omega
 ·simp only[if_neg hv];omega
theorem zaw8 (lo hi:Option Int) (n:Nat):Builtin.Slice.sliceAdjust lo hi 1 (n:Int)=(((sIx n 0 lo:Nat):Int),((sIx n n hi:Nat):Int)):=by
 have h1:¬ ((1:Int)<0):=by omega
 unfold Builtin.Slice.sliceAdjust
 simp only[h1,if_false]
 refine Prod.ext ?_ ?_
 ·cases lo with
  | none=>rfl
  | some v=>exact zay3 v n 0
 ·cases hi with
  | none=>rfl
  | some v=>exact zay3 v n n
theorem zau2 (i j:Nat):Builtin.Slice.slicePlaces (i:Int) (j:Int) 1=j - i:=by
 unfold Builtin.Slice.slicePlaces
 have h1:(1:Int)>0:=by omega
 simp only[h1,if_true,Int.ediv_one]
 split<;>omega
theorem zae5 {v:Value}{o:Option Int}{Q:Option Int->Shared->Prop}(p:IsPart v o) (h:Q o s):wpAny (model prog w) A (Builtin.Slice.slicePartIndex v) Q E s:=by
 cases p with
 | none=>exact slicePart_none h
 | int i t=>exact slicePart_int h
theorem zy7 {sl:Addr}{vl vu:Value}{lo hi:Option Int}{n:Nat}{Q:Int×Int×Nat->Shared->Prop}(hs:s.heap.IsSliceOf sl vl vu .none) (pl:IsPart vl lo) (pu:IsPart vu hi)
  (h:Q (((sIx n 0 lo:Nat):Int),1,sIx n n hi - sIx n 0 lo) s):wpAny (model prog w) A (Builtin.Slice.sliceApplied (.ref sl) (pure (n:Int))) Q E s:=by
 obtain⟨os,hos,hcs,hds⟩:=id hs
 unfold Builtin.Slice.sliceApplied Builtin.Slice.sliceFields
 refine wpAny_bind (wpAny_bind (wpAny_field hos hds (x:=vl) rfl (wpAny_bind (wpAny_field hos hds (x:=vu) rfl (wpAny_bind (wpAny_field hos hds (x:=.none) rfl (wpAny_pure ?_)))))))
 refine wpAny_bind (slicePart_none ?_)
 show wpAny _ _ (if ((1:Int)==0)=true then _ else _) _ _ s
 rw[if_neg (by decide)]
 refine wpAny_bind (zae5 pl (wpAny_bind (zae5 pu (wpAny_bind (wpAny_pure ?_)))))
 show wpAny _ _ (match Builtin.Slice.sliceAdjust lo hi 1 (n:Int) with|(lo,hi)=>pure (lo,(1:Int),Builtin.Slice.slicePlaces lo hi 1)) _ _ s
 rw[zaw8 lo hi n]
 show wpAny _ _ (pure (((sIx n 0 lo:Nat):Int),(1:Int),Builtin.Slice.slicePlaces ((sIx n 0 lo:Nat):Int) ((sIx n n hi:Nat):Int) 1)) _ _ s
 rw[zau2]
 exact wpAny_pure h
theorem zbg3 (xs:Array Value) (i k:Nat):((List.range k).filterMap fun (m:Nat)=>xs[((i:Int)+(m:Int)*1).toNat]?).toArray=((xs.toList.drop i).take k).toArray:=by
 have e:(fun (m:Nat)=>xs[((i:Int)+(m:Int)*1).toNat]?)=fun m=>xs[i+m]?:=by
  funext m
  have:((i:Int)+(m:Int)*1).toNat=i+m:=by omega
  rw[this]
 rw[e]
 have:=pick_run xs i k
 rw[List.filterMap_map] at this
 have e2:((fun x=>xs[x]?)∘fun x=>i+x)=fun m=>xs[i+m]?:=rfl
 rw[e2] at this
 rw[this]
theorem getItem_tuple_cut {t sl:Addr}{items:Array Value}{vl vu:Value}{lo hi:Option Int}{Q:Value->Shared->Prop}(ht:IsTup s.heap t items) (hs:s.heap.IsSliceOf sl vl vu .none) (pl:IsPart vl lo) (pu:IsPart vu hi)
  (hw:¬ (sIx items.size 0 lo=0/\sIx items.size items.size hi=items.size))
  (h:Q (.ref s.heap.objs.size) { s with heap:=s.heap.push { cls:=.type "tuple",data:=.seq ((items.toList.drop (sIx items.size 0 lo)).take (sIx items.size items.size hi - sIx items.size 0 lo)).toArray } })
  (hsz:items.size<=sizeLine):wpAny (model prog w) A (getItem (.ref t) (.ref sl)) Q E s:=by
 have htake:sizeOk (.seq ((items.toList.drop (sIx items.size 0 lo)).take (sIx items.size items.size hi - sIx items.size 0 lo)).toArray):=by
  show ((items.toList.drop (sIx items.size 0 lo)).take (sIx items.size items.size hi - sIx items.size 0 lo)).toArray.size<=sizeLine
  rw[zca4,zcb8,zcd2,Array.length_toList]
  omega
 have hj:sIx items.size items.size hi<=items.size:=sIx_le _ _ (zcb6 _) hi
 obtain⟨os,hos,hcs,hds⟩:=id hs
 have hTs:s.TypeIs (.ref sl) "slice":=⟨os,hos,hcs⟩
 unfold getItem
 try with_reducible refine wpAny_holding ?_
 first|refine wpAny_bind (wpAny_pure ?_)|skip
 refine wpAny_bind (wpAny_sequenceKey ht.typeIs (by decide) ?_)
 refine wpAny_bind (wpAny_callSpecial?_slot (name:=Str.ofString "__getitem__") ht.typeIs PyProof.Rows.slot_tuple_getitem
  (wpAny_call_entry PyProof.Rows.slot_tuple_getitem ht.typeIs entry_tuple_getitem ?_ (args_tuple_getitem _ _)))
 show wpAny _ _ (Builtin.Tuple.tupleItemsOf (.ref t) >>= _) _ _ s
 refine wpAny_bind (tupleItemsOf_ ht ?_)
 refine wpAny_bind (wpAny_typeOf hTs ?_)
 rw[if_pos (by decide)]
 refine wpAny_bind (zy7 hs pl pu ?_)
 have hno:¬ ((((sIx items.size 0 lo:Nat):Int)==0&&(1:Int)==1&&(sIx items.size items.size hi - sIx items.size 0 lo)==items.size)=true):=by
  intro q
  rw[zcb1,zcb1] at q
  have q1:((sIx items.size 0 lo:Nat):Int)=0:=eq_of_beq q.1.1
  have q2:sIx items.size items.size hi - sIx items.size 0 lo=items.size:=eq_of_beq q.2
  exact hw ⟨by omega,by omega⟩
 show wpAny _ _ (if (((sIx items.size 0 lo:Nat):Int)==0&&(1:Int)==1&&(sIx items.size items.size hi - sIx items.size 0 lo)==items.size)=true then _ else _) _ _ s
 rw[if_neg hno,zbg3]
 first
  | exact wpAny_bind (m:=Builtin.Tuple.tupleExact _) (wpAny_newObj_type (wpAny_pure ⟨_,rfl,wpAny_pure h⟩) htake)
  | exact wpAny_bind (m:=Builtin.Tuple.tupleExact _) (wpAny_newObj_type (wpAny_bind (wpAny_pure (wpAny_pure ⟨_,rfl,wpAny_pure h⟩))) htake)
  | exact wpAny_bind (wpAny_bind (m:=Builtin.Tuple.tupleExact _) (wpAny_newObj_type (wpAny_pure (wpAny_pure ⟨_,rfl,wpAny_pure h⟩)) htake))
  | exact wpAny_bind (wpAny_bind (m:=Builtin.Tuple.tupleExact _) (wpAny_newObj_type (wpAny_pure ⟨_,rfl,wpAny_pure h⟩) htake))
end
end HT
namespace L2
open PySem PySem.Spec PyProof.Rows
abbrev TO:=St->Hp->(Option Int->Hp->Prop)->Prop
def PO (X:Cx) (e:Option Expr) (t:TO):Prop:=
 ∀ (pins:List (Addr×Obj)) (s:Shared) (σ:St) (H:Hp) (Q:Option Int->Hp->Prop),Inv X pins σ H s->t σ H Q ->
  wpAny (model X.prog X.w) X.A (evalPart e X.env) (fun u s'=>∃ o H',Inv X pins σ H' s'/\IsPart u o/\Q o H') X.xe s
def zbs6:TO:=fun _ H Q=>Q none H
theorem zau6 {ns:List Int}:∀ {us:List Value},Vals (ns.map V.int) us->IntsAre us ns:=by
 induction ns with
 | nil=>intro us r;rw[List.map_nil] at r;cases r;exact .nil
 | cons n ns ih=>
  intro us r
  rw[zcd9] at r
  cases r with
  | cons r1 r2=>
   obtain⟨t,e⟩:=r1
   subst e
   exact .cons n t (ih r2)
section
variable {X:Cx}{e:Expr}{te:TE}{lo hi:Option Expr}{tl th:TO}{pos p2:Pos}
theorem zj9:PO X none zbs6:=by
 intro pins s σ H Q I h
 rw[evalPart_none]
 exact wpAny_pure ⟨none,H,I,.none,h⟩
def SlR (X:Cx) (r:V->Option Int->Option Int->Hp->VK->Prop):Prop:=
 ∀ (pins:List (Addr×Obj)) (s:Shared) (σ:St) (H:Hp) (x:V) (v vl vu:Value) (lo hi:Option Int) (sl:Addr) (Q:VK),Inv X pins σ H s->RelV x v->s.heap.IsSliceOf sl vl vu .none->IsPart vl lo->IsPart vu hi->r x lo hi H Q ->
  ∃ T id,typeLookup (.type T) "__getitem__"=pure (some (.builtin id))/\s.TypeIs v T/\wpAny (model X.prog X.w) X.A (getItem v (.ref sl)) (EP X pins σ Q) X.xe s
def tSl (r:V->Option Int->Option Int->Hp->VK->Prop) (te:TE) (tl th:TO):TE:=fun σ H Q=>te σ H fun x H1=>tl σ H1 fun l H2=>th σ H2 fun u H3=>r x l u H3 Q
theorem zh3 {r:V->Option Int->Option Int->Hp->VK->Prop}(hr:SlR X r) (he:PE X e te) (hl:PO X lo tl) (hu:PO X hi th):PE X (.Subscript e (.Slice lo hi none p2) pos) (tSl r te tl th):=by
 intro pins s σ H Q I h
 refine Subscript_ (thn (he pins s σ H _ I h) fun v s1 ⟨x,H1,I1,r1,q1⟩=>?_)
 refine wpAny_Slice (thn (hl pins s1 σ H1 _ I1 q1) fun vl s2 ⟨l,H2,I2,pl,q2⟩=>thn (hu pins s2 σ H2 _ I2 q2) fun vu s3 ⟨u,H3,I3,pu,q3⟩=>?_)
 rw[evalPart_none]
 refine wpAny_pure ?_
 have I4:Inv X pins σ H3 { s3 with heap:=s3.heap.push { cls:=.type "slice",data:=.fields #[vl,vu,.none] } }:=I3.kept (t':=s3.toks) fun b ob q=>zca8 _ q
 obtain⟨T,id,hT,ht,hg⟩:=hr pins { s3 with heap:=s3.heap.push { cls:=.type "slice",data:=.fields #[vl,vu,.none] } } σ H3 x v vl vu l u s3.heap.objs.size Q I4 r1 (Heap.IsSliceOf.new ..) pl pu q3
 show wpAny (model X.prog X.w) X.A (subscriptTail e (.Slice lo hi none p2) v (.ref s3.heap.objs.size)) (EP X pins σ Q) X.xe { s3 with heap:=s3.heap.push { cls:=.type "slice",data:=.fields #[vl,vu,.none] } }
 exact tail_any (ops:=[.ref s3.heap.objs.size,v]) ht hT hg (by with_unfolding_all rfl)
def cutV (xs:List V) (lo hi:Option Int):List V:=(xs.drop (HT.sIx xs.length 0 lo)).take (HT.sIx xs.length xs.length hi - HT.sIx xs.length 0 lo)
theorem zad4 (xs:List V) (lo hi:Option Int):(cutV xs lo hi).length<=xs.length:=by
 unfold cutV
 rw[zcb8,zcd2]
 omega
def rSlT (K:zbz8):V->Option Int->Option Int->Hp->VK->Prop:=fun x lo hi H Q=>∃ a xs,x=.ref a/\SqT K H a xs /\
 ¬ (HT.sIx xs.length 0 lo=0/\HT.sIx xs.length xs.length hi=xs.length)/\∀ p,H p=none->Q (.ref p) (upd H p (.tup (cutV xs lo hi)))
theorem sl_tup:SlR X (rSlT X.K):=by
 intro pins s σ H x v vl vu lo hi sl Q I rx hs pl pu h
 obtain⟨a,xs,rfl,hx,hw,q⟩:=h
 cases rx
 obtain⟨its,r,ht,hz⟩:=I.tuple hx
 have hlen:its.toArray.size=xs.length:=by rw[zca4];exact r.length.symm
 refine⟨"tuple",_,PyProof.Rows.slot_tuple_getitem.lookup,ht.typeIs,?_⟩
 refine HT.getItem_tuple_cut ht hs pl pu (by rw[hlen];exact hw) ?_ (by rw[hlen];exact hz)
 rw[hlen]
 refine⟨.ref s.heap.objs.size,_,I.laid (t':=s.toks) (o:=.tup (cutV xs lo hi)) (fun b ob q=>zca8 _ q) (zcb6 _) ?_,rfl,q _ (I.hok.fresh (zcb6 _))⟩
 exact⟨zce6 (zad4 xs lo hi) hz,_,(r.drop (HT.sIx xs.length 0 lo)).take (HT.sIx xs.length xs.length hi - HT.sIx xs.length 0 lo),IsTup.new _ _⟩
end
end L2
namespace L2
open PySem PySem.Spec PyProof.Rows
def ixN (n:Nat) (i:Int):Option Nat:=if 0<=i then (if i<n then some i.toNat else none) else if -(n:Int)<=i then some (i+n).toNat else none
def atI {α:Type}(xs:List α) (i:Int):Option α:=(ixN xs.length i).bind fun j=>xs[j]?
theorem zbe8 {n:Nat}{i:Int}{j:Nat}(h:ixN n i=some j):seqIndex? i n=some j/\j<n/\-(n:Int)<=i/\i<n:=by
 unfold ixN at h
 by_cases h0:0<=i
 ·rw[if_pos h0] at h
  by_cases h1:i<n
  ·rw[if_pos h1] at h
   have e:i.toNat=j:=Option.some.inj h
   exact⟨by rw[seqIndex_of h0 h1,e],by omega,by omega,h1⟩
  ·rw[if_neg h1] at h;cases h
 ·rw[if_neg h0] at h
  by_cases h1:-(n:Int)<=i
  ·rw[if_pos h1] at h
   have e:(i+n).toNat=j:=Option.some.inj h
   exact⟨by rw[seqIndex_neg (by omega) h1,e],by omega,h1,by omega⟩
  ·rw[if_neg h1] at h;cases h
theorem zap8 {α:Type}{xs:List α}{i:Int}{v:α}(h:atI xs i=some v):∃ j,seqIndex? i xs.length=some j/\xs[j]?=some v/\j<xs.length/\-(xs.length:Int)<=i/\i<xs.length:=by
 unfold atI at h
 cases e:ixN xs.length i with
 | none=>rw[e] at h;cases h
 | some j=>
  rw[e] at h
  obtain⟨h1,h2,h3,h4⟩:=zbe8 e
  exact⟨j,h1,h,h2,h3,h4⟩
theorem zi4 {α:Type}{xs:List α}{j:Nat}{v:α}(h:xs[j]?=some v):atI xs (j:Int)=some v:=by
 have hj:j<xs.length:=(zbz9.mp h).1
 have e:ixN xs.length (j:Int)=some j:=by
  unfold ixN
  rw[if_pos (by omega),if_pos (by omega)];simp
 unfold atI;rw[e];exact h
def zaq3 (b:Expr):Prop:=∀ o i,subscripted b false o i=operate [o,i] (getItem o i)
def IxR (X:Cx) (r:R2):Prop:=
 ∀ (value slice:Expr) (pins:List (Addr×Obj)) (s:Shared) (σ:St) (H:Hp) (x y:V) (v u:Value) (Q:VK),Inv X pins σ H s->RelV x v->RelV y u->r x y H Q ->
  subscripted slice false v u=operate [v,u] (getItem v u)->wpAny (model X.prog X.w) X.A (subscriptTail value slice v u) (EP X pins σ Q) X.xe s
def MtR (X:Cx) (id:String) (r:V->List V->Hp->VK->Prop):Prop:=
 ∀ (pins:List (Addr×Obj)) (s:Shared) (σ:St) (H:Hp) (x:V) (xs:List V) (v:Value) (us:List Value) (Q:VK),Inv X pins σ H s->RelV x v->Vals xs us->r x xs H Q ->
  wpAny (model X.prog X.w) X.A (call (.builtin id) (v :: us)) (EP X pins σ Q) X.xe s
section
variable {X:Cx}{a b:Expr}{ta tb:TE}{pos:Pos}
theorem pe_ix {r:R2}(hr:IxR X r) (ha:PE X a ta) (hb:PE X b tb) (hs:zaq3 b):PE X (.Subscript a b pos) (tOp r ta tb):=by
 intro pins s σ H Q I h
 exact Subscript_ (binT ha hb I h fun v u s2 x y H2 I2 rx ry q=>hr a b pins s2 σ H2 x y v u Q I2 rx ry q (hs _ _))
def rIxL (K:zbz8):R2:=fun x y H Q=>∃ p xs i v,x=.ref p/\y=.int i/\SqL K H p xs/\atI xs i=some v/\Q v H
def rIxT (K:zbz8):R2:=fun x y H Q=>∃ p xs i v,x=.ref p/\y=.int i/\SqT K H p xs/\atI xs i=some v/\Q v H
def rIxS:R2:=fun x y H Q=>∃ z i c,x=.str z/\y=.int i/\z.length<=sizeLine/\atI z.cps.toList i=some c/\Q (.str ⟨#[c]⟩) H
theorem zbq2:IxR X (rIxL X.K):=by
 intro value slice pins s σ H x y v u Q I rx ry h hs
 obtain⟨p,xs,i,z,rfl,rfl,hq,he,q⟩:=h
 cases rx
 obtain⟨t,rfl⟩:=ry
 obtain⟨its,r,pl,hz⟩:=I.list hq
 obtain⟨j,h1,h2,h3,h4,h5⟩:=zap8 he
 obtain⟨w,ew,rw'⟩:=r.get h2
 have hl:=r.length
 have hn:=zab8
 have fin:EP X pins σ Q w s:=⟨z,H,I,rw',q⟩
 by_cases h0:0<=i
 ·have hj:i.toNat=j:=by
   rw[seqIndex_of h0 h5] at h1
   exact Option.some.inj h1
  exact item_listR pl.isList h0 (by omega) (by rw[hj];simpa using ew) fin hs
 ·have hj:(i+(its.toArray.size:Int)).toNat=j:=by
   rw[seqIndex_neg (by omega) h4] at h1
   rw[zca4,← hl]
   exact Option.some.inj h1
  exact subscriptTail_builtinR (x:=w) pl.isList.typeIs slot_list_getitem.lookup
   (wpAny_getItem_list_neg (Q:=fun r s'=>r=w/\EP X pins σ Q r s') pl.isList (by omega) (by rw[zca4]<;>omega) (by omega) (by rw[hj];simpa using ew) ⟨rfl,fin⟩) hs
theorem ix_tup:IxR X (rIxT X.K):=by
 intro value slice pins s σ H x y v u Q I rx ry h hs
 obtain⟨p,xs,i,z,rfl,rfl,hq,he,q⟩:=h
 cases rx
 obtain⟨t,rfl⟩:=ry
 obtain⟨its,r,pl,hz⟩:=I.tuple hq
 obtain⟨j,h1,h2,h3,h4,h5⟩:=zap8 he
 obtain⟨w,ew,rw'⟩:=r.get h2
 have hl:=r.length
 have hn:=zab8
 have fin:EP X pins σ Q w s:=⟨z,H,I,rw',q⟩
 exact subscriptTail_builtinR (x:=w) pl.typeIs slot_tuple_getitem.lookup
  (getItem_tuple (j:=j) (Q:=fun r s'=>r=w/\EP X pins σ Q r s') pl (by omega) (by omega) (by rw[zca4,← hl];exact h1) (by simpa using ew) ⟨rfl,fin⟩) hs
theorem ix_str:IxR X rIxS:=by
 intro value slice pins s σ H x y v u Q I rx ry h hs
 obtain⟨z,i,c,rfl,rfl,hz,he,q⟩:=h
 obtain⟨t,rfl⟩:=rx
 obtain⟨t',rfl⟩:=ry
 obtain⟨j,h1,h2,h3,h4,h5⟩:=zap8 he
 have hl:z.cps.toList.length=z.length:=by simp[Str.length]
 rw[hl] at h1 h4 h5
 have hn:=zab8
 exact tail_any (typeIs_str s z t) slot_str_getitem.lookup (getItem_str (c:=c) (by
  have e1:decide (i < -(2 ^ 63:Int))=false:=decide_eq_false (by omega)
  have e2:decide (i≥2 ^ 63)=false:=decide_eq_false (by omega)
  rw[e1,e2,Bool.or_false]) (by rw[h1];simpa using h2) ⟨.str ⟨#[c]⟩,H,I.tok _,⟨_,rfl⟩,q⟩) hs
theorem zau3 (its:List Value) (n j:Nat) (u:Value):Obj.mapSeq (·.setIfInBounds j u) { cls:=.type "list",data:=.seq its.toArray n }={ cls:=.type "list",data:=.seq (its.set j u).toArray n }:=by
 simp[Obj.mapSeq]
theorem Inv.lst {pins:List (Addr×Obj)}{σ:St}{H:Hp}{s:Shared}{p:Addr}{xs:List V}(I:Inv X pins σ H s) (h:H p=some (.lst xs)) :
  ∃ (its:List Value) (n:Nat),Vals xs its/\s.heap.get? p=some { cls:=.type "list",data:=.seq its.toArray n }/\xs.length<=sizeLine:=by
 obtain⟨z,its,n,r,e⟩:=I.hok p _ h
 exact⟨its,n,r,e,z⟩
theorem Inv.lstUpd {pins:List (Addr×Obj)}{σ:St}{H:Hp}{s:Shared}{p:Addr}{xs ys:List V}{its its':List Value}{n n':Nat}{f:Obj->Obj}(I:Inv X pins σ H s) (h:H p=some (.lst xs))
  (ho:s.heap.get? p=some { cls:=.type "list",data:=.seq its.toArray n }) (hf:f { cls:=.type "list",data:=.seq its.toArray n }={ cls:=.type "list",data:=.seq its'.toArray n' }) (r:Vals ys its') (hz:ys.length<=sizeLine) (t:Nat) :
  Inv X pins σ (upd H p (.lst ys)) { s with heap:=s.heap.update p f,toks:=t }:=by
 have e:(s.heap.update p f).get? p=some { cls:=.type "list",data:=.seq its'.toArray n' }:=by
  rw[zcf8 f ho (by rw[hf]<;>rfl),hf]
 refine I.write (x:=p) (e:=p) (by rw[h];trivial) (.inl rfl) (fun b u hb q=>(zcc9 _ _ (Ne.symm hb)).trans q) ⟨_,e⟩ ?_
 exact⟨hz,its',n',r,e⟩
def rSetL:V->V->V->Hp->(Hp->Prop)->Prop:=fun o i v H Q=>∃ p xs k j,o=.ref p/\i=.int k/\H p=some (.lst xs)/\ixN xs.length k=some j/\Q (upd H p (.lst (xs.set j v)))
theorem zbk2:PSet X rSetL:=by
 intro pins s σ H o i v ov iv u Q I ro ri rv h
 obtain⟨p,xs,k,j,rfl,rfl,hp,hj,q⟩:=h
 cases ro
 obtain⟨t,rfl⟩:=ri
 obtain⟨its,n,r,ho,hz⟩:=I.lst hp
 obtain⟨h1,h2,h3,h4⟩:=zbe8 hj
 have hl:=r.length
 have hn:=zab8
 have I':Inv X pins σ (upd H p (.lst (xs.set j v))) { s with heap:=s.heap.update p (Obj.mapSeq (·.setIfInBounds j u)) }:=
  I.lstUpd hp ho (zau3 its n j u) (r.set rv j) (by rw[zcg8];exact hz) s.toks
 by_cases h0:0<=k
 ·have hk:k.toNat=j:=by
   rw[seqIndex_of h0 h4] at h1
   exact Option.some.inj h1
  exact PySem.W.ki_setAt ho h0 (by omega) (by rw[zca4,← hl];exact h4) (by rw[hk];exact⟨_,I',q⟩)
 ·have hk:(k+(its.toArray.size:Int)).toNat=j:=by
   rw[seqIndex_neg (by omega) h3] at h1
   rw[zca4,← hl]
   exact Option.some.inj h1
  exact PySem.W.ki_setBack ho (by omega) (by rw[zca4,← hl];exact h3) (by omega) (by rw[hk];exact⟨_,I',q⟩)
theorem zaj4 (lo hi:Option Int) (n:Nat):(sliceBounds lo hi none n).1=((HT.sIx n 0 lo:Nat):Int)/\(sliceBounds lo hi none n).2.1=((HT.sIx n n hi:Nat):Int)/\(sliceBounds lo hi none n).2.2=1:=by
 refine⟨?_,?_,rfl⟩
 ·cases lo with
  | none=>simp[sliceBounds,HT.sIx]
  | some i=>
   simp only[sliceBounds,HT.sIx,Option.getD_none,show (1:Int)>0 by decide,if_true]
   by_cases h:i<0
   ·simp only[h,if_true]<;>omega
   ·simp only[h,if_false]<;>omega
 ·cases hi with
  | none=>simp[sliceBounds,HT.sIx]
  | some i=>
   simp only[sliceBounds,HT.sIx,Option.getD_none,show (1:Int)>0 by decide,if_true]
   by_cases h:i<0
   ·simp only[h,if_true]<;>omega
   ·simp only[h,if_false]<;>omega
theorem zai1 (its:List Value) (lo hi:Option Int):slicePick its.toArray lo hi none=((its.drop (HT.sIx its.length 0 lo)).take (HT.sIx its.length its.length hi - HT.sIx its.length 0 lo)).toArray:=by
 obtain⟨h1,h2,h3⟩:=zaj4 lo hi its.toArray.size
 unfold slicePick
 rw[h1,h2,h3]
 simp only[sliceRange_one,pick_run,zca4]<;>rfl
def rSlL (K:zbz8):V->Option Int->Option Int->Hp->VK->Prop:=fun x lo hi H Q=>∃ a xs,x=.ref a/\SqL K H a xs/\∀ p,H p=none->Q (.ref p) (upd H p (.lst (cutV xs lo hi)))
theorem zbp3:SlR X (rSlL X.K):=by
 intro pins s σ H x v vl vu lo hi sl Q I rx hs pl pu h
 obtain⟨a,xs,rfl,hx,q⟩:=h
 cases rx
 obtain⟨its,r,ht,hz⟩:=I.list hx
 have hlen:=r.length
 refine⟨"list",_,slot_list_getitem.lookup,ht.isList.typeIs,?_⟩
 refine wpAny_getItem_list_slice ht.isList hs pl pu .none (by simp) ?_ (by rw[zca4]<;>omega)
 rw[zai1,← hlen]
 refine⟨.ref s.heap.objs.size,_,I.laid (t':=s.toks) (o:=.lst (cutV xs lo hi)) (fun b ob q=>zca8 _ q) (zcb6 _) ?_,rfl,q _ (I.hok.fresh (zcb6 _))⟩
 exact⟨zce6 (zad4 xs lo hi) hz,_,0,(r.drop (HT.sIx xs.length 0 lo)).take (HT.sIx xs.length xs.length hi - HT.sIx xs.length 0 lo),zcd1 _ rfl⟩
def zk9:V->Bool
 | .non=>true
 | .bl _=>true
 | .int _=>true
 | .str _=>true
 | _=>false
def eqV:V->V->Bool
 | .non,.non=>true
 | .bl a,.bl b=>a==b
 | .bl a,.int b=>(if a then 1 else 0)==b
 | .int a,.bl b=>a==(if b then 1 else 0)
 | .int a,.int b=>a==b
 | .str a,.str b=>a==b
 | _,_=>false
theorem zbb6 {A:Around}{s:Shared}{y x:V}{u v:Value}(ry:RelV y u) (rx:RelV x v) (fy:zk9 y=true) (fx:zk9 x=true):SeqAt.EqAt A s u v (eqV y x):=by
 cases y with
 | non=>
  cases ry
  cases x with
  | non=>cases rx;exact SeqAt.EqAt.same _
  | bl b=>cases rx;exact SeqAt.EqAt.none_bool b
  | int b=>obtain⟨t,rfl⟩:=rx;exact SeqAt.EqAt.none_int b t
  | str b=>obtain⟨t,rfl⟩:=rx;exact SeqAt.EqAt.none_str b t
  | _=>exact absurd (show false=true from fx) zca5
 | bl a=>
  cases ry
  cases x with
  | non=>cases rx;exact SeqAt.EqAt.bool_none a
  | bl b=>cases rx;exact SeqAt.EqAt.bool_bool a b
  | int b=>obtain⟨t,rfl⟩:=rx;exact SeqAt.EqAt.bool_int a b t
  | str b=>obtain⟨t,rfl⟩:=rx;exact SeqAt.EqAt.bool_str a b t
  | _=>exact absurd (show false=true from fx) zca5
 | int a=>
  obtain⟨t',rfl⟩:=ry
  cases x with
  | non=>cases rx;exact SeqAt.EqAt.int_none a t'
  | bl b=>cases rx;exact SeqAt.EqAt.int_bool a t' b
  | int b=>obtain⟨t,rfl⟩:=rx;exact SeqAt.EqAt.int_int a t' b t
  | str b=>obtain⟨t,rfl⟩:=rx;exact SeqAt.EqAt.int_str a t' b t
  | _=>exact absurd (show false=true from fx) zca5
 | str a=>
  obtain⟨t',rfl⟩:=ry
  cases x with
  | non=>cases rx;exact SeqAt.EqAt.str_none a t'
  | bl b=>cases rx;exact SeqAt.EqAt.str_bool a t' b
  | int b=>obtain⟨t,rfl⟩:=rx;exact SeqAt.EqAt.str_int a t' b t
  | str b=>obtain⟨t,rfl⟩:=rx;exact SeqAt.EqAt.str_str a t' b t
  | _=>exact absurd (show false=true from fx) zca5
 | _=>exact absurd (show false=true from fy) zca5
def eqU (x:V) (u:Value):Bool:=match u with
 | .none=>eqV .non x
 | .bool b=>eqV (.bl b) x
 | .int i _=>eqV (.int i) x
 | .str z _=>eqV (.str z) x
 | _=>false
theorem zar5 {x y:V}{u:Value}(r:RelV y u) (f:zk9 y=true):eqU x u=eqV y x:=by
 cases y with
 | non=>cases r;rfl
 | bl b=>cases r;rfl
 | int i=>obtain⟨t,rfl⟩:=r;rfl
 | str z=>obtain⟨t,rfl⟩:=r;rfl
 | _=>exact absurd (show false=true from f) zca5
theorem zaq8 {x:V}:∀ {xs:List V}{us:List Value},Vals xs us->xs.all zk9=true->us.any (eqU x)=xs.any fun y=>eqV y x
 | _,_,.nil,_=>rfl
 | y :: xs,u :: us,.cons r t,f=>by
  rw[List.all_cons,zcb1] at f
  rw[List.any_cons,List.any_cons,zar5 r f.1,zaq8 t f.2]
theorem zv2 {A:Around}{s:Shared}{x:V}{v:Value}(rx:RelV x v) (fx:zk9 x=true):∀ {xs:List V}{us:List Value},Vals xs us->xs.all zk9=true->∀ u∈us,SeqAt.EqAt A s u v (eqU x u)
 | _,_,.nil,_=>fun u hu=>by cases hu
 | y :: xs,u :: us,.cons r t,f=>fun u' hu=>by
  rw[List.all_cons,zcb1] at f
  rcases zcb3.mp hu with rfl|hu
  ·rw[zar5 r f.1];exact zbb6 r rx f.1 fx
  ·exact zv2 rx fx t f.2 u' hu
def inV (x:V) (xs:List V):Bool:=xs.any fun y=>eqV y x
def rIn (K:zbz8) (neg:Bool):R2:=fun x y H Q=>∃ p xs,y=.ref p/\(SqL K H p xs∨SqT K H p xs)/\zk9 x=true/\xs.all zk9=true/\Q (.bl (if neg then !inV x xs else inV x xs)) H
theorem zbe0:OpR X (compareOp .In) (rIn X.K false):=by
 intro pins s σ H x y v u Q I rx ry h
 obtain⟨p,xs,rfl,hq,fx,fs,q⟩:=h
 cases ry
 rcases hq with hq|hq
 ·obtain⟨its,r,pl,hz⟩:=I.list hq
  refine SeqAt.in_listAt (eqU x) pl.isList (fun w hw=>zv2 rx fx r fs w (by simpa using hw)) ⟨.bl _,H,I,rfl,?_⟩
  rw[show its.toArray.any (eqU x)=its.any (eqU x) by simp,zaq8 r fs]
  exact q
 ·obtain⟨its,r,pl,hz⟩:=I.tuple hq
  refine SeqAt.in_tupleAt (eqU x) pl (fun w hw=>zv2 rx fx r fs w (by simpa using hw)) ⟨.bl _,H,I,rfl,?_⟩
  rw[show its.toArray.any (eqU x)=its.any (eqU x) by simp,zaq8 r fs]
  exact q
theorem zak6:zn4 X (.builtin "len") (fun xs H Q=>∃ p ys,xs=[.ref p]/\(SqL X.K H p ys∨SqT X.K H p ys)/\Q (.int ys.length) H):=by
 intro pins s σ H xs us Q I r h
 obtain⟨p,ys,rfl,hq,q⟩:=h
 obtain⟨u,rfl,rx⟩:=zae0 r
 cases rx
 have hn:=zab8
 rcases hq with hq|hq
 ·obtain⟨its,r',pl,hz⟩:=I.list hq
  have hlen:=r'.length
  exact Calls.call_len_list pl.isList (by simp only[zca4]<;>omega) ⟨.int ys.length,H,I.tok _,⟨s.toks+1,by rw[zca4,hlen]⟩,q⟩
 ·obtain⟨its,r',pl,hz⟩:=I.tuple hq
  have hlen:=r'.length
  exact len_tuple pl (by simp only[zca4]<;>omega) ⟨.int ys.length,H,I.tok _,⟨s.toks+1,by rw[zca4,hlen]⟩,q⟩
theorem zal5:zn4 X (.builtin "len") (fun xs H Q=>∃ z,xs=[.str z]/\z.length<=sizeLine/\Q (.int z.length) H):=by
 intro pins s σ H xs us Q I r h
 obtain⟨z,rfl,hz,q⟩:=h
 obtain⟨u,rfl,t,rfl⟩:=zae0 r
 have hn:=zab8
 exact len_str (by omega) ⟨.int z.length,H,I.tok _,⟨_,rfl⟩,q⟩
theorem zam9:zn4 X (.type "list") (fun xs H Q=>∃ p ys,xs=[.ref p]/\(SqL X.K H p ys∨SqT X.K H p ys)/\∀ l,H l=none->Q (.ref l) (upd H l (.lst ys))):=by
 intro pins s σ H xs us Q I r h
 obtain⟨p,ys,rfl,hq,q⟩:=h
 obtain⟨u,rfl,rx⟩:=zae0 r
 cases rx
 have fin:∀ (its:List Value),Vals ys its->ys.length<=sizeLine->∀ (h':Heap) (c':Nat),(∀ b o',s.heap.get? b=some o'->h'.get? b=some o') ->
   h'.get? s.heap.objs.size=some { cls:=.type "list",dict:=none,data:=.seq its.toArray c',slots:=#[] }->EP X pins σ Q (.ref s.heap.objs.size) { s with heap:=h' }:=fun its r' hz h' c' kp e=>
  ⟨.ref s.heap.objs.size,_,I.laid (t':=s.toks) kp (zcb6 _) (show zf7 X.prog X.w _ h' _ (.lst ys) from ⟨hz,its,c',r',e⟩),rfl,q _ (I.hok.fresh (zcb6 _))⟩
 rcases hq with hq|hq
 ·obtain⟨its,r',pl,hz⟩:=I.list hq
  have hlen:=r'.length
  obtain⟨o,ho,hc,n,hd⟩:=pl.isList
  exact call_list_seq p (.inl rfl) ho hc hd (fun h' c' kp e=>fin its r' hz h' c' kp e) (by simp only[zca4]<;>omega)
 ·obtain⟨its,r',pl,hz⟩:=I.tuple hq
  have hlen:=r'.length
  obtain⟨o,ho,hc,n,hd⟩:=pl
  exact call_list_seq p (.inr rfl) ho hc hd (fun h' c' kp e=>fin its r' hz h' c' kp e) (by simp only[zca4]<;>omega)
theorem zag9:zn4 X (.type "tuple") (fun xs H Q=>∃ p ys,xs=[.ref p]/\((SqL X.K H p ys/\∀ l,H l=none->Q (.ref l) (upd H l (.tup ys)))∨(SqT X.K H p ys/\Q (.ref p) H))):=by
 intro pins s σ H xs us Q I r h
 obtain⟨p,ys,rfl,h⟩:=h
 obtain⟨u,rfl,rx⟩:=zae0 r
 cases rx
 rcases h with ⟨hq,q⟩|⟨hq,q⟩
 ·obtain⟨its,r',pl,hz⟩:=I.list hq
  have hlen:=r'.length
  refine call_tuple_list pl.isList (fun h' kp=>?_) (by simp only[zca4]<;>omega)
  have I1:Inv X pins σ H { s with heap:=h' }:=I.kept (t':=s.toks) kp
  have I2:Inv X pins σ (upd H h'.objs.size (.tup ys)) { s with heap:=h'.push { cls:=.type "tuple",data:=.seq its.toArray } }:=
   I1.laid (t':=s.toks) (fun b o e=>zca8 _ e) (zcb6 _) (show zf7 X.prog X.w _ _ _ (.tup ys) from ⟨hz,its,r',IsTup.new _ _⟩)
  exact⟨.ref h'.objs.size,_,I2,rfl,q _ (I1.hok.fresh (zcb6 _))⟩
 ·obtain⟨its,r',pl,hz⟩:=I.tuple hq
  exact call_tuple_same pl ⟨.ref p,H,I,rfl,q⟩
def tyV (K:zbz8) (T:String) (x:V) (H:Hp):Prop:=match x with
 | .str _=>T="str"
 | .int _=>T="int"
 | .ref p=>(T="list"/\∃ xs,SqL K H p xs)∨(T="tuple"/\∃ o,K.lookup p=some o/\o.cls=.type "tuple"/\o.dict=none) ∨
   (T="dict"/\((∃ kvs,H p=some (.dK kvs))∨∃ kvs,H p=some (.dT kvs)))∨(T="set"/\∃ S n,H p=some (.set S n))
 | _=>False
theorem zbl2 {pins:List (Addr×Obj)}{σ:St}{H:Hp}{s:Shared}{T:String}{x:V}{v:Value}(I:Inv X pins σ H s) (r:RelV x v) (ty:tyV X.K T x H) :
  s.TypeIs v T/\∀ a,v=.ref a->∃ ob,s.heap.get? a=some ob/\ob.dict=none:=by
 cases x with
 | str z=>
  obtain⟨t,rfl⟩:=r
  cases (show T="str" from ty)
  exact⟨typeIs_str s z t,fun _ e=>nomatch e⟩
 | int i=>
  obtain⟨t,rfl⟩:=r
  cases (show T="int" from ty)
  exact⟨typeIs_int s i t,fun _ e=>nomatch e⟩
 | ref p=>
  cases r
  rcases ty with ⟨rfl,xs,hq⟩|⟨rfl,o,hk,hc,hd⟩|⟨rfl,hk⟩|⟨rfl,S,n,hk⟩
  ·obtain⟨its,_,pl,_⟩:=I.list hq
   refine⟨pl.isList.typeIs,fun a e=>?_⟩
   cases e
   obtain⟨o,n,e,c,hd,_⟩:=pl
   exact⟨o,e,hd⟩
  ·refine⟨⟨o,I.kIn p o hk,hc⟩,fun a e=>?_⟩
   cases e
   exact⟨o,I.kIn _ o hk,hd⟩
  ·have z:∃ o,s.heap.get? p=some o/\o.ExactDict:=by
    rcases hk with ⟨kvs,hk⟩|⟨kvs,hk⟩
    ·obtain⟨_,_,_,_,o,_,_,e,ex,_⟩:=I.hok p _ hk
     exact⟨o,e,ex⟩
    ·obtain⟨_,_,_,_,o,_,_,e,ex,_⟩:=I.hok p _ hk
     exact⟨o,e,ex⟩
   obtain⟨o,e,ex⟩:=z
   refine⟨⟨o,e,ex.1⟩,fun a e2=>?_⟩
   cases e2
   exact⟨o,e,ex.2.1⟩
  ·obtain⟨o,_,_,_,e,ex,_⟩:=I.hok p _ hk
   refine⟨⟨o,e,ex.1⟩,fun a e2=>?_⟩
   cases e2
   exact⟨o,e,ex.2.1⟩
 | _=>exact False.elim ty
variable {o e:Expr}{es:List Expr}{to:TE}{t:TA}{name:Str}{apos cpos:Pos}{T id:String}{r:V->List V->Hp->VK->Prop}
end
end L2
namespace L2
open PySem PySem.Spec PyProof.Rows
def MtM (X:Cx) (id:String) (r:V->List V->Hp->VK->Prop):Prop:=
 ∀ (pins:List (Addr×Obj)) (s:Shared) (σ:St) (H:Hp) (x:V) (xs:List V) (v:Value) (us:List Value) (Q:VK),Inv X pins σ H s->RelV x v->Vals xs us->r x xs H Q ->
  wpAny (model X.prog X.w) X.A (call (.builtin id) (v :: us)) (EP X pins σ Q) X.xe s
theorem Vals.one:∀ {x:V}{us:List Value},Vals [x] us->∃ u,us=[u]/\RelV x u
 | _,_,.cons r .nil=>⟨_,rfl,r⟩
theorem Vals.zero:∀ {us:List Value},Vals [] us->us=[]
 | _,.nil=>rfl
theorem Vals.dropLast {xs:List V}{us:List Value}(h:Vals xs us):Vals xs.dropLast us.dropLast:=by
 induction h with
 | nil=>exact .nil
 | cons r t ih=>
  cases t with
  | nil=>exact .nil
  | cons q t'=>exact .cons r ih
theorem Vals.eraseIdx:∀ {xs:List V}{us:List Value}(i:Nat),Vals xs us->Vals (xs.eraseIdx i) (us.eraseIdx i)
 | _,_,_,.nil=>.nil
 | _,_,0,.cons _ t=>t
 | _,_,i+1,.cons r t=>.cons r (Vals.eraseIdx i t)
theorem Vals.reverse {xs:List V}{us:List Value}(h:Vals xs us):Vals xs.reverse us.reverse:=by
 induction h with
 | nil=>exact .nil
 | cons r t ih=>rw[List.reverse_cons,List.reverse_cons];exact Vals.append ih (.cons r .nil)
theorem Vals.rep {xs:List V}{us:List Value}(h:Vals xs us):∀ k:Nat,Vals (List.replicate k xs).flatten (List.replicate k us).flatten
 | 0=>.nil
 | k+1=>by
  rw[zcg9,zcg9,zch8,zch8]
  exact Vals.append h (Vals.rep h k)
theorem zav8 {α:Type}(l:List α):l.eraseIdx (l.length - 1)=l.dropLast:=by
 induction l with
 | nil=>rfl
 | cons a r ih=>
  cases r with
  | nil=>rfl
  | cons b r=>
   have e:(a :: b :: r).length - 1=((b :: r).length - 1)+1:=by
    have h1:(a :: b :: r).length=r.length+2:=rfl
    have h2:(b :: r).length=r.length+1:=rfl
    omega
   rw[e,List.eraseIdx_cons_succ,ih]
   all_goals rfl
theorem zaj0 {α:Type}:∀ (l:List α) (i:Nat),(l.eraseIdx i).length<=l.length
 | [],_=>zcb6 _
 | _ :: _,0=>Nat.le_succ _
 | _ :: r,i+1=>Nat.succ_le_succ (zaj0 r i)
theorem zam3 (its:List Value):∀ (k:Nat) (acc:List Value),
  List.foldl (fun x1 x2=>x1++x2) acc.toArray (List.replicate k its.toArray)=(acc++(List.replicate k its).flatten).toArray
 | 0,acc=>by simp
 | k+1,acc=>by
  have e:acc.toArray++its.toArray=(acc++its).toArray:=by simp
  have e2:(acc++its)++(List.replicate k its).flatten=acc++(List.replicate (k+1) its).flatten:=by
   rw[zcg9,zch8,List.append_assoc]
  rw[← e2,← zam3 its k (acc++its),← e,zcg9,List.foldl_cons]
section
variable {X:Cx}{pins:List (Addr×Obj)}{σ:St}{H:Hp}{s:Shared}{l b:Addr}{xs ys zs:List V}
theorem Inv.lset {its its':List Value}{n:Nat}{f:Array Value->Array Value}{t':Nat}(I:Inv X pins σ H s) (hH:H l=some (.lst xs))
  (e:s.heap.get? l=some { cls:=.type "list",data:=.seq its.toArray n }) (hf:f its.toArray=its'.toArray) (hv:Vals ys its') (hz:ys.length<=sizeLine) :
  Inv X pins σ (upd H l (.lst ys)) { s with heap:=s.heap.update l (Obj.mapSeq f),toks:=t' }:=by
 have q:=PySem.IsL.update e f
 rw[hf] at q
 refine I.write (x:=l) (e:=l) (by rw[hH];exact trivial) (.inl rfl) (fun b' u hb hu=>(zcc9 s.heap (Obj.mapSeq f) (Ne.symm hb)).trans hu) ⟨_,q⟩ ?_
 exact⟨hz,its',_,hv,q⟩
theorem Inv.lnew {its:List Value}{t':Nat}(I:Inv X pins σ H s) (hv:Vals ys its) (hz:ys.length<=sizeLine) :
  Inv X pins σ (upd H s.heap.objs.size (.lst ys)) { s with heap:=s.heap.push { cls:=.type "list",data:=.seq its.toArray },toks:=t' }:=
 I.laid (fun _ _ q=>zca8 _ q) (zcb6 _) ⟨hz,its,0,hv,zcd1 _ rfl⟩
theorem Inv.fresh (I:Inv X pins σ H s):H s.heap.objs.size=none:=I.hok.fresh (zcb6 _)
theorem Inv.lstM (I:Inv X pins σ H s) (hH:H l=some (.lst xs)):xs.length<=sizeLine/\∃ (its:List Value) (n:Nat),Vals xs its/\xs.length=its.length/\s.heap.get? l=some { cls:=.type "list",data:=.seq its.toArray n }:=by
 obtain⟨z,its,n,r,e⟩:=I.hok l _ hH
 exact⟨z,its,n,r,r.length,e⟩
theorem zat2 {n:Nat}(h:n<=sizeLine):Builtin.List.listTooLong n=false:=by
 unfold Builtin.List.listTooLong
 exact decide_eq_false (by omega)
end
section
variable {X:Cx}
def zbs9:V->List V->Hp->VK->Prop:=fun x vs H Q=>∃ l xs y,x=.ref l/\vs=[y]/\H l=some (.lst xs)/\xs.length<sizeLine/\Q .non (upd H l (.lst (xs++[y])))
theorem zan0:MtM X "list.append" zbs9:=by
 intro pins s σ H x vs v us Q I rx rv h
 obtain⟨l,xs,y,rfl,rfl,hH,hz,q⟩:=h
 cases rx
 obtain⟨u,rfl,ru⟩:=rv.one
 obtain⟨z,its,n,r,hl,e⟩:=I.lstM hH
 refine call_meets F.slot_list_append ⟨_,e,rfl⟩ F.entry_list_append (F.args_list_append_2 _ _) (PySem.list_append l its.toArray n u (by rw[zca4];omega)) ⟨e,?_⟩
 refine⟨.non,_,I.lset (its':=its++[u]) hH e (by simp) (r.append (.cons ru .nil)) ?_,rfl,q⟩
 rw[zca7,zcd3]
 omega
def zbo4:V->List V->Hp->VK->Prop:=fun x vs H Q=>∃ l b xs zs,x=.ref l/\vs=[.ref b]/\H l=some (.lst xs)/\H b=some (.lst zs)/\xs.length+zs.length<=sizeLine/\Q .non (upd H l (.lst (xs++zs)))
theorem zbc1:MtM X "list.extend" zbo4:=by
 intro pins s σ H x vs v us Q I rx rv h
 obtain⟨l,b,xs,zs,rfl,rfl,hH,hB,hz,q⟩:=h
 cases rx
 obtain⟨u,rfl,ru⟩:=rv.one
 cases ru
 obtain⟨z,its,n,r,hl,e⟩:=I.lstM hH
 obtain⟨z2,its2,n2,r2,hl2,e2⟩:=I.lstM hB
 have hsz:its.toArray.size+its2.toArray.size<=sizeLine:=by rw[zca4,zca4];omega
 have hlong:¬ (!its.toArray.isEmpty&&Builtin.List.listTooLong (its.toArray.size+its2.toArray.size))=true:=by
  rw[zat2 hsz,zch4]
  exact zca5
 refine call_meets F.slot_list_extend ⟨_,e,rfl⟩ F.entry_list_extend (F.args_list_extend_2 _ _)
  (AutoSeq1.list_extend_list_list_0 l its.toArray n b its2.toArray n2 hlong (by rw[zca4];omega) (by omega)) ⟨e,e2,?_⟩
 refine⟨.non,_,I.lset (its':=its++its2) hH e (by simp) (r.append r2) ?_,rfl,q⟩
 rw[zca7]
 omega
def rPop:V->List V->Hp->VK->Prop:=fun x vs H Q=>∃ l xs y,x=.ref l/\vs=[]/\H l=some (.lst xs)/\xs[xs.length - 1]?=some y/\Q y (upd H l (.lst xs.dropLast))
theorem mt_pop:MtM X "list.pop" rPop:=by
 intro pins s σ H x vs v us Q I rx rv h
 obtain⟨l,xs,y,rfl,rfl,hH,hy,q⟩:=h
 cases rx
 have hus:=rv.zero
 subst hus
 obtain⟨z,its,n,r,hl,e⟩:=I.lstM hH
 obtain⟨u,hu,ru⟩:=r.get hy
 have hy':its.toArray[its.toArray.size - 1]?=some u:=by
  show its.toArray[its.length - 1]?=some u
  rw[← Array.getElem?_toList,← hl]
  exact hu
 refine call_meets F.slot_list_pop ⟨_,e,rfl⟩ F.entry_list_pop (F.args_list_pop_1 _) (MeetsSeq.list_pop_last l its.toArray n u hy' (by rw[zca4];omega)) ⟨e,?_⟩
 refine⟨y,_,I.lset (its':=its.dropLast) hH e ?_ r.dropLast ?_,ru,q⟩
 ·show its.toArray.eraseIdxIfInBounds (its.toArray.size - 1)=its.dropLast.toArray
  rw[zca4,List.eraseIdxIfInBounds_toArray,zav8]
 ·rw[List.length_dropLast]
  omega
def rPopAt:V->List V->Hp->VK->Prop:=fun x vs H Q=>∃ l xs i k y,x=.ref l/\vs=[.int i]/\H l=some (.lst xs)/\-(2 ^ 63)<=i/\i<2 ^ 63/\seqIndex? i xs.length=some k/\xs[k]?=some y/\Q y (upd H l (.lst (xs.eraseIdx k)))
theorem zbg7:MtM X "list.pop" rPopAt:=by
 intro pins s σ H x vs v us Q I rx rv h
 obtain⟨l,xs,i,k,y,rfl,rfl,hH,h1,h2,hk,hy,q⟩:=h
 cases rx
 obtain⟨u,rfl,ru⟩:=rv.one
 obtain⟨t,rfl⟩:=ru
 obtain⟨z,its,n,r,hl,e⟩:=I.lstM hH
 obtain⟨w,hw,rw'⟩:=r.get hy
 refine call_meets F.slot_list_pop ⟨_,e,rfl⟩ F.entry_list_pop (F.args_list_pop_2 _ _)
  (MeetsSeq.list_pop_at l its.toArray n i t k w (fitsIndex_both h1 h2) (by rw[zca4,← hl];exact hk) (by rw[← Array.getElem?_toList];exact hw) (by rw[zca4];omega)) ⟨e,?_⟩
 refine⟨y,_,I.lset (its':=its.eraseIdx k) hH e ?_ (r.eraseIdx k) ?_,rw',q⟩
 ·show its.toArray.eraseIdxIfInBounds k=(its.eraseIdx k).toArray
  rw[List.eraseIdxIfInBounds_toArray]
 ·have:=zaj0 xs k
  omega
def rClear:V->List V->Hp->VK->Prop:=fun x vs H Q=>∃ l xs,x=.ref l/\vs=[]/\H l=some (.lst xs)/\Q .non (upd H l (.lst []))
theorem zbg9:MtM X "list.clear" rClear:=by
 intro pins s σ H x vs v us Q I rx rv h
 obtain⟨l,xs,rfl,rfl,hH,q⟩:=h
 cases rx
 have hus:=rv.zero
 subst hus
 obtain⟨z,its,n,r,hl,e⟩:=I.lstM hH
 refine call_meets F.slot_list_clear ⟨_,e,rfl⟩ F.entry_list_clear (F.args_list_clear_1 _) (AutoSeq1.list_clear_list_0 l its.toArray n (by rw[zca4];omega)) ⟨e,?_⟩
 exact⟨.non,_,I.lset (its':=[]) (ys:=[]) hH e rfl .nil (zcd6 _),rfl,q⟩
def rCat:R2:=fun x y H Q=>∃ l b xs zs,x=.ref l/\y=.ref b/\H l=some (.lst xs)/\H b=some (.lst zs)/\xs.length+zs.length<=sizeLine/\∀ p,H p=none->Q (.ref p) (upd H p (.lst (xs++zs)))
theorem op_cat:OpR X (binaryOp .Add) rCat:=by
 intro pins s σ H x y v u Q I rx ry h
 obtain⟨l,b,xs,zs,rfl,rfl,hH,hB,hz,q⟩:=h
 cases rx
 cases ry
 obtain⟨z,its,n,r,hl,e⟩:=I.lstM hH
 obtain⟨z2,its2,n2,r2,hl2,e2⟩:=I.lstM hB
 refine PySem.P.add_list e e2 ?_ (by rw[zca4,zca4];omega)
 have ea:its.toArray++its2.toArray=(its++its2).toArray:=by simp
 rw[ea]
 exact⟨.ref _,_,I.lnew (t':=s.toks) (r.append r2) (by rw[zca7];omega),rfl,q _ I.fresh⟩
def rRep:R2:=fun x y H Q=>∃ l k xs,x=.ref l/\y=.int k/\H l=some (.lst xs)/\-(2 ^ 63)<=k/\k<2 ^ 63/\xs.length*k.toNat<=sizeLine /\
 ∀ p,H p=none->Q (.ref p) (upd H p (.lst (List.replicate k.toNat xs).flatten))
theorem zbp1 {α:Type}(xs:List α) (k:Nat):(List.replicate k xs).flatten.length=k*xs.length:=by
 induction k with
 | zero=>simp
 | succ k ih=>rw[zcg9,zch8,zca7,ih,Nat.succ_mul,Nat.add_comm]
theorem op_rep:OpR X (binaryOp .Mult) rRep:=by
 intro pins s σ H x y v u Q I rx ry h
 obtain⟨l,k,xs,rfl,rfl,hH,h1,h2,hz,q⟩:=h
 cases rx
 obtain⟨t,rfl⟩:=ry
 obtain⟨z,its,n,r,hl,e⟩:=I.lstM hH
 have hlen:its.toArray.size*k.toNat<=sizeLine:=by rw[zca4,← hl];exact hz
 have hcap:¬ its.toArray.size*k.toNat>(2 ^ 63 - 1) / 8:=by
  have:(sizeLine:Nat)<=(2 ^ 63 - 1) / 8:=by decide
  omega
 have hfit:¬ (!Builtin.List.listFitsIndex k)=true:=by
  rw[fitsIndex_both h1 h2]
  exact zca5
 have hlong:¬ Builtin.List.listTooLong (its.toArray.size*k.toNat)=true:=by
  rw[zat2 hlen]
  exact zca5
 have hnew:List.foldl (fun x1 x2=>x1++x2) #[] (List.replicate (if its.toArray.isEmpty=true then 0 else k.toNat) its.toArray)=(List.replicate k.toNat its).flatten.toArray:=by
  have f0:∀ m:Nat,List.foldl (fun x1 x2=>x1++x2) #[] (List.replicate m its.toArray)=(List.replicate m its).flatten.toArray:=fun m=>by
   have:=zam3 its m []
   rw[List.nil_append] at this
   exact this
  rw[f0]
  cases its with
  | nil=>simp
  | cons a r'=>rw[if_neg (by simp)]
 refine wpAny_binaryOp_repeat_ref (T:="list") (U:="int") (by decide) ⟨_,e,rfl⟩ (fun s'=>typeIs_int s' k t) noFill_list_mul F.fills_int_mul F.slot_int_rmul repeat_list F.slot_int_index.lookup
  (call_meets F.slot_int_rmul (typeIs_int s k t) F.entry_int_rmul (F.args_int_rmul_2 _ _) (int___rmul___int_list k t l its.toArray n)
   ⟨e,rfl,⟨_,e,rfl⟩,call_meets F.slot_list_mul ⟨_,e,rfl⟩ F.entry_list_mul (F.args_list_mul_2 _ _) (AutoListH.list___mul___list_int_3 l its.toArray n k t hfit hcap hlong) ⟨e,?_⟩⟩)
 rw[hnew]
 exact⟨.ref _,_,I.lnew (t':=s.toks) (r.rep k.toNat) (by rw[zbp1,Nat.mul_comm];exact hz),rfl,q _ I.fresh⟩
end
section
variable {prog:Program}{w:World}{A:Around}{E:Value->Shared->Prop}{s:Shared}
end
section
variable {X:Cx}
end
end L2
namespace Att
open PySem PySem.W PySem.Calls PyProof.Rows
theorem zab1 {P:Params}{h:Heap}:∀ (ns:List Int) (vs:List Value),WellAll P h vs (ns.map WData.int)->IntsAre vs ns:=by
 intro ns
 induction ns with
 | nil=>
  intro vs w
  rw[List.map_nil] at w
  cases w
  exact .nil
 | cons n ns ih=>
  intro vs w
  rw[zcd9] at w
  cases w with
  | cons a b=>
   cases a
   exact .cons _ _ (ih _ b)
theorem zbg1 {l:OpenLaw}{n:Nat}(hn:l.most=some n) {P:Params}{h:Heap}{args:List WData}{vals:List Value}
  (hpre:l.row.toRowW.claim.pre args=true) (hwl:WellAll P h vals args) :
  ∃ a vs ns,vals=[Value.ref a]/\args=[WData.list (ns.map WData.int)]/\h.get? a=some { cls:=.type "list",data:=.seq vs.toArray }/\IntsAre vs ns/\ns.length<=n:=by
 have hsh:WShape.hasAll [] args [.list .int]=true:=(pre_splitW hpre).1
 have hc:l.pre.holds [] { args:=args }=true:=(pre_splitW hpre).2
 obtain⟨d,r,rfl,h1,h2⟩:=hasAllW_cons hsh
 obtain rfl:=hasAllW_nil h2
 obtain⟨xs,rfl,h3⟩:=hasW_list h1
 obtain⟨ns,rfl⟩:=items_int h3
 have hlen:ns.length<=n:=by
  unfold OpenLaw.pre at hc
  have h4:(WTm.not (.lt (.lit (.int (n:Int))) (.len (.arg 0)))).holds [] { args:=[.list (ns.map .int)] }=true:=by
   have h4:=(holds_andW hc).1
   rw[hn] at h4
   exact h4
  have h5:=condW_of h4 (w_not (w_lt w_lit (w_len_list (w_arg rfl))))
  rw[zbz7] at h5
  refine Nat.le_of_not_lt fun q=>?_
  have q':(n:Int)<((ns.length:Nat):Int):=by omega
  first
   | (rw[decide_eq_true q'] at h5;exact absurd h5 (by decide))
   | (simp at h5;omega)
 cases hwl with
 | cons w1 w2=>
  cases w2
  cases w1 with
  | list ho hall=>exact⟨_,_,ns,rfl,rfl,ho,zab1 ns _ hall,hlen⟩
theorem zay6 (l:OpenLaw) (args:List WData):l.row.toRowW.claim.post args (.bool true) args=true:=
 postW_of (r:=l.row.toRowW) (X:=(true==true))
  (show WShape.has [] (.bool true) .bool=true by first|rfl|decide|simp[WShape.has,WShape.arms,WShape.armsAll])
  (show (WTm.eq .res (.lit (.bool true))).value [] { args:=args,res:=some (.bool true),after:=args }=some (.bool (true==true)) from w_eq_bool (w_res rfl) w_lit) rfl
theorem attach_call {l:OpenLaw}{n:Nat}{q:Program}{loose:List Str}{XP:(Str->Option Value)->Heap->Prop}{YP:World->Heap->Prop}{d:DefRec}
  (hn:l.most=some n) (hdf:d.params.defaults=[])
  (call:∀ (w:World) (s₀ s₁:Shared) (mg mb:Str->Option Value) (fa:Addr) (o:Obj) (pm cd doc:Value) (a:Addr) (vs:List Value) (ns:List Int),
   Ground q loose [] XP w s₀ mg mb s₁.heap->YP w s₁.heap ->
   s₁.heap.get? fa=some o->o.data=.func (docDef d.name d.params d.body d.scope pm cd doc)->s₁.heap.CodeRec cd d.name->mg d.name=some (.ref fa) ->
   s₁.heap.get? a=some { cls:=.type "list",data:=.seq vs.toArray }->IntsAre vs ns->ns.length<=n->s₁.gens=#[] ->
   codeAny (model l.prog w) callerA (.call (.ref fa) ⟨[.ref a],[]⟩) (fun r s'=>r=.ok (.ret (.bool true))/\OldK s₁.heap s'.heap/\s'.os=s₁.os/\AllBare s'.gens) s₁) :
  WalkO q loose XP YP l.row.toRowW d [] (fun f vs=>PySem.call f vs):=by
 intro w s₀ s₁ mg mb G Y fa o pm cd doc dV kV ho hd hcd hD hmg hg args vals as hpre hlay hrd hwl hlo
 obtain rfl:dV=.none:=Dflts.none hD hdf
 obtain rfl:kV=.none:=Dflts.noKw hD
 obtain⟨a,vs,ns,rfl,rfl,hobj,hints,hlen⟩:=zbg1 hn hpre hwl
 refine enter_call (codeAny_mono (call w s₀ s₁ mg mb fa o pm cd doc a vs ns G Y ho (fd_plain hd) hcd hmg hobj hints hlen hg) fun r s' hq=>?_)
 obtain⟨rfl,h2,h3,h4⟩:=hq
 exact⟨.inl ⟨.bool true,.bool true,[],rfl,fun _=>rfl,.bool true,zay6 l _,fun _=>⟨List.Pairwise.nil,fun _ hm=>(nomatch hm)⟩⟩,h2,h3,h4⟩
section
variable {prog:Program}{w:World}{A:Around}{E:Value->Shared->Prop}{s:Shared}{K:Frag}
def ledger (h:Heap) (L d:Addr):List (Addr×Obj):=(List.range h.objs.size).filterMap fun a=>if a=L∨a=d then none else (h.get? a).map fun o=>(a,o)
end
end Att
namespace L2
open PySem PySem.Spec PyProof.Rows
theorem zal7:∀ {vs:List Value}{ns:List Int},IntsAre vs ns->Vals (ns.map V.int) vs
 | _,_,.nil=>.nil
 | _,_,.cons n t h=>.cons ⟨t,rfl⟩ (zal7 h)
def Only (H:Hp):Prop:=∀ b,H b=none∨∃ o xs,H b=some (.frz o (.lst xs))
theorem zbi4 {P:Program}{w:World}{K:zbz8}{mg mb:Str->Option Value}{CX:CXT}{k:Nat}{fa a:Addr}{fd:FuncData}{x:Str}{sp:Sp}{s₁:Shared}{vs:List Value}{ns:List Int}
  (KX:K.In s₁.heap) (hns:s₁.heap.Ns mainGlobals mg) (hb:s₁.heap.Ns builtinsNs mb) (hbb:∀ x:Str,x≠"__name__"->mb x=bootBuiltins x) (hlim:s₁.heap.NoLimit) (hg:s₁.gens=#[])
  (ha:s₁.heap.get? a=some { cls:=.type "list",data:=.seq vs.toArray }) (hi:IntsAre vs ns) (hl:ns.length<=sizeLine) (hr:Room k callerA)
  (F:∀ base:Heap,K.In base->base.Ns mainGlobals mg->FnOk P w K mg base CX k fa fd [x] sp) (hbind:∀ (s:Shared) (u:Value),BindsTo s fd ⟨[u],[]⟩ [(x,u)])
  (hsp:∀ H:Hp,Only H->SqL K H a (ns.map V.int)->sp [.ref a] H (fun v _=>v=.bl true) fun _ _ _=>False)
  (hCX:∀ H e s',CX [] H s₁ (fun _ _ _=>False) e s'->False) :
  codeAny (model P w) callerA (.call (.ref fa) ⟨[.ref a],[]⟩) (fun r s'=>r=.ok (.ret (.bool true))/\OldK s₁.heap s'.heap/\s'.os=s₁.os/\AllBare s'.gens) s₁:=by
 have rv:=zal7 hi
 have lenV:=hi.length
 have core:∀ H:Hp,Only H->SqL K H a (ns.map V.int)->HOk P w H s₁.heap->(∀ b,H b≠none->b=a)->(H a≠none->K.lookup a=none) ->
   codeAny (model P w) callerA (.call (.ref fa) ⟨[.ref a],[]⟩) (fun r s'=>r=.ok (.ret (.bool true))/\OldK s₁.heap s'.heap/\s'.os=s₁.os/\AllBare s'.gens) s₁:=by
  intro H hO hS hok hA hK
  have base_of:∀ {b:Addr}{o:Obj},s₁.heap.get? b=some o->H b=none->(hidT s₁.heap H).get? b=some o:=fun e n=>zbg5 e n
  have noA:∀ {b:Addr}{o:Obj}{es:Array DictEntry}{ep:Nat},s₁.heap.get? b=some o->o.data=.dict es ep->H b=none:=fun {b o es ep} e d=>by
   cases q:H b with
   | none=>rfl
   | some u=>
    have e':b=a:=hA b (by rw[q];simp)
    subst e'
    rw[ha] at e;cases e
    have d':Data.seq vs.toArray _=Data.dict es ep:=d
    cases d'
  have nsK:∀ {b:Addr}{m:Str->Option Value},s₁.heap.Ns b m->(hidT s₁.heap H).Ns b m:=fun {b m} ⟨o,es,ep,e,d,r⟩=>⟨o,es,ep,base_of e (noA e d),d,r⟩
  have hKb:K.In (hidT s₁.heap H):=fun b o e=>base_of (KX b o e) (by
   cases q:H b with
   | none=>rfl
   | some u=>
    have e':b=a:=hA b (by rw[q];simp)
    subst e'
    rw[hK (by rw[q];simp)] at e;cases e)
  have hM:Mod K mg (hidT s₁.heap H):=⟨hKb,nsK hns,⟨mb,nsK hb,hbb⟩,let ⟨mc,h1,h2⟩:=hlim;⟨mc,nsK h1,h2⟩⟩
  have e0:Env0 P w K mg (hidT s₁.heap H) callerA [] s₁ H:=⟨rfl,hM,fun b o e=>zbr7 e,Nat.le_of_eq (zay4 _ _),trivial,fun b hb=>absurd (show b∈([]:List Addr) from hb) (by simp),hok,.of_eq hg⟩
  refine codeAny_mono ((F _ hKb (nsK hns)).run callerA [] s₁ H ⟨[.ref a],[]⟩ [.ref a] [.ref a] _ _ hr e0 (hbind s₁ (.ref a)) (.cons rfl .nil) (hsp H hO hS)) fun r s' h=>?_
  cases r with
  | error e=>exact (hCX H e s' h).elim
  | ok fl=>
   cases fl with
   | next=>exact False.elim h
   | brk=>exact False.elim h
   | cont=>exact False.elim h
   | ret u=>
    obtain⟨v,H',os,bare,un,hok',r',q⟩:=h
    have q':v=.bl true:=q
    subst q'
    obtain rfl:u=Value.bool true:=r'
    refine⟨rfl,OldK.of_keep fun b o e=>?_,os,bare⟩
    cases q:H b with
    | none=>exact un.keep b o e q (by intro z;exact absurd (show b∈([]:List Addr) from z) (by simp)) (by simp)
    | some u=>
     rcases hO b with z|⟨ob,xs,z⟩
     ·rw[q] at z;cases z
     ·have z2:=un.frzs b ob _ z
      obtain⟨e1,_⟩:=hok b _ z
      obtain⟨e2,_⟩:=hok' b _ z2
      rw[e] at e1;cases e1
      exact e2
 cases hk:K.lookup a with
 | some o=>
  have e:=KX a o hk
  rw[ha] at e
  cases e
  refine core (fun _=>none) (fun _=>.inl rfl) (.inr ⟨_,vs.toArray,_,hk,rfl,rfl,rfl,by rw[zca4,lenV];exact hl,by simpa using rv⟩) (fun b u z=>by have z':(none:Option HO)=some u:=z;cases z') (fun b z=>absurd rfl z) fun z=>absurd rfl z
 | none=>
  refine core (fun b=>if b=a then some (.frz { cls:=.type "list",data:=.seq vs.toArray } (.lst (ns.map V.int))) else none) (fun b=>?_) (.inl (.inr ⟨{ cls:=.type "list",data:=.seq vs.toArray },if_pos rfl⟩)) (fun b u z=>?_) (fun b z=>?_) fun _=>hk
  ·by_cases hb:b=a
   ·exact .inr ⟨_,_,if_pos hb⟩
   ·exact .inl (if_neg hb)
  ·by_cases hb:b=a
   ·have z':=(if_pos hb).symm.trans z
    cases z'
    subst hb
    exact⟨ha,by rw[zbz7];exact hl,vs,_,rv,ha⟩
   ·have z':=(if_neg hb).symm.trans z
    cases z'
  ·by_cases hb:b=a
   ·exact hb
   ·exact absurd (if_neg hb) z
end L2
namespace L2
open PySem PySem.Spec PyProof.Rows
theorem walk_of {l:PySem.W.OpenLaw}{n k:Nat}{q:Program}{loose:List Str}{XP:(Str->Option Value)->Heap->Prop}{YP:World->Heap->Prop}{d:DefRec}{K:Params->zbz8}{CX:World->CXT}{sp:World->Sp}{x:Str}
  (hn:l.most=some n) (hn2:n<=sizeLine) (hdf:d.params.defaults=[]) (hr:Room k callerA)
  (hY:∀ (w:World) (h:Heap),YP w h->(K w.params).In h)
  (F:∀ (w:World) (mg:Str->Option Value) (fa:Addr) (h:Heap),(K w.params).In h->h.Ns mainGlobals mg->mg d.name=some (.ref fa) ->
   ∃ fd:FuncData,(∀ (s:Shared) (u:Value),BindsTo s fd ⟨[u],[]⟩ [(x,u)]) /\
    ∀ base:Heap,(K w.params).In base->base.Ns mainGlobals mg->FnOk l.prog w (K w.params) mg base (CX w) k fa fd [x] (sp w))
  (hsp:∀ (w:World) (H:Hp) (a:Addr) (ns:List Int),ns.length<=n->Only H->SqL (K w.params) H a (ns.map V.int)->sp w [.ref a] H (fun v _=>v=.bl true) fun _ _ _=>False)
  (hCX:∀ (w:World) (H:Hp) (s:Shared) (e:Value) (s':Shared),CX w [] H s (fun _ _ _=>False) e s'->False) :
  PySem.W.WalkO q loose XP YP l.row.toRowW d [] (fun f vs=>PySem.call f vs):=by
 refine Att.attach_call hn hdf fun w s₀ s₁ mg mb fa o pm cd doc a vs ns G Y ho hd hcd hmg hobj hints hlen hg=>?_
 have KX:=hY w _ Y
 obtain⟨fd,hb,hF⟩:=F w mg fa _ KX G.T.g hmg
 exact zbi4 KX G.T.g G.T.b G.T.builtins G.T.nolimit hg hobj hints (zce6 hlen hn2) hr hF hb (fun H hO hS=>hsp w H a ns hlen hO hS) fun H e s'=>hCX w H s₁ e s'
end L2
namespace L2
open PySem PySem.Spec PyProof.Rows
def zb6 (s:Stmt):Arguments:=match s with
 | .FunctionDef _ a _ _ _ _ _ _ _ _=>a
 | _=>{ posonlyargs:=[],args:=[],vararg:=none,kwonlyargs:=[],kw_defaults:=[],kwarg:=none,defaults:=[] }
def zb2 (s:Stmt):List Stmt:=match s with
 | .FunctionDef _ _ b _ _ _ _ _ _ _=>b
 | _=>[]
def za5 (s:Stmt):Scope:=match s with
 | .FunctionDef _ _ _ _ _ _ sc _ _ _=>sc
 | _=>{ kind:=.function,names:=[],isGenerator:=false,isCoroutine:=false }
abbrev CX0:CXT:=fun _ _ _ _ _ _=>False
abbrev E0:XK:=fun _ _ _=>False
theorem zb8 {X:Cx}:zaf3 CX0 X E0:=fun _ _ _ _ _ _ _ h=>h.elim
structure Fun (K:zbz8) (x qual:Str) (st:Stmt) (f:Addr) (fd:FuncData):Prop where
 ex:∃ (oc:Value) (od:Option Addr) (kV doc pm:Value) (an:Option Addr) (cdv ct:Value) (osl:Array (Option Value)),
  fd=zcc1 x qual (zb6 st) (zb2 st) (za5 st) .none kV doc pm an cdv ct/\K.lookup f=some ⟨oc,od,.func fd,osl⟩/\zcb9 K cdv qual=true
 kp:zcb5 K (.ref f)=true
section
variable {P:Program}{w:World}{K:zbz8}{mg:Str->Option Value}{base:Heap}
theorem Fun.ok {x qual:Str}{st:Stmt}{f:Addr}{fd:FuncData}{N ps:List Str}{k:Nat}{sp:Sp}(F:Fun K x qual st f fd) (S:zb7 N ps (za5 st)) (len:∀ vs H Q E,sp vs H Q E->vs.length=ps.length)
  (hbody:∀ (cdv:Value) (A:Around) (outer:List Env) (s:Shared) (H:Hp) (vs:List V) (Q:VK) (E:XK),Room k (A.deeper (envOfC qual (za5 st) s.heap.objs.size f cdv))->sp vs H Q E ->
   ∃ t,PSs (cxOf CX0 P w K mg base N qual (za5 st) f cdv A outer s H E).nox (zb2 st) t/\t { nx:=fun _ H'=>Q .non H',rt:=Q } (zai9 N vs) H):FnOk P w K mg base CX0 (k+1) f fd ps sp:=by
 obtain⟨oc,od,kV,doc,pm,an,cdv,ct,osl,rfl,lk,hcd⟩:=F.ex
 refine fn_of lk hcd S len fun A outer s H vs Q E hr hsp=>?_
 obtain⟨t,h,q⟩:=hbody cdv A outer s H vs Q E hr hsp
 exact⟨t,h.nox,q⟩
theorem Fun.binds {x qual:Str}{st:Stmt}{f:Addr}{fd:FuncData}{ps:List Str}(F:Fun K x qual st f fd)
  (h:∀ (kV doc pm:Value) (an:Option Addr) (cdv ct:Value) (us:List Value),us.length=ps.length->bindArgs (zcc1 x qual (zb6 st) (zb2 st) (za5 st) .none kV doc pm an cdv ct) ⟨us,[]⟩=pure (ps.zip us)):zaj7 K fd ps []:=by
 obtain⟨oc,od,kV,doc,pm,an,cdv,ct,osl,rfl,lk,hcd⟩:=F.ex
 exact .all (h kV doc pm an cdv ct)
theorem ze3 {x qual:Str}{st:Stmt}{f:Addr}{oc:Value}{od an:Option Addr}{osl:Array (Option Value)}{kV doc pm cdv ct:Value}(l:K.lookup f=some ⟨oc,od,.func (zcc1 x qual (zb6 st) (zb2 st) (za5 st) .none kV doc pm an cdv ct),osl⟩)
  (c:zcb9 K cdv qual=true) (k:zcb5 K (.ref f)=true):Fun K x qual st f (zcc1 x qual (zb6 st) (zb2 st) (za5 st) .none kV doc pm an cdv ct):=⟨⟨oc,od,kV,doc,pm,an,cdv,ct,osl,rfl,l,c⟩,k⟩
end
section
variable {X:Cx}
end
theorem iteF {A B:Prop}(h:B):if false=true then A else B:=by
 rw[if_neg zca5]
 exact h
theorem iteT {A B:Prop}(h:A):if true=true then A else B:=by
 rw[if_pos rfl]
 exact h
def Same (H H':Hp):Prop:=∀ b o,H b=some o->H' b=some o
theorem Same.refl (H:Hp):Same H H:=fun _ _ h=>h
theorem Same.trans {H H1 H2:Hp}(a:Same H H1) (b:Same H1 H2):Same H H2:=fun c o h=>b c o (a c o h)
theorem Same.free {H H':Hp}(e:Same H H') {l:Addr}(h:H' l=Option.none):H l=Option.none:=by
 cases q:H l with
 | none=>rfl
 | some o=>
  rw[e l o q] at h
  cases h
theorem Same.seq {K:zbz8}{H H':Hp}{a:Addr}{xs:List V}(e:Same H H') (h:SqL K H a xs):SqL K H' a xs:=by
 rcases h with (h|⟨o,h⟩)|h
 ·exact .inl (.inl (e _ _ h))
 ·exact .inl (.inr ⟨o,e _ _ h⟩)
 ·exact .inr h
end L2
set_option maxHeartbeats 1000000
namespace L2
open PySem PySem.Spec PyProof.Rows
@[irreducible] def br (c:Bool) (A B:Prop):Prop:=if c=true then A else B
section
variable {A B p:Prop}{c:Bool}
theorem zal6:br c A B=(if c=true then A else B):=by unfold br;rfl
theorem br_T (h:A):br true A B:=by unfold br;exact iteT h
theorem br_F (h:B):br false A B:=by unfold br;exact iteF h
theorem br_any (h1:c=true->A) (h2:c=false->B):br c A B:=by
 cases c with
 | true=>exact br_T (h1 rfl)
 | false=>exact br_F (h2 rfl)
theorem zg1 [Decidable p] (h1:p->A) (h2:¬ p->B):br (decide p) A B:=br_any (fun h=>h1 (of_decide_eq_true h)) fun h=>h2 (of_decide_eq_false h)
theorem zah3 [Decidable p] (hp:p) (h:A):br (decide p) A B:=zg1 (fun _=>h) fun n=>absurd hp n
theorem zan8 [Decidable p] (hp:¬ p) (h:B):br (decide p) A B:=zg1 (fun n=>absurd n hp) fun _=>h
theorem zc4 (h:br c B A):br (!c) A B:=by
 cases c with
 | true=>unfold br at h ⊢;simpa using h
 | false=>unfold br at h ⊢;simpa using h
end
def Chg (a:Addr) (H H':Hp):Prop:=∀ b o,b≠a->H b=some o->H' b=some o
theorem Chg.upd {H:Hp}{a:Addr}{o:HO}:Chg a H (upd H a o):=fun b u hb e=>by rw[zd5 hb];exact e
theorem Same.upd {H:Hp}{a:Addr}{o:HO}(h:H a=none):Same H (L2.upd H a o):=fun b u e=>by rw[zd5 (za4 e h)];exact e
theorem Same.chg {H0 H H':Hp}{a:Addr}(s:Same H0 H) (n:H0 a=none) (c:Chg a H H'):Same H0 H':=fun b o e=>c b o (za4 e n) (s b o e)
theorem Chg.refl (a:Addr) (H:Hp):Chg a H H:=fun _ _ _ e=>e
theorem Chg.trans {H H1 H2:Hp}{a:Addr}(x:Chg a H H1) (y:Chg a H1 H2):Chg a H H2:=fun b o h e=>y b o h (x b o h e)
theorem Chg.same {H H1 H2:Hp}{a:Addr}(x:Chg a H H1) (y:Same H1 H2):Chg a H H2:=fun b o h e=>y b o (x b o h e)
theorem Same.toChg {H H1:Hp}{a:Addr}(x:Same H H1):Chg a H H1:=fun b o _ e=>x b o e
theorem Same.at {H H':Hp}{b:Addr}{o:HO}(s:Same H H') (e:H b=some o):H' b=some o:=s b o e
theorem Chg.at {H H':Hp}{a b:Addr}{o:HO}(s:Chg a H H') (e:H b=some o) (n:b≠a):H' b=some o:=s b o n e
def qV (i:Nat):TE:=fun σ H Q=>match σ[i]? with
 | some (some v)=>Q v H
 | _=>False
section
variable {X:Cx}
theorem pq (i:Nat) {x:Str}{pos:Pos}(hN:X.N[i]?=some x:=by rfl) (hv:Vis X.env.scope x:=by first|exact Or.inl rfl|exact Or.inr (Or.inl rfl)|exact Or.inr (Or.inr rfl)) (hd:(x==("__debug__":Str))=false:=by decide)
  (hcd:(x==("__classdict__":Str))=false:=by decide):PE X (.Name x pos) (qV i):=fun pins s σ H Q I h=>by
 refine pe_var hN hv hd hcd pins s σ H Q I ?_
 unfold qV at h
 split at h
 ·rename_i v e
  exact⟨v,e,h⟩
 ·exact h.elim
@[irreducible] def zau8 (i j:Int) (H:Hp) (Q:VK):Prop:=IntMulOk i j/\Q (.int (i*j)) H
@[irreducible] def rDivI (i j:Int) (H:Hp) (Q:VK):Prop:=(j≠0/\j.natAbs.log2<9000)/\Q (.int (i.fdiv j)) H
@[irreducible] def zbb8 (i j:Int) (H:Hp) (Q:VK):Prop:=j≠0/\Q (.int (i.fmod j)) H
@[irreducible] def rPowI (i j:Int) (H:Hp) (Q:VK):Prop:=CPow i j/\Q (.int (i ^ j.toNat)) H
@[irreducible] def rCatL (a b:Addr) (H:Hp) (Q:VK):Prop:=∃ xs zs,H a=some (.lst xs)/\H b=some (.lst zs)/\xs.length+zs.length<=sizeLine /\
 ∀ p H',H p=none->Same H H'->H' p=some (.lst (xs++zs))->Q (.ref p) H'
@[irreducible] def rRepL (a:Addr) (k:Int) (H:Hp) (Q:VK):Prop:=∃ xs,H a=some (.lst xs)/\-(2 ^ 63)<=k/\k<2 ^ 63/\xs.length*k.toNat<=sizeLine /\
 ∀ p H',H p=none->Same H H'->H' p=some (.lst (List.replicate k.toNat xs).flatten)->Q (.ref p) H'
def rAddM:R2:=fun x y H Q=>match x,y with
 | .int i,.int j=>Q (.int (i+j)) H
 | .ref a,.ref b=>rCatL a b H Q
 | .str a,.str b=>a.length+b.length<=sizeLine/\Q (.str (a++b)) H
 | _,_=>False
def rSubM:R2:=fun x y H Q=>match x,y with
 | .int i,.int j=>Q (.int (i - j)) H
 | _,_=>False
def rMulM:R2:=fun x y H Q=>match x,y with
 | .int i,.int j=>zau8 i j H Q
 | .ref a,.int k=>rRepL a k H Q
 | _,_=>False
def rDivM:R2:=fun x y H Q=>match x,y with
 | .int i,.int j=>rDivI i j H Q
 | _,_=>False
def rModM:R2:=fun x y H Q=>match x,y with
 | .int i,.int j=>zbb8 i j H Q
 | _,_=>False
def rPowM:R2:=fun x y H Q=>match x,y with
 | .int i,.int j=>rPowI i j H Q
 | _,_=>False
theorem oAdd:OpR X (binaryOp .Add) rAddM:=by
 intro pins s σ H x y v u Q I rx ry h
 unfold rAddM at h
 split at h
 ·exact op_add pins s σ H _ _ v u Q I rx ry ⟨_,_,rfl,rfl,h⟩
 ·unfold rCatL at h
  obtain⟨xs,zs,h1,h2,h3,h4⟩:=h
  exact op_cat pins s σ H _ _ v u Q I rx ry ⟨_,_,xs,zs,rfl,rfl,h1,h2,h3,fun p hp=>h4 p _ hp (Same.upd hp) zc2⟩
 ·exact zau7 pins s σ H _ _ v u Q I rx ry ⟨_,_,rfl,rfl,h.1,h.2⟩
 ·exact h.elim
theorem oSub:OpR X (binaryOp .Sub) rSubM:=by
 intro pins s σ H x y v u Q I rx ry h
 unfold rSubM at h
 split at h
 ·exact op_sub pins s σ H _ _ v u Q I rx ry ⟨_,_,rfl,rfl,h⟩
 ·exact h.elim
theorem oMul:OpR X (binaryOp .Mult) rMulM:=by
 intro pins s σ H x y v u Q I rx ry h
 unfold rMulM at h
 split at h
 ·unfold zau8 at h
  obtain⟨t,rfl⟩:=rx
  obtain⟨t',rfl⟩:=ry
  exact mul_int ⟨.int _,H,I.tok _,⟨_,rfl⟩,h.2⟩ h.1
 ·unfold rRepL at h
  obtain⟨xs,h1,h2,h3,h4,h5⟩:=h
  exact op_rep pins s σ H _ _ v u Q I rx ry ⟨_,_,xs,rfl,rfl,h1,h2,h3,h4,fun p hp=>h5 p _ hp (Same.upd hp) zc2⟩
 ·exact h.elim
theorem oDiv:OpR X (binaryOp .FloorDiv) rDivM:=by
 intro pins s σ H x y v u Q I rx ry h
 unfold rDivM at h
 split at h
 ·unfold rDivI at h
  obtain⟨⟨h1,h2⟩,h3⟩:=h
  obtain⟨t,rfl⟩:=rx
  obtain⟨t',rfl⟩:=ry
  exact floordiv_int h1 ⟨.int _,H,I.tok _,⟨_,rfl⟩,h3⟩ (.inl (PyProof.noPylong_of_log2 h2))
 ·exact h.elim
theorem oMod:OpR X (binaryOp .Mod) rModM:=by
 intro pins s σ H x y v u Q I rx ry h
 unfold rModM at h
 split at h
 ·unfold zbb8 at h
  exact zbs1 pins s σ H _ _ v u Q I rx ry ⟨_,_,rfl,rfl,h.1,h.2⟩
 ·exact h.elim
theorem oPow:OpR X (binaryOp .Pow) rPowM:=by
 intro pins s σ H x y v u Q I rx ry h
 unfold rPowM at h
 split at h
 ·unfold rPowI at h
  exact op_pow pins s σ H _ _ v u Q I rx ry ⟨_,_,rfl,rfl,h.1,h.2⟩
 ·exact h.elim
def rNegM:V->Hp->VK->Prop:=fun x H Q=>match x with
 | .int i=>Q (.int (-i)) H
 | _=>False
theorem uNeg:UnR X (unaryOp .USub) rNegM:=by
 intro pins s σ H x v Q I rx h
 unfold rNegM at h
 split at h
 ·exact un_neg pins s σ H _ v Q I rx ⟨_,rfl,h⟩
 ·exact h.elim
section
variable {i j:Int}{H:Hp}{Q:VK}
theorem zbm6 (h:IntMulOk i j) (q:Q (.int (i*j)) H):zau8 i j H Q:=by unfold zau8;exact⟨h,q⟩
theorem log2_lt {n k:Nat}(h:n<2 ^ k) (hk:0<k):n.log2<k:=by
 by_cases h0:n=0
 ·subst h0;simpa using hk
 ·exact (Nat.log2_lt h0).mpr h
theorem zbs3 {j:Int}(h1:-(10 ^ 240)<j) (h2:j<10 ^ 240):j.natAbs<2 ^ 2000:=by
 have e:(10:Int) ^ 240=((10 ^ 240:Nat):Int):=by norm_cast
 have e2:(10:Nat) ^ 240<2 ^ 2000:=by decide +kernel
 rw[e] at h1 h2
 generalize hN:(10:Nat) ^ 240=N at h1 h2 e2
 generalize hM:(2:Nat) ^ 2000=M at e2
 omega
theorem div_rd (h1:0<j) (h2:j<10 ^ 240) (q:Q (.int (i / j)) H):rDivI i j H Q:=by
 unfold rDivI
 refine⟨⟨by omega,?_⟩,?_⟩
 ·have h:=log2_lt (zbs3 (j:=j) (by have:(0:Int)<10 ^ 240:=(by decide +kernel);generalize (10:Int) ^ 240=N at this;omega) h2) (by decide)
  omega
 ·rw[Int.fdiv_eq_ediv_of_nonneg _ (by omega)];exact q
theorem mod_rd (h1:0<j) (q:Q (.int (i % j)) H):zbb8 i j H Q:=by
 unfold zbb8
 refine⟨by omega,?_⟩
 rw[Int.fmod_eq_emod_of_nonneg _ (by omega)];exact q
theorem pow_rd (h:CPow i j) (q:Q (.int (i ^ j.toNat)) H):rPowI i j H Q:=by unfold rPowI;exact⟨h,q⟩
theorem zl7 {a b:Addr}{xs zs:List V}(h1:H a=some (.lst xs)) (h2:H b=some (.lst zs)) (h3:xs.length+zs.length<=sizeLine)
  (q:∀ p H',H p=none->Same H H'->H' p=some (.lst (xs++zs))->Q (.ref p) H'):rCatL a b H Q:=by unfold rCatL;exact⟨xs,zs,h1,h2,h3,q⟩
end
def rLtM:R2:=fun x y H Q=>match x,y with
 | .int i,.int j=>Q (.bl (decide (i<j))) H
 | _,_=>False
def rLeM:R2:=fun x y H Q=>match x,y with
 | .int i,.int j=>Q (.bl (decide (i<=j))) H
 | _,_=>False
def rGtM:R2:=fun x y H Q=>match x,y with
 | .int i,.int j=>Q (.bl (decide (j<i))) H
 | _,_=>False
theorem oLt:OpR X (compareOp .Lt) rLtM:=by
 intro pins s σ H x y v u Q I rx ry h
 unfold rLtM at h
 split at h
 ·exact op_lt pins s σ H _ _ v u Q I rx ry ⟨_,_,rfl,rfl,h⟩
 ·exact h.elim
theorem oLe:OpR X (compareOp .LtE) rLeM:=by
 intro pins s σ H x y v u Q I rx ry h
 unfold rLeM at h
 split at h
 ·exact op_le pins s σ H _ _ v u Q I rx ry ⟨_,_,rfl,rfl,h⟩
 ·exact h.elim
theorem oGt:OpR X (compareOp .Gt) rGtM:=by
 intro pins s σ H x y v u Q I rx ry h
 unfold rGtM at h
 split at h
 ·exact op_gt pins s σ H _ _ v u Q I rx ry ⟨_,_,rfl,rfl,h⟩
 ·exact h.elim
inductive EqR (K:zbz8) (H:Hp):Nat->V->V->Bool->Prop where
 | flat {n:Nat}{x y:V}(fx:zk9 x=true) (fy:zk9 y=true):EqR K H n x y (eqV x y)
 | tup {n:Nat}{a b:Addr}{xs ys:List V}(e:Nat->Bool) (ha:SqT K H a xs) (hb:SqT K H b ys) (h:∀ (j:Nat) (x y:V),xs[j]?=some x->ys[j]?=some y->EqR K H n x y (e j)) :
   EqR K H (n+1) (.ref a) (.ref b) ((List.range (min xs.length ys.length)).all e&&xs.length==ys.length)
 | lst {n:Nat}{a b:Addr}{xs ys:List V}(e:Nat->Bool) (ha:SqL K H a xs) (hb:SqL K H b ys) (hl:xs.length=ys.length) (h:∀ (j:Nat) (x y:V),xs[j]?=some x->ys[j]?=some y->EqR K H n x y (e j)) :
   EqR K H (n+1) (.ref a) (.ref b) ((List.range xs.length).all e)
 | lstN {n:Nat}{a b:Addr}{xs ys:List V}(ha:SqL K H a xs) (hb:SqL K H b ys) (hl:xs.length≠ys.length):EqR K H (n+1) (.ref a) (.ref b) false
theorem zbj6 {x:V}(f:zk9 x=true):eqV x x=true:=by
 cases x<;>first|rfl|(simp[eqV];done)|exact absurd (show false=true from f) zca5
section
variable {pins:List (Addr×Obj)}{σ:St}{H:Hp}{s:Shared}
theorem EqR.self (I:Inv X pins σ H s) {n:Nat}{x y:V}{b:Bool}(h:EqR X.K H n x y b):x=y->b=true:=by
 induction h with
 | flat fx fy=>rintro rfl;exact zbj6 fx
 | tup e ha hb h ih=>
  intro q
  cases q
  have q:=I.tuple_inj ha hb
  subst q
  rw[Nat.min_self,zcb1]
  refine⟨zcc0.mpr fun j hj=>?_,by simp⟩
  have hj:=zcf4.mp hj
  exact ih j _ _ (zbz6 hj) (zbz6 hj) rfl
 | lst e ha hb hl h ih=>
  intro q
  cases q
  have q:=I.list_inj ha hb
  subst q
  refine zcc0.mpr fun j hj=>?_
  have hj:=zcf4.mp hj
  exact ih j _ _ (zbz6 hj) (zbz6 hj) rfl
 | lstN ha hb hl=>
  intro q
  cases q
  exact absurd (congrArg List.length (I.list_inj ha hb)) hl
theorem zr1 (A:Around):A.in1.units=A.units+1:=rfl
mutual
theorem EqR.at (I:Inv X pins σ H s):∀ {n:Nat}{x y:V}{b:Bool},EqR X.K H n x y b->∀ {u v:Value}{A:Around},RelV x u->RelV y v->A.units+n<cLine->SeqAt.EqAt A s u v b
 | _,_,_,_,.flat fx fy,u,v,A,rx,ry,_=>zbb6 rx ry fx fy
 | _,.ref a,.ref b,_,h,u,v,A,rx,ry,hu=>by
  cases rx
  cases ry
  by_cases e:a=b
  ·subst e
   rw[h.self I rfl]
   exact SeqAt.EqAt.same _
  ·exact SeqAt.EqAt.of_refs e (EqR.rc I h hu)
theorem EqR.rc (I:Inv X pins σ H s):∀ {n:Nat}{a b:Addr}{c:Bool},EqR X.K H n (.ref a) (.ref b) c->∀ {A:Around},A.units+n<cLine->SeqAt.RcAt A s (.ref a) (.ref b) c
 | _,_,_,_,.flat fx _,_,_=>absurd (show false=true from fx) zca5
 | _,a,b,_,.tup (xs:=xs) (ys:=ys) e ha hb h,A,hu=>by
  obtain⟨its,r1,t1,z1⟩:=I.tuple ha
  obtain⟨its2,r2,t2,z2⟩:=I.tuple hb
  have l1:its.toArray.size=xs.length:=by rw[zca4];exact r1.length.symm
  have l2:its2.toArray.size=ys.length:=by rw[zca4];exact r2.length.symm
  have q:=SeqAt.RcAt.tuples (A:=A) (e:=e) t1 t2 (by omega) fun j h1 h2=>by
   rw[l1] at h1
   rw[l2] at h2
   obtain⟨u1,e1,q1⟩:=r1.get (zbz6 h1)
   obtain⟨u2,e2,q2⟩:=r2.get (zbz6 h2)
   have i1:its.toArray[j]=u1:=by
    have:=(zbz9.mp e1).2
    simpa using this
   have i2:its2.toArray[j]=u2:=by
    have:=(zbz9.mp e2).2
    simpa using this
   rw[i1,i2]
   exact EqR.at I (h j _ _ (zbz6 h1) (zbz6 h2)) q1 q2 (by rw[zr1];omega)
  rw[l1,l2] at q
  exact q
 | _,a,b,_,.lst (xs:=xs) (ys:=ys) e ha hb hl h,A,hu=>by
  obtain⟨its,r1,t1,z1⟩:=I.list ha
  obtain⟨its2,r2,t2,z2⟩:=I.list hb
  have l1:its.toArray.size=xs.length:=by rw[zca4];exact r1.length.symm
  have l2:its2.toArray.size=ys.length:=by rw[zca4];exact r2.length.symm
  have q:=SeqAt.RcAt.lists (A:=A) (e:=e) t1.isList t2.isList (by rw[l1,l2];exact hl) (by omega) fun j h1 h2=>by
   rw[l1] at h1
   rw[l2] at h2
   obtain⟨u1,e1,q1⟩:=r1.get (zbz6 h1)
   obtain⟨u2,e2,q2⟩:=r2.get (zbz6 h2)
   have i1:its.toArray[j]=u1:=by
    have:=(zbz9.mp e1).2
    simpa using this
   have i2:its2.toArray[j]=u2:=by
    have:=(zbz9.mp e2).2
    simpa using this
   rw[i1,i2]
   exact EqR.at I (h j _ _ (zbz6 h1) (zbz6 h2)) q1 q2 (by rw[zr1];omega)
  rw[l1] at q
  exact q
 | _,a,b,_,.lstN (xs:=xs) (ys:=ys) ha hb hl,A,hu=>by
  obtain⟨its,r1,t1,z1⟩:=I.list ha
  obtain⟨its2,r2,t2,z2⟩:=I.list hb
  have l1:its.toArray.size=xs.length:=by rw[zca4];exact r1.length.symm
  have l2:its2.toArray.size=ys.length:=by rw[zca4];exact r2.length.symm
  exact SeqAt.RcAt.lists_lengths t1.isList t2.isList (by rw[l1,l2];simpa using hl) (by omega)
end
theorem EqR.rcNe (I:Inv X pins σ H s):∀ {n:Nat}{a b:Addr}{c:Bool},EqR X.K H n (.ref a) (.ref b) c->∀ {A:Around},A.units+n<cLine->SeqAt.RcNeAt A s (.ref a) (.ref b) (!c)
 | _,_,_,_,.flat fx _,_,_=>absurd (show false=true from fx) zca5
 | _,a,b,_,.tup (xs:=xs) (ys:=ys) e ha hb h,A,hu=>by
  obtain⟨its,r1,t1,z1⟩:=I.tuple ha
  obtain⟨its2,r2,t2,z2⟩:=I.tuple hb
  have l1:its.toArray.size=xs.length:=by rw[zca4];exact r1.length.symm
  have l2:its2.toArray.size=ys.length:=by rw[zca4];exact r2.length.symm
  have q:=SeqAt.RcNeAt.tuples (A:=A) (e:=e) t1 t2 (by omega) fun j h1 h2=>by
   rw[l1] at h1
   rw[l2] at h2
   obtain⟨u1,e1,q1⟩:=r1.get (zbz6 h1)
   obtain⟨u2,e2,q2⟩:=r2.get (zbz6 h2)
   have i1:its.toArray[j]=u1:=by
    have:=(zbz9.mp e1).2
    simpa using this
   have i2:its2.toArray[j]=u2:=by
    have:=(zbz9.mp e2).2
    simpa using this
   rw[i1,i2]
   exact EqR.at I (h j _ _ (zbz6 h1) (zbz6 h2)) q1 q2 (by rw[zr1];omega)
  rw[l1,l2] at q
  exact q
 | _,a,b,_,.lst (xs:=xs) (ys:=ys) e ha hb hl h,A,hu=>by
  obtain⟨its,r1,t1,z1⟩:=I.list ha
  obtain⟨its2,r2,t2,z2⟩:=I.list hb
  have l1:its.toArray.size=xs.length:=by rw[zca4];exact r1.length.symm
  have l2:its2.toArray.size=ys.length:=by rw[zca4];exact r2.length.symm
  have q:=SeqAt.RcNeAt.lists (A:=A) (e:=e) t1.isList t2.isList (by rw[l1,l2];exact hl) (by omega) fun j h1 h2=>by
   rw[l1] at h1
   rw[l2] at h2
   obtain⟨u1,e1,q1⟩:=r1.get (zbz6 h1)
   obtain⟨u2,e2,q2⟩:=r2.get (zbz6 h2)
   have i1:its.toArray[j]=u1:=by
    have:=(zbz9.mp e1).2
    simpa using this
   have i2:its2.toArray[j]=u2:=by
    have:=(zbz9.mp e2).2
    simpa using this
   rw[i1,i2]
   exact EqR.at I (h j _ _ (zbz6 h1) (zbz6 h2)) q1 q2 (by rw[zr1];omega)
  rw[l1] at q
  exact q
 | _,a,b,_,.lstN (xs:=xs) (ys:=ys) ha hb hl,A,hu=>by
  obtain⟨its,r1,t1,z1⟩:=I.list ha
  obtain⟨its2,r2,t2,z2⟩:=I.list hb
  have l1:its.toArray.size=xs.length:=by rw[zca4];exact r1.length.symm
  have l2:its2.toArray.size=ys.length:=by rw[zca4];exact r2.length.symm
  exact SeqAt.RcNeAt.lists_lengths t1.isList t2.isList (by rw[l1,l2];simpa using hl) (by omega)
end
@[irreducible] def rEqO (K:zbz8) (a b:Addr) (H:Hp) (Q:VK):Prop:=∃ n c,n<=40/\EqR K H n (.ref a) (.ref b) c/\Q (.bl c) H
def rEqM (K:zbz8):R2:=fun x y H Q=>match x,y with
 | .int i,.int j=>Q (.bl (decide (i=j))) H
 | .bl i,.bl j=>Q (.bl (decide (i=j))) H
 | .str i,.str j=>Q (.bl (decide (i=j))) H
 | .ref a,.ref b=>rEqO K a b H Q
 | x,y=>scal x y=true/\Q (.bl (decide (x=y))) H
def rNeM (K:zbz8):R2:=fun x y H Q=>rEqM K x y H fun v H'=>match v with
 | .bl b=>Q (.bl (!b)) H'
 | _=>False
theorem zn3 {α β:Type}[DecidableEq α] [DecidableEq β] {f:α->β}(hf:∀ a b,f a=f b->a=b) (a b:α):decide (f a=f b)=decide (a=b):=by
 by_cases h:a=b
 ·subst h;simp
 ·rw[decide_eq_false h,decide_eq_false fun e=>h (hf _ _ e)]
theorem oEq (hu:X.A.units+40<cLine):OpR X (compareOp .Eq) (rEqM X.K):=by
 intro pins s σ H x y v u Q I rx ry h
 unfold rEqM at h
 split at h
 ·rename_i i j
  exact zan6 pins s σ H _ _ v u Q I rx ry ⟨rfl,by rw[zn3 (f:=V.int) fun a b e=>V.int.inj e];exact h⟩
 ·exact zan6 pins s σ H _ _ v u Q I rx ry ⟨rfl,by rw[zn3 (f:=V.bl) fun a b e=>V.bl.inj e];exact h⟩
 ·exact zan6 pins s σ H _ _ v u Q I rx ry ⟨rfl,by rw[zn3 (f:=V.str) fun a b e=>V.str.inj e];exact h⟩
 ·unfold rEqO at h
  obtain⟨n,c,hn,h1,h2⟩:=h
  cases rx
  cases ry
  exact EqR.rc I h1 (A:=X.A) (by omega) _ _ _ _ ⟨.bl c,H,I,rfl,h2⟩
 ·exact zan6 pins s σ H _ _ v u Q I rx ry h
theorem oNe (hu:X.A.units+40<cLine):OpR X (compareOp .NotEq) (rNeM X.K):=by
 intro pins s σ H x y v u Q I rx ry h
 unfold rNeM rEqM at h
 split at h
 ·rename_i i j
  exact zap2 pins s σ H _ _ v u Q I rx ry ⟨rfl,by rw[zn3 (f:=V.int) fun a b e=>V.int.inj e];exact h⟩
 ·exact zap2 pins s σ H _ _ v u Q I rx ry ⟨rfl,by rw[zn3 (f:=V.bl) fun a b e=>V.bl.inj e];exact h⟩
 ·exact zap2 pins s σ H _ _ v u Q I rx ry ⟨rfl,by rw[zn3 (f:=V.str) fun a b e=>V.str.inj e];exact h⟩
 ·unfold rEqO at h
  obtain⟨n,c,hn,h1,h2⟩:=h
  cases rx
  cases ry
  exact EqR.rcNe I h1 (A:=X.A) (by omega) _ _ _ _ ⟨.bl (!c),H,I,rfl,h2⟩
 ·exact zap2 pins s σ H _ _ v u Q I rx ry ⟨h.1,h.2⟩
section
variable {K:zbz8}{H:Hp}{Q:VK}{a b:Addr}{c:Bool}{n:Nat}
end
def qB (t:TE):TT:=fun σ H Q=>t σ H fun x H1=>match x with
 | .bl c=>Q c H1
 | .int i=>Q (!decide (i=0)) H1
 | _=>False
theorem ptV {e:Expr}{t:TE}(h:PE X e t) (he:∀ whole,isTrue e X.env whole=(do let v ← whole;standAt e.pos;holding [v] (truthy v)):=by intro _;rfl):PT X e (qB t):=fun pins s σ H Q I hw=>by
 refine isTrue_plain (thn (h pins s σ H _ I hw) fun v s1 ⟨x,H1,I1,r1,q1⟩=>?_) (he _)
 dsimp only at q1
 split at q1
 ·exact zax0 pins s1 σ H1 _ v Q I1 r1 ⟨_,rfl,q1⟩
 ·rename_i i
  refine zax0 pins s1 σ H1 _ v Q I1 r1 ⟨_,rfl,?_⟩
  have e:(i != 0)=!decide (i=0):=by by_cases h:i=0<;>simp[h]
  rw[e];exact q1
 ·exact q1.elim
theorem ptC {a b:Expr}{ta tb:TE}{pos:Pos}{op:CmpOp}{r:R2}(ho:OpR X (compareOp op) r) (ha:PE X a ta) (hb:PE X b tb) (hm:behindInMarks op b=false:=by first|exact zbm5 _|with_unfolding_all rfl):PT X (.Compare a [op] [b] pos) (qB (tOp r ta tb)):=by
 intro pins s σ H Q I h
 refine wpAny_isTrue_Compare1 (thn (ha pins s σ H _ I h) fun v s1 ⟨x,H1,I1,r1,q1⟩=>thn (hb pins s1 σ H1 _ I1 q1) fun u s2 ⟨y,H2,I2,r2,q2⟩=>
  thn (ho pins s2 σ H2 x y v u _ I2 r1 r2 q2) fun c s3 ⟨z,H3,I3,r3,q3⟩=>?_) hm
 dsimp only at q3
 split at q3
 ·cases r3
  exact wpAny_truthy_bool ⟨H3,I3,q3⟩
 ·rename_i i
  refine zax0 pins s3 σ H3 _ c Q I3 r3 ⟨_,rfl,?_⟩
  have e:(i != 0)=!decide (i=0):=by by_cases h:i=0<;>simp[h]
  rw[e];exact q3
 ·exact q3.elim
theorem peC {a b:Expr}{ta tb:TE}{pos:Pos}{op:CmpOp}{r:R2}(ho:OpR X (compareOp op) r) (ha:PE X a ta) (hb:PE X b tb) (hm:behindInMarks op b=false:=by first|exact zbm5 _|with_unfolding_all rfl):PE X (.Compare a [op] [b] pos) (tOp r ta tb):=
 zbr0 ho ha hb hm
variable {a b:Expr}{rest:List Expr}{tA tB':TT}{ta tb:TE}{pos:Pos}
def qAnd (t u:TT):TT:=fun σ H Q=>t σ H fun c H1=>br c (u σ H1 Q) (Q false H1)
def qOr (t u:TT):TT:=fun σ H Q=>t σ H fun c H1=>br c (Q true H1) (u σ H1 Q)
theorem pwAnd (ha:PT X a tA) (hb:PW X (.BoolOp .And (b :: rest) pos) tB'):PW X (.BoolOp .And (a :: b :: rest) pos) (qAnd tA tB'):=fun wh pins s σ H Q I h=>
 pw_and ha hb wh pins s σ H Q I (by unfold qAnd at h;simp only[zal6] at h;exact h)
theorem pwOr (ha:PT X a tA) (hb:PW X (.BoolOp .Or (b :: rest) pos) tB'):PW X (.BoolOp .Or (a :: b :: rest) pos) (qOr tA tB'):=fun wh pins s σ H Q I h=>
 pw_or ha hb wh pins s σ H Q I (by unfold qOr at h;simp only[zal6] at h;exact h)
def qAndV (ta tb:TE):TE:=fun σ H Q=>ta σ H fun x H1=>match x with
 | .bl c=>br c (tb σ H1 Q) (Q (.bl false) H1)
 | _=>False
def qNotV (ta:TE):TE:=fun σ H Q=>ta σ H fun x H1=>match x with
 | .bl c=>Q (.bl (!c)) H1
 | _=>False
theorem zy1 (ha:PE X a ta) (hb:PE X (.BoolOp .And (b :: rest) pos) tb):PE X (.BoolOp .And (a :: b :: rest) pos) (qAndV ta tb):=by
 intro pins s σ H Q I h
 refine BoolOp_and (thn (ha pins s σ H _ I h) fun v s1 ⟨x,H1,I1,r1,q1⟩=>?_)
 dsimp only at q1
 split at q1
 ·rename_i c
  cases r1
  refine wpAny_truthy_bool ?_
  rw[zal6] at q1
  cases c with
  | true=>exact hb pins s1 σ H1 Q I1 (by simpa using q1)
  | false=>exact⟨.bl false,H1,I1,rfl,by simpa using q1⟩
 ·exact q1.elim
theorem peNot (ha:PE X a ta):PE X (.UnaryOp .Not a pos) (qNotV ta):=by
 intro pins s σ H Q I h
 refine UnaryOp_ (thn (ha pins s σ H _ I h) fun v s1 ⟨x,H1,I1,r1,q1⟩=>?_)
 dsimp only at q1
 split at q1
 ·rename_i c
  cases r1
  exact not_of (wpAny_truthy_bool ⟨.bl (!c),H1,I1,rfl,q1⟩)
 ·exact q1.elim
variable {st:Stmt}{t u:TS}{e:Expr}{te:TE}
def qIfS (c:TT) (t u:TS):TS:=fun D σ H=>c σ H fun b H1=>br b (t D σ H1) (u D σ H1)
theorem psIf {c:Expr}{a b:List Stmt}{tc:TT}(hc:PT X c tc) (ha:PSs X a t) (hb:PSs X b u):PS X (.If c a b pos) (qIfS tc t u):=fun pins s σ H D I h=>
 ps_if hc ha hb pins s σ H D I (by unfold qIfS at h;simp only[zal6] at h;exact h)
@[irreducible] def zan4 (J:It) (g:TG) (tb:TS) (D:Ends) (σ:St) (H1:Hp):Prop:=∃ W:Nat->Nat->St->Hp->Prop,(∃ m,W 0 m σ H1)/\∀ i m σ H,W i m σ H ->
 (J.stop i H/\D.nx σ H)∨(J.go i H/\∃ N:St->Hp->Prop,(∀ σ' H',N σ' H'->∃ m',m'<m/\W (i+1) m' σ' H')/\∀ x H',J.yld i H x H'->g x σ H' fun σ2 H2=>tb { D with nx:=N,ct:=N,bk:=D.nx } σ2 H2)
def qFor (wi:TI) (g:TG) (tb:TS):TS:=fun D σ H=>wi σ H fun J H1=>zan4 J g tb D σ H1
theorem zt7 {iter tg:Expr}{body:List Stmt}{wi:TI}{g:TG}{tb:TS}{pos:Pos}(hp:PassesOwn (model X.prog X.w) X.A X.env X.xe) (hc:X.calm=true) (hi:PI X tg iter wi) (hg:PG X tg g) (hb:PSs X body tb)
  (hs:∀ x,foldedSetIterable iter X.env x=pure x:=by intro _;rfl):PS X (.For tg iter body [] pos) (qFor wi g tb):=fun pins s σ H D I h=>
 ps_for hp hc hi hg hb hs pins s σ H D I (by unfold qFor at h;unfold zan4 at h;exact h)
@[irreducible] def zav0 (K:zbz8) (a:Addr) (H:Hp) (R:It->Hp->Prop):Prop:=((∃ xs,SqL K H a xs)/\R (Itl K a) H)∨((∃ xs,SqT K H a xs)/\R (Itt K a) H)
def qiSeq (K:zbz8) (tl:TE):TI:=fun σ H R=>tl σ H fun x H1=>match x with
 | .ref a=>zav0 K a H1 R
 | _=>False
theorem piSeq {tg l:Expr}{tl:TE}(hl:PE X l tl):PI X tg l (qiSeq X.K tl):=by
 intro pins s σ H R I h
 refine thn (hl pins s σ H _ I h) fun v s1 ⟨x,H1,I1,r1,q1⟩=>?_
 dsimp only at q1
 split at q1
 ·rename_i a
  unfold zav0 at q1
  cases r1
  have fp:∀ b∈[s1.heap.objs.size],FpOk X pins H1 b:=fun b hb=>by
   have e:b=s1.heap.objs.size:=by simpa using hb
   subst e
   exact I1.fpOk (zcb6 _) (I1.hok.fresh (zcb6 _))
  rcases q1 with ⟨⟨xs,hq⟩,q⟩|⟨⟨xs,hq⟩,q⟩
  ·obtain⟨its,rv,p,hz⟩:=I1.list hq
   refine wpAny_pyIter_list p.isList ?_
   exact⟨s1.heap.objs.size,[s1.heap.objs.size],_,_,H1,rfl,I1.kept (t':=s1.toks) fun b o e=>zca8 _ e,zaz4 a _,⟨_,zcd1 _ rfl,rfl,rfl⟩,fp,q⟩
  ·obtain⟨its,rv,p,hz⟩:=I1.tuple hq
   refine wpAny_pyIter_tuple (show s1.heap.IsTuple a its.toArray from p) ?_
   exact⟨s1.heap.objs.size,[s1.heap.objs.size],_,_,H1,rfl,I1.kept (t':=s1.toks) fun b o e=>zca8 _ e,zav4 a _,⟨_,zcd1 _ rfl,rfl,rfl⟩,fp,q⟩
 ·exact q1.elim
@[irreducible] def zx6 (i j:Int) (H:Hp) (R:It->Hp->Prop):Prop:=(-(2 ^ 62)<=i/\i<2 ^ 62/\-(2 ^ 62)<=j/\j<2 ^ 62)/\R (Itr i (j - i).toNat) H
def qiRng (ta:TA):TI:=fun σ H R=>ta σ H fun vs H1=>match vs with
 | [.int j]=>zx6 0 j H1 R
 | [.int i,.int j]=>zx6 i j H1 R
 | _=>False
theorem zal8 {tg a:Expr}{ta:TA}{p pos:Pos}(hm:X.mg "range"=none) (ha:PA X [a] ta) (hg:Gl X "range":=by rfl) (hs:starEach [a] X.env=[(false,eval a X.env)]:=by rfl):PI X tg (.Call (.Name "range" p) [a] [] pos) (qiRng ta):=by
 intro pins s σ H R I h
 refine Call_ (zx9 I hg hm boot_range (PyProof.Rows.callWith_type1 (thn (ha pos pins s σ H _ I h) fun us s1 ⟨vs,H1,I1,r1,q1⟩=>?_) hs rfl))
 dsimp only at q1
 split at q1
 ·unfold zx6 at q1
  obtain⟨⟨a1,a2,a3,a4⟩,q⟩:=q1
  cases r1 with
  | cons r rr=>
   cases rr
   obtain⟨t,rfl⟩:=r
   exact call_range_1 (zz3 I1 a1 a2 a3 a4 q)
 ·unfold zx6 at q1
  cases r1 with
  | cons r rr=>
   cases rr with
   | cons r' rr=>
    cases rr
    obtain⟨t,rfl⟩:=r
    obtain⟨t',rfl⟩:=r'
    obtain⟨⟨a1,a2,a3,a4⟩,q⟩:=q1
    exact call_range_2 (zz3 I1 a1 a2 a3 a4 q)
 ·exact q1.elim
theorem zbk9 {tg a b:Expr}{ta:TA}{p pos:Pos}(hm:X.mg "range"=none) (ha:PA X [a,b] ta) (hg:Gl X "range":=by rfl) (hs:starEach [a,b] X.env=[(false,eval a X.env),(false,eval b X.env)]:=by rfl) (hs2:starEach [b] X.env=[(false,eval b X.env)]:=by rfl) :
  PI X tg (.Call (.Name "range" p) [a,b] [] pos) (qiRng ta):=by
 intro pins s σ H R I h
 refine Call_ (zx9 I hg hm boot_range (PyProof.Rows.callWith_type1 (thn (ha pos pins s σ H _ I h) fun us s1 ⟨vs,H1,I1,r1,q1⟩=>?_) (by rw[hs,hs2]) (by rw[hs2];rfl)))
 dsimp only at q1
 split at q1
 ·unfold zx6 at q1
  obtain⟨⟨a1,a2,a3,a4⟩,q⟩:=q1
  cases r1 with
  | cons r rr=>
   cases rr
   obtain⟨t,rfl⟩:=r
   exact call_range_1 (zz3 I1 a1 a2 a3 a4 q)
 ·unfold zx6 at q1
  cases r1 with
  | cons r rr=>
   cases rr with
   | cons r' rr=>
    cases rr
    obtain⟨t,rfl⟩:=r
    obtain⟨t',rfl⟩:=r'
    obtain⟨⟨a1,a2,a3,a4⟩,q⟩:=q1
    exact call_range_2 (zz3 I1 a1 a2 a3 a4 q)
 ·exact q1.elim
section
variable {K:zbz8}{g:TG}{tb:TS}{D:Ends}{σ:St}{H:Hp}{R:It->Hp->Prop}
theorem zc3 {a:Addr}{xs:List V}(h:H a=some (.lst xs)) (q:R (Itl K a) H):zav0 K a H R:=by unfold zav0;exact .inl ⟨⟨xs,SqL.of h⟩,q⟩
theorem zat6 {a:Addr}{xs:List V}(h:H a=some (.tup xs)) (q:R (Itt K a) H):zav0 K a H R:=by unfold zav0;exact .inr ⟨⟨xs,SqT.of h⟩,q⟩
theorem zq8 {i j:Int}(h1:-(2 ^ 62)<=i) (h2:i<2 ^ 62) (h3:-(2 ^ 62)<=j) (h4:j<2 ^ 62) (q:R (Itr i (j - i).toNat) H):zx6 i j H R:=by unfold zx6;exact⟨⟨h1,h2,h3,h4⟩,q⟩
theorem zh5 {a:Addr}{xs:List V}(Pv:Nat->St->Hp->Prop) (h0:Pv 0 σ H) (hl:∀ i σ H,i<=xs.length->Pv i σ H->SqL K H a xs)
  (hs:∀ i x σ H,xs[i]?=some x->Pv i σ H->g x σ H fun σ2 H2=>tb { D with nx:=Pv (i+1),ct:=Pv (i+1),bk:=D.nx } σ2 H2) (hd:∀ σ H,Pv xs.length σ H->D.nx σ H):zan4 (Itl K a) g tb D σ H:=by
 unfold zan4;exact zbi8 Pv h0 hl hs hd
theorem zbi3 {a:Addr}{xs:List V}(Pv:Nat->St->Hp->Prop) (h0:Pv 0 σ H) (hl:∀ i σ H,i<=xs.length->Pv i σ H->SqT K H a xs)
  (hs:∀ i x σ H,xs[i]?=some x->Pv i σ H->g x σ H fun σ2 H2=>tb { D with nx:=Pv (i+1),ct:=Pv (i+1),bk:=D.nx } σ2 H2) (hd:∀ σ H,Pv xs.length σ H->D.nx σ H):zan4 (Itt K a) g tb D σ H:=by
 unfold zan4;exact zbs7 Pv h0 hl hs hd
theorem zq0 {lo:Int}{n:Nat}(Pv:Nat->St->Hp->Prop) (h0:Pv 0 σ H)
  (hs:∀ i σ H,i<n->Pv i σ H->g (.int (lo+i)) σ H fun σ2 H2=>tb { D with nx:=Pv (i+1),ct:=Pv (i+1),bk:=D.nx } σ2 H2) (hd:∀ σ H,Pv n σ H->D.nx σ H):zan4 (Itr lo n) g tb D σ H:=by
 unfold zan4;exact zay1 Pv h0 hs hd
end
section
variable {c:TT}{tb:TS}{D:Ends}{σ:St}{H H1:Hp}{W:Nat->St->Hp->Prop}{m:Nat}{p:Prop}
end
@[irreducible] def rNewT (xs:List V) (H:Hp) (Q:VK):Prop:=xs.length<=sizeLine/\∀ p H',H p=none->Same H H'->H' p=some (.tup xs)->Q (.ref p) H'
@[irreducible] def rNewL (xs:List V) (H:Hp) (Q:VK):Prop:=xs.length<=sizeLine/\∀ p H',H p=none->Same H H'->H' p=some (.lst xs)->Q (.ref p) H'
def qTup (t:TA):TE:=fun σ H Q=>t σ H fun xs H1=>rNewT xs H1 Q
def qLst (t:TA):TE:=fun σ H Q=>t σ H fun xs H1=>rNewL xs H1 Q
theorem zr0 {es:List Expr}{x1} {t:TA}(h:PA X es t):PE X (.Tuple es x1 pos) (qTup t):=by
 intro pins s σ H Q I hq
 refine wpAny_Tuple_spliced (thn (h pos pins s σ H _ I hq) fun us s1 ⟨xs,H1,I1,r,z⟩=>?_)
 unfold rNewT at z
 obtain⟨z,q⟩:=z
 refine⟨by rw[← r.length];exact z,?_⟩
 have hf:H1 s1.heap.objs.size=none:=I1.hok.fresh (zcb6 _)
 refine⟨.ref s1.heap.objs.size,upd H1 s1.heap.objs.size (.tup xs),I1.laid (t':=s1.toks) (fun b u e=>zca8 _ e) (zcb6 _) ?_,rfl,q _ _ hf (Same.upd hf) zc2⟩
 exact⟨z,us,r,⟨_,zcd1 _ rfl,rfl,_,rfl⟩⟩
theorem zg9 {es:List Expr}{t:TA}(h:PA X es t):PE X (.List es pos) (qLst t):=by
 intro pins s σ H Q I hq
 refine wpAny_List_spliced (thn (h pos pins s σ H _ I hq) fun us s1 ⟨xs,H1,I1,r,z⟩=>?_)
 unfold rNewL at z
 obtain⟨z,q⟩:=z
 refine⟨by rw[← r.length];exact z,?_⟩
 have hf:H1 s1.heap.objs.size=none:=I1.hok.fresh (zcb6 _)
 refine⟨.ref s1.heap.objs.size,upd H1 s1.heap.objs.size (.lst xs),I1.laid (t':=s1.toks) (fun b u e=>zca8 _ e) (zcb6 _) ?_,rfl,q _ _ hf (Same.upd hf) zc2⟩
 exact⟨z,us,0,r,zcd1 _ rfl⟩
@[irreducible] def rIxA (K:zbz8) (p:Addr) (i:Int) (H:Hp) (Q:VK):Prop:=∃ xs v,(SqL K H p xs∨SqT K H p xs)/\atI xs i=some v/\Q v H
def rIxM (K:zbz8):R2:=fun x y H Q=>match x,y with
 | .ref p,.int i=>rIxA K p i H Q
 | .str z,.int i=>∃ c,z.length<=sizeLine/\atI z.cps.toList i=some c/\Q (.str ⟨#[c]⟩) H
 | _,_=>False
theorem ixM:IxR X (rIxM X.K):=by
 intro value slice pins s σ H x y v u Q I rx ry h hs
 unfold rIxM at h
 split at h
 ·unfold rIxA at h
  obtain⟨xs,z,h1,h2,q⟩:=h
  rcases h1 with h1|h1
  ·exact zbq2 value slice pins s σ H _ _ v u Q I rx ry ⟨_,xs,_,z,rfl,rfl,h1,h2,q⟩ hs
  ·exact ix_tup value slice pins s σ H _ _ v u Q I rx ry ⟨_,xs,_,z,rfl,rfl,h1,h2,q⟩ hs
 ·obtain⟨c,h1,h2,q⟩:=h
  exact ix_str value slice pins s σ H _ _ v u Q I rx ry ⟨_,_,c,rfl,rfl,h1,h2,q⟩ hs
 ·exact h.elim
theorem peIx (ha:PE X a ta) (hb:PE X b tb) (hs:zaq3 b:=by exact fun _ _=>rfl):PE X (.Subscript a b pos) (tOp (rIxM X.K) ta tb):=pe_ix ixM ha hb hs
@[irreducible] def rSetA (p:Addr) (k:Int) (v:V) (H:Hp) (Q:Hp->Prop):Prop:=∃ xs j,H p=some (.lst xs)/\ixN xs.length k=some j/\∀ H',Chg p H H'->H' p=some (.lst (xs.set j v))->Q H'
def rSetM:TSet:=fun o i v H Q=>match o,i with
 | .ref p,.int k=>rSetA p k v H Q
 | _,_=>False
theorem setM:PSet X rSetM:=by
 intro pins s σ H o i v ov iv u Q I ro ri rv h
 unfold rSetM at h
 split at h
 ·unfold rSetA at h
  obtain⟨xs,j,h1,h2,q⟩:=h
  exact zbk2 pins s σ H _ _ v ov iv u Q I ro ri rv ⟨_,xs,_,j,rfl,rfl,h1,h2,q _ Chg.upd zc2⟩
 ·exact h.elim
def qPart (t:TE):TO:=fun σ H Q=>t σ H fun x H1=>match x with
 | .int i=>Q (some i) H1
 | _=>False
theorem zo3 (h:PE X e te):PO X (some e) (qPart te):=by
 intro pins s σ H Q I hw
 rw[evalPart_some]
 refine thn (h pins s σ H _ I hw) fun u s1 ⟨x,H1,I1,r1,q1⟩=>?_
 dsimp only at q1
 split at q1
 ·rename_i i
  obtain⟨t,rfl⟩:=r1
  exact⟨some i,H1,I1,.int i t,q1⟩
 ·exact q1.elim
section
variable {K:zbz8}{H:Hp}{Q:VK}{p:Addr}{xs:List V}{v:V}{i:Int}
theorem zg3 (q:∀ p H',H p=none->Same H H'->H' p=some (.tup xs)->Q (.ref p) H') (h:xs.length<=sizeLine:=by first|assumption|(simp only[zcd0,zcf2,Nat.zero_add,Nat.reduceAdd];decide)):rNewT xs H Q:=by unfold rNewT;exact⟨h,q⟩
theorem zb0 (q:∀ p H',H p=none->Same H H'->H' p=some (.lst xs)->Q (.ref p) H') (h:xs.length<=sizeLine:=by first|assumption|(simp only[zcd0,zcf2,Nat.zero_add,Nat.reduceAdd];decide)):rNewL xs H Q:=by unfold rNewL;exact⟨h,q⟩
theorem zl4 (h:H p=some (.tup xs)) (e:atI xs i=some v) (q:Q v H):rIxA K p i H Q:=by unfold rIxA;exact⟨xs,v,.inr (SqT.of h),e,q⟩
theorem zd8 (h:H p=some (.lst xs)) (e:atI xs i=some v) (q:Q v H):rIxA K p i H Q:=by unfold rIxA;exact⟨xs,v,.inl (SqL.of h),e,q⟩
theorem zac8 {R:Hp->Prop}{j:Nat}(h:H p=some (.lst xs)) (e:ixN xs.length i=some j) (q:∀ H',Chg p H H'->H' p=some (.lst (xs.set j v))->R H'):rSetA p i v H R:=by unfold rSetA;exact⟨xs,j,h,e,q⟩
end
def qgNil:TGs:=fun vs σ H Q=>match vs with
 | []=>Q σ H
 | _=>False
def zbm1 (t:TG) (u:TGs):TGs:=fun vs σ H Q=>match vs with
 | v :: r=>t v σ H fun σ' H'=>u r σ' H' Q
 | _=>False
theorem zp7:PGs X [] qgNil:=fun pins s σ H vs us Q I r h=>by
 unfold qgNil at h
 split at h
 ·exact zbr3 pins s σ H _ us Q I r ⟨rfl,h⟩
 ·exact h.elim
theorem zc1 {e:Expr}{es:List Expr}{t:TG}{u:TGs}(h1:PG X e t) (h2:PGs X es u)
  (hs:(assignEach (e :: es) X.env).map (·.2)=assign e X.env :: (assignEach es X.env).map (·.2):=by rfl):PGs X (e :: es) (zbm1 t u):=fun pins s σ H vs us Q I r h=>by
 unfold zbm1 at h
 split at h
 ·exact zbj9 h1 h2 hs pins s σ H _ us Q I r ⟨_,_,rfl,h⟩
 ·exact h.elim
end
end L2
set_option maxHeartbeats 1000000
namespace L2
open PySem PySem.Spec PyProof.Rows
section
variable {X:Cx}
def rAbsM:List V->Hp->VK->Prop:=fun xs H Q=>match xs with
 | [.int i]=>Q (.int (i.natAbs:Int)) H
 | _=>False
def rIntM:List V->Hp->VK->Prop:=fun xs H Q=>match xs with
 | [.int i]=>Q (.int i) H
 | [.bl k]=>Q (.int (if k=true then 1 else 0)) H
 | _=>False
theorem cInt:zn4 X (.type "int") rIntM:=fun pins s σ H xs us Q I r h=>by
 unfold rIntM at h
 split at h
 ·exact zal1 pins s σ H _ us Q I r (.inl ⟨_,rfl,h⟩)
 ·exact zal1 pins s σ H _ us Q I r (.inr ⟨_,rfl,h⟩)
 ·exact h.elim
@[irreducible] def zav2 (K:zbz8) (p:Addr) (H:Hp) (Q:VK):Prop:=∃ ys,(SqL K H p ys∨SqT K H p ys)/\Q (.int ys.length) H
def rLenM (K:zbz8):List V->Hp->VK->Prop:=fun xs H Q=>match xs with
 | [.ref p]=>zav2 K p H Q
 | [.str z]=>z.length<=sizeLine/\Q (.int z.length) H
 | _=>False
theorem cLen:zn4 X (.builtin "len") (rLenM X.K):=fun pins s σ H xs us Q I r h=>by
 unfold rLenM at h
 split at h
 ·unfold zav2 at h
  obtain⟨ys,h1,h2⟩:=h
  exact zak6 pins s σ H _ us Q I r ⟨_,ys,rfl,h1,h2⟩
 ·exact zal5 pins s σ H _ us Q I r ⟨_,rfl,h.1,h.2⟩
 ·exact h.elim
@[irreducible] def zs3 (K:zbz8) (x c:V) (H:Hp) (Q:VK):Prop:=∃ t b,TyOf K H x t/\(∀ cv,RelV c cv->zca3 K t cv=some b)/\Q (.bl b) H
def rIsiM (K:zbz8):List V->Hp->VK->Prop:=fun xs H Q=>match xs with
 | [x,c]=>zs3 K x c H Q
 | _=>False
theorem cIsi:zn4 X (.builtin "isinstance") (rIsiM X.K):=fun pins s σ H xs us Q I r h=>by
 unfold rIsiM at h
 split at h
 ·unfold zs3 at h
  obtain⟨t,b,h1,h2,h3⟩:=h
  obtain⟨u,w,rfl,r1,r2⟩:=zbf1 r
  exact zbb5 I r1 h1 (h2 _ r2) fun tk=>⟨.bl b,H,I.tok _,rfl,h3⟩
 ·exact h.elim
section
variable {K:zbz8}{H:Hp}{Q:VK}{p:Addr}{xs:List V}
theorem zi3 (h:H p=some (.lst xs)) (q:Q (.int xs.length) H):zav2 K p H Q:=by unfold zav2;exact⟨xs,.inl (SqL.of h),q⟩
theorem zaq0 (h:H p=some (.tup xs)) (q:Q (.int xs.length) H):zav2 K p H Q:=by unfold zav2;exact⟨xs,.inr (SqT.of h),q⟩
theorem zag1 {i:Int}{n:String}{b:Bool}(q:Q (.bl b) H) (e:zca3 K (.type "int") (.type n)=some b:=by rfl):zs3 K (.int i) (.ty n) H Q:=by
 unfold zs3;exact⟨_,b,.int i,fun cv r=>by cases r;exact e,q⟩
theorem zah2 {i:Bool}{n:String}{b:Bool}(q:Q (.bl b) H) (e:zca3 K (.type "bool") (.type n)=some b:=by rfl):zs3 K (.bl i) (.ty n) H Q:=by
 unfold zs3;exact⟨_,b,.bl i,fun cv r=>by cases r;exact e,q⟩
theorem zbo5 {n:String}{b:Bool}(q:Q (.bl b) H) (e:zca3 K (.type "NoneType") (.type n)=some b:=by rfl):zs3 K .non (.ty n) H Q:=by
 unfold zs3;exact⟨_,b,.non,fun cv r=>by cases r;exact e,q⟩
theorem zbt1 {x:Str}{n:String}{b:Bool}(q:Q (.bl b) H) (e:zca3 K (.type "str") (.type n)=some b:=by rfl):zs3 K (.str x) (.ty n) H Q:=by
 unfold zs3;exact⟨_,b,.str x,fun cv r=>by cases r;exact e,q⟩
theorem zag6 {n:String}{b:Bool}(h:H p=some (.tup xs)) (q:Q (.bl b) H) (e:zca3 K (.type "tuple") (.type n)=some b:=by rfl):zs3 K (.ref p) (.ty n) H Q:=by
 unfold zs3;exact⟨_,b,.tup h,fun cv r=>by cases r;exact e,q⟩
theorem zah9 {n:String}{b:Bool}(h:H p=some (.lst xs)) (q:Q (.bl b) H) (e:zca3 K (.type "list") (.type n)=some b:=by rfl):zs3 K (.ref p) (.ty n) H Q:=by
 unfold zs3;exact⟨_,b,.lst h,fun cv r=>by cases r;exact e,q⟩
end
theorem zl1:bootBuiltins "len"=some (.builtin "len"):=by decide +kernel
theorem zbm8:bootBuiltins "sum"=some (.builtin "sum"):=by decide +kernel
theorem zaf0:bootBuiltins "all"=some (.builtin "all"):=by decide +kernel
theorem za7:bootBuiltins "isinstance"=some (.builtin "isinstance"):=by decide +kernel
theorem zbd3:bootBuiltins "sorted"=some (.builtin "sorted"):=by decide +kernel
theorem zal2:bootBuiltins "int"=some (.type "int"):=by decide +kernel
theorem zbf6:bootBuiltins "bool"=some (.type "bool"):=by decide +kernel
theorem zl2:bootBuiltins "list"=some (.type "list"):=by decide +kernel
theorem zt4:bootBuiltins "tuple"=some (.type "tuple"):=by decide +kernel
theorem pTy {x:Str}{n:String}{pos:Pos}(hm:X.mg x=none) (hv:bootBuiltins x=some (.type n)) (hg:Gl X x:=by rfl) (hn:x≠"__name__":=by decide) (hd:(x==("__debug__":Str))=false:=by decide):PE X (.Name x pos) (tC (.ty n)):=
 zbo7 hg hm hv rfl hn hd
theorem pB {x:Str}{p pos:Pos}{e:Expr}{es:List Expr}{t:TA}{id:String}{r:List V->Hp->VK->Prop}(hc:zn4 X (.builtin id) r) (hm:X.mg x=none) (hv:bootBuiltins x=some (.builtin id)) (ha:PA X (e :: es) t) (hg:Gl X x:=by rfl) (hn:x≠"__name__":=by decide) (hdb:(x==("__debug__":Str))=false:=by decide)
  (he:starEach (e :: es) X.env=(false,eval e X.env) :: starEach es X.env:=by rfl) (hpl:(backTo pos (starEach es X.env)).any (·.1)=false:=by rfl):PE X (.Call (.Name x p) (e :: es) [] pos) (tCB r t):=zbj2 hc hg hm hv ha hn hdb he hpl
theorem pT {x:Str}{p pos:Pos}{e:Expr}{es:List Expr}{t:TA}{id:String}{r:List V->Hp->VK->Prop}(hc:zn4 X (.type id) r) (hm:X.mg x=none) (hv:bootBuiltins x=some (.type id)) (ha:PA X (e :: es) t) (hg:Gl X x:=by rfl) (hn:x≠"__name__":=by decide) (hdb:(x==("__debug__":Str))=false:=by decide)
  (he:starEach (e :: es) X.env=(false,eval e X.env) :: starEach es X.env:=by rfl) (hpl:(backTo pos (starEach es X.env)).any (·.1)=false:=by rfl):PE X (.Call (.Name x p) (e :: es) [] pos) (tCB r t):=zbe5 hc hg hm hv ha hn hdb he hpl
structure Def (P:Program) (w:World) (K:zbz8) (mg:Str->Option Value) (base:Heap) (CX:CXT) (k:Nat) (x:Str) (ps:List Str) (sp:Sp):Prop where
 ex:∃ (f:Addr) (fd:FuncData),FnOk P w K mg base CX k f fd ps sp/\mg x=some (.ref f)/\zcb5 K (.ref f)=true/\zaj7 K fd ps []
def qCall (sp:Sp) (E:XK) (t:TA):TE:=fun σ H Q=>t σ H fun vs H1=>sp vs H1 Q E
theorem pD {CX:CXT}{k j:Nat}{x:Str}{ps:List Str}{sp:Sp}{E:XK}{p pos:Pos}{e:Expr}{es:List Expr}{t:TA}(F:Def X.prog X.w X.K X.mg X.base CX k x ps sp) (hr:Room j X.A) (hx:zaf3 CX X E) (ha:PA X (e :: es) t) (hk:k<=j:=by decide) (hg:Gl X x:=by rfl)
  (hdb:(x==("__debug__":Str))=false:=by decide) (he:starEach (e :: es) X.env=(false,eval e X.env) :: starEach es X.env:=by rfl) (hpl:(backTo pos (starEach es X.env)).any (·.1)=false:=by rfl) :
  PE X (.Call (.Name x p) (e :: es) [] pos) (qCall sp E t):=by
 obtain⟨f,fd,F1,F2,F3,F4⟩:=F.ex
 intro pins s σ H Q I h
 refine zbp7 F1 (hr.mono hk) hg F2 F3 F4 .nil hx ha hdb he hpl pins s σ H Q I ?_
 unfold tCall
 simp only[List.append_nil]
 exact h
theorem psS {i:Nat}{x:Str}{e:Expr}{te:TE}{pos' pos:Pos}(hN:X.N.Nodup) (he:PE X e te) (hi:X.N[i]?=some x:=by rfl) (hx:Loc X.env.scope x:=by first|exact Or.inl rfl|exact Or.inr rfl) (hs:swapsWith e (some (.Name x pos')) pos.line X.env=pure false:=by rfl) (hf:X.fn x=true∨X.env.scope.names.lookup x=some .local:=by first|exact .inl rfl|exact .inr rfl|assumption) :
  PS X (.Assign [.Name x pos'] e pos) (tAsg te (zav3 i)):=zbe1 hN hi hx he hs hf
section
variable {K:zbz8}{H:Hp}{Q:VK}{p:Addr}{xs:List V}{i j:Int}
theorem zbs4 (h1:-18446744073709551616<i) (h2:i<18446744073709551616) (q:Q (.int (i*j)) H):zau8 i j H Q:=zbm6 (.of_left (intBits_le_64 (by simpa using h1) (by simpa using h2))) q
theorem zbr5 (h1:-18446744073709551616<j) (h2:j<18446744073709551616) (q:Q (.int (i*j)) H):zau8 i j H Q:=zbm6 (.of_right (intBits_le_64 (by simpa using h1) (by simpa using h2))) q
theorem zbo9 (h:0<j) (q:∀ r:Int,0<=r->r<j->Q (.int r) H):zbb8 i j H Q:=mod_rd h (q _ (Int.emod_nonneg _ (by omega)) (Int.emod_lt_of_pos _ h))
theorem zo9 (h:H p=some (.lst xs)) (h0:0<=i) (h1:i<xs.length) (q:∀ v,v∈xs->Q v H):rIxA K p i H Q:=by
 have hl:i.toNat<xs.length:=by omega
 refine zd8 h (v:=xs[i.toNat]) ?_ (q _ (List.getElem_mem hl))
 have e:((i.toNat:Nat):Int)=i:=by omega
 have z:=zi4 (zbz6 hl)
 rw[e] at z
 exact z
theorem hu40 {A:Around}{k:Nat}(hr:Room k A):A.units+40<cLine:=by have:=hr.units;omega
end
@[irreducible] def qCut (t:TS):TS:=fun D σ H=>∃ R:St->Hp->Prop,t { D with nx:=R } σ H/\∀ σ' H',R σ' H'->D.nx σ' H'
theorem zao8 {st:Stmt}{t:TS}(h:PS X st t):PS X st (qCut t):=fun pins s σ H D I hq=>by
 unfold qCut at hq
 obtain⟨R,h1,h2⟩:=hq
 refine thn (h pins s σ H _ I h1) fun f s' q=>?_
 cases f with
 | next=>obtain⟨σ',H',I',z⟩:=q;exact⟨σ',H',I',h2 _ _ z⟩
 | brk=>exact q
 | cont=>exact q
 | ret u=>exact q
theorem zz8 {t:TS}{D:Ends}{σ:St}{H:Hp}(R:St->Hp->Prop) (h1:t { D with nx:=R } σ H) (h2:∀ σ' H',R σ' H'->D.nx σ' H'):qCut t D σ H:=by unfold qCut;exact⟨R,h1,h2⟩
end
end L2
set_option maxHeartbeats 2000000
namespace L2
open PySem PySem.Spec PyProof.Rows
theorem zx4 {env:Env}:∀ (names:List (Str×NameKind)) (acc:List (Str×Addr)),(∀ x∈names,x.2=.free->∃ c,env.cells.lookup x.1=some c) ->
  ∃ acc',(forIn (m:=Sem) names acc (fun (x:Str×NameKind) (r:List (Str×Addr))=>if (x.2==.free)=true then (do let c ← cellOf env x.1;pure (ForInStep.yield ((x.1,c) :: r))) else pure (ForInStep.yield r)))=pure acc' /\
   (∀ x c,acc'.lookup x=some c->acc.lookup x=some c∨env.cells.lookup x=some c)/\(∀ x c,acc.lookup x=some c->∃ c',acc'.lookup x=some c')/\∀ x∈names,x.2=.free->∃ c,acc'.lookup x.1=some c
 | [],acc,_=>⟨acc,rfl,fun _ _ h=>.inl h,fun _ c h=>⟨c,h⟩,fun _ h=>by cases h⟩
 | (n,k) :: r,acc,h=>by
  by_cases hk:k=.free
  ·subst hk
   obtain⟨c,hc⟩:=h (n,.free) zce8 rfl
   obtain⟨acc',e,h1,h2,h3⟩:=zx4 r ((n,c) :: acc) fun x hx=>h x (zcd5 _ hx)
   have hco:cellOf env n=pure c:=by unfold cellOf;rw[hc]
   refine⟨acc',?_,fun x d hd=>?_,fun x d hd=>?_,fun x hx hf=>?_⟩
   ·rw[List.forIn_cons]
    simp only[hco]
    exact e
   ·rcases h1 x d hd with q|q
    ·rw[zce7] at q
     split at q
     ·rename_i hx
      have hx:x=n:=by simpa using hx
      subst hx
      cases q
      exact .inr hc
     ·exact .inl q
    ·exact .inr q
   ·by_cases hx:x=n
    ·subst hx
     exact h2 x c (by simp[zce7])
    ·refine h2 x d ?_
     rw[zce7]
     have:(x==n)=false:=by simpa using hx
     rw[this];exact hd
   ·rcases zcb3.mp hx with rfl|hx
    ·exact h2 n c (by simp[zce7])
    ·exact h3 x hx hf
  ·obtain⟨acc',e,h1,h2,h3⟩:=zx4 r acc fun x hx=>h x (zcd5 _ hx)
   refine⟨acc',?_,h1,h2,fun x hx hf=>?_⟩
   ·rw[List.forIn_cons]
    have:(k==NameKind.free)=false:=by simpa using hk
    simp only[this]
    exact e
   ·rcases zcb3.mp hx with rfl|hx
    ·exact absurd hf hk
    ·exact h3 x hx hf
theorem zaf2 {scope:Scope}{env:Env}(h:∀ x∈scope.names,x.2=.free->∃ c,env.cells.lookup x.1=some c) :
  ∃ cl,closureFor scope env=pure cl/\(∀ x c,cl.lookup x=some c->env.cells.lookup x=some c)/\∀ x∈scope.names,x.2=.free->∃ c,cl.lookup x.1=some c:=by
 obtain⟨cl,e,h1,_,h3⟩:=zx4 (env:=env) scope.names [] h
 refine⟨cl,?_,fun x c hc=>(h1 x c hc).elim (fun q=>by cases q) id,h3⟩
 unfold closureFor
 show (forIn (m:=Sem) scope.names ([]:List (Str×Addr)) _ >>= fun r=>pure r)=_
 rw[e]
 rfl
theorem zx7 {env:Env}:∀ {names:List (Str×NameKind)}{x:Str},names.lookup x=some .free ->
  (names.map fun (n,k)=>if (k==NameKind.free&&env.scope.kind==.function&&env.kindOf n==some .cell) then (n,NameKind.cell) else (n,k)).lookup x=some .cell ∨
  (names.map fun (n,k)=>if (k==NameKind.free&&env.scope.kind==.function&&env.kindOf n==some .cell) then (n,NameKind.cell) else (n,k)).lookup x=some .free
 | [],_,h=>by simp at h
 | (n,k) :: r,x,h=>by
  have ih:=@zx7 env r x
  show List.lookup x ((if (k==NameKind.free&&env.scope.kind==.function&&env.kindOf n==some .cell)=true then (n,NameKind.cell) else (n,k)) :: _)=_∨List.lookup x ((if (k==NameKind.free&&env.scope.kind==.function&&env.kindOf n==some .cell)=true then (n,NameKind.cell) else (n,k)) :: _)=_
  cases hx:x==n with
  | true=>
   simp only[zce7,hx] at h
   cases h
   by_cases hc:(NameKind.free==NameKind.free&&env.scope.kind==.function&&env.kindOf n==some .cell)=true
   ·left;rw[if_pos hc];simp only[zce7,hx]
   ·right;rw[if_neg hc];simp only[zce7,hx]
  | false=>
   simp only[zce7,hx] at h
   by_cases hc:(k==NameKind.free&&env.scope.kind==.function&&env.kindOf n==some .cell)=true
   ·rw[if_pos hc];simp only[zce7,hx];exact ih h
   ·rw[if_neg hc];simp only[zce7,hx];exact ih h
theorem zr9 {env:Env}:∀ {names:List (Str×NameKind)}{x:Str}{k':NameKind},(∀ y∈names,y.2≠.cell)->(k'=.cell∨k'=.free) ->
  (names.map fun (n,k)=>if (k==NameKind.free&&env.scope.kind==.function&&env.kindOf n==some .cell) then (n,NameKind.cell) else (n,k)).lookup x=some k'->∃ y∈names,y.1=x/\y.2=.free
 | [],_,_,_,_,h=>by simp at h
 | (n,k) :: r,x,k',hn,hk,h=>by
  have ih:=@zr9 env r x k' (fun y hy=>hn y (zcd5 _ hy)) hk
  replace h:List.lookup x ((if (k==NameKind.free&&env.scope.kind==.function&&env.kindOf n==some .cell)=true then (n,NameKind.cell) else (n,k)) :: List.map (fun (n,k)=>if (k==NameKind.free&&env.scope.kind==.function&&env.kindOf n==some .cell) then (n,NameKind.cell) else (n,k)) r)=some k':=h
  cases hx:x==n with
  | true=>
   have hx':x=n:=by simpa using hx
   by_cases hf:k=.free
   ·exact⟨(n,k),zce8,hx'.symm,hf⟩
   ·have hc:¬ (k==NameKind.free&&env.scope.kind==.function&&env.kindOf n==some .cell)=true:=by
     have:(k==NameKind.free)=false:=by simpa using hf
     rw[this];simp
    rw[if_neg hc] at h
    simp only[zce7,hx] at h
    have:k=k':=Option.some.inj h
    subst this
    rcases hk with hk|hk
    ·exact absurd hk (hn (n,k) zce8)
    ·exact absurd hk hf
  | false=>
   have h':List.lookup x (List.map (fun (n,k)=>if (k==NameKind.free&&env.scope.kind==.function&&env.kindOf n==some .cell) then (n,NameKind.cell) else (n,k)) r)=some k':=by
    by_cases hc:(k==NameKind.free&&env.scope.kind==.function&&env.kindOf n==some .cell)=true
    ·rw[if_pos hc] at h;simp only[zce7,hx] at h;exact h
    ·rw[if_neg hc] at h;simp only[zce7,hx] at h;exact h
   obtain⟨y,hy,h1,h2⟩:=ih h'
   exact⟨y,zcd5 _ hy,h1,h2⟩
def blk (X:Cx) (N:List Str) (scope:Scope) (cl:List (Str×Addr)) (C:Addr) (s3:Shared) (H3:Hp) (fp:List Addr):Cx:=
 { X with N:=N,s₀:=s3,H₀:=H3,env:=compEnvC scope cl C X.env,outer:=X.stack,ex:=fp,fn:=fun _=>false,pn:=[],xe:=fun _ _=>False }
def PTs (X:Cx) (ifs:List Expr) (t:TT):Prop:=
 ∀ (pins:List (Addr×Obj)) (s:Shared) (σ:St) (H:Hp) (Q:Bool->Hp->Prop),Inv X pins σ H s->t σ H Q ->
  wpAny (model X.prog X.w) X.A (forIn ifs true fun c r=>if r=true then do let ok ← isTrue c X.env (eval c X.env);pure (ForInStep.yield ok) else pure (ForInStep.yield r)) (TP X pins σ Q) X.xe s
theorem zi7 {X:Cx}:PTs X [] (fun _ H Q=>Q true H):=fun _ _ _ H _ I h=>wpAny_tests_nil ⟨H,I,h⟩
theorem zao1 {X:Cx}{c:Expr}{t:TT}(h:PT X c t):PTs X [c] t:=fun pins s σ H Q I hq=>wpAny_tests_one (h pins s σ H Q I hq)
@[irreducible] def cPut (W:Nat->Nat->List V->St->Hp->Prop) (acc:Addr) (ys:List V) (i m:Nat) (σ2:St) (v:V) (H5:Hp):Prop:=
 H5 acc=some (.lst ys)/\∀ H6,Chg acc H5 H6->H6 acc=some (.lst (ys++[v]))->∃ m',m'<m/\W (i+1) m' (ys++[v]) σ2 H6
@[irreducible] def zan7 (W:Nat->Nat->List V->St->Hp->Prop) (ys:List V) (i m:Nat) (σ2:St) (H4:Hp):Prop:=∃ m',m'<m/\W (i+1) m' ys σ2 H4
@[irreducible] def zah6 (J:It) (g:TG) (tt:TT) (te:TE) (σ0:St) (H1:Hp) (Q:VK):Prop:=
 ∀ acc H2,H1 acc=none->Same H1 H2->H2 acc=some (.lst [])->∃ W:Nat->Nat->List V->St->Hp->Prop,(∃ m,W 0 m [] σ0 H2)/\∀ i m ys σ H,W i m ys σ H->H acc=some (.lst ys)/\ys.length<sizeLine /\
  ((J.stop i H/\Q (.ref acc) H)∨(J.go i H/\∀ x H',J.yld i H x H'->g x σ H' fun σ2 H3=>tt σ2 H3 fun b H4=>
   br b (te σ2 H4 fun v H5=>cPut W acc ys i m σ2 v H5) (zan7 W ys i m σ2 H4)))
section
variable {X:Cx}{pins:List (Addr×Obj)}{σ:St}{H:Hp}{s2:Shared}
theorem zbp0 {N:List Str}{scope:Scope}{cl:List (Str×Addr)}{C:Addr}{s3 s4:Shared}{H3:Hp}{fp:List Addr}{σc:St}(I:Inv X pins σ H3 s3)
  (hcl1:∀ x c,cl.lookup x=some c->X.env.cells.lookup x=some c) (hcl2:∀ x∈scope.names,x.2=.free->∃ c,cl.lookup x.1=some c) (hkind:scope.kind=.function) (hcell:∀ y∈scope.names,y.2≠.cell)
  (hcap:∀ (i:Nat) (x:Str) (v:V),N[i]?=some x->σc[i]?=some (some v)->∃ j:Nat,X.N[j]?=some x/\σ[j]?=some (some v)/\scope.names.lookup x=some .free/\(X.env.kindOf x=some .cell∨X.env.kindOf x=some .free))
  (hlen:σc.length=N.length) (hC:s3.heap.objs.size=C) (hfp:∀ b∈fp,FpOk X pins H3 b) (hfpl:∀ b∈fp,b<C) (hex:∀ b o,X.base.get? b=some o->b ∉ fp) (hns:∃ m,s4.heap.Ns C m) (hk:∀ b o,s3.heap.get? b=some o->s4.heap.get? b=some o) (h4:s4.os=s3.os) (h5:s4.gens=s3.gens) :
  Inv (blk X N scope cl C s3 H3 fp) [] σc H3 s4:=by
 subst hC
 have look:∀ x,(blk X N scope cl s3.heap.objs.size s3 H3 fp).env.kindOf x=(relabel scope X.env).names.lookup x:=fun x=>rfl
 have cne:∀ x c,cl.lookup x=some c->c<s3.heap.objs.size:=fun x c h=>by
  obtain⟨v,o,ho,_⟩:=I.cell x c (hcl1 x c h)
  exact zcb7 ho
 refine⟨⟨I.ok.mod,?_,I.ok.glob,I.ok.blt,zcb6 _,fun x y c h1 h2=>I.ok.inj x y c (hcl1 _ _ h1) (hcl1 _ _ h2),fun x hx=>?_,fun x c h=>?_,I.ok.hd,I.ok.frames,.inl rfl,fun b hb=>⟨zce2 (hfpl b hb),fun x c h=>?_⟩,fun b o e=>I.bs b o e,zce6 I.ok.bsz I.sz,fun b o e=>hex b o e,fun b hb=>?_,I.stack,I.stkFree⟩,
  h4,by rw[h5];exact I.bare,Un.kept hk,?_,fun x c h=>?_,I.hok.fresh (zcb6 _),fun x c h=>I.freeC x c (hcl1 _ _ h),fun p hp=>(by cases hp),I.hok.kept hk,hlen⟩
 ·exact hkind
 ·have hx':(relabel scope X.env).names.lookup x=some .cell∨(relabel scope X.env).names.lookup x=some .free:=hx
  have hz:∃ y∈scope.names,y.1=x/\y.2=.free:=by
   rcases hx' with q|q
   ·exact zr9 hcell (.inl rfl) q
   ·exact zr9 hcell (.inr rfl) q
  obtain⟨y,hy,rfl,hf⟩:=hz
  exact hcl2 y hy hf
 ·exact absurd (show false=true from h) zca5
 ·exact (hfp b hb).2.2.2.2.1 x c (hcl1 x c h)
 ·have:=(hfp b hb).1
  intro hz
  obtain⟨f0,f1,f2,_⟩:=hfp b hb
  have hz:b∈frs X.stack:=hz
  rcases zcb3.mp (I.stkSub b hz) with q|q
  ·exact f1 q
  ·exact f2 q
 ·obtain⟨m,hm⟩:=hns
  refine⟨m,hm,fun i x v h1 h2 h3=>?_⟩
  obtain⟨j,e1,e2,e3,e4⟩:=hcap i x v h1 h2
  obtain⟨mX,_,hl⟩:=I.loc
  obtain⟨u,r,q⟩:=hl j x v e1 e2 (by rcases e4 with e4|e4;exact .inr (.inl e4);exact .inr (.inr e4))
  refine⟨u,r,.inr ⟨zx7 e3,?_⟩⟩
  obtain⟨c,hc⟩:=hcl2 (x,.free) (PySem.mem_of_lookup e3) rfl
  refine⟨c,hc,?_⟩
  have hc':=hcl1 x c hc
  rcases q with ⟨k,_⟩|⟨_,c2,e5,o,ho,hd⟩
  ·rcases e4 with e4|e4<;>rw[e4] at k<;>cases k
  ·rw[hc'] at e5
   cases e5
   exact⟨o,hk _ _ ho,hd⟩
 ·obtain⟨v,o,ho,hd⟩:=I.cell x c (hcl1 x c h)
  exact⟨v,o,hk _ _ ho,hd⟩
theorem zax5 {prog:Program}{w:World}{A:Around}{R:Result->Shared->Prop}{s:Shared}{elt target iter:Expr}{ifs:List Expr}{scope:Scope}{pos:Pos}{it acc:Value}{env:Env}(I:Nat->Shared->Prop)
  (turn:∀ n s,I n s->wpAny (model prog w) A (pyNext it) (fun r s₁=>match r with
   | none=>R (.ok .next) s₁
   | some v=>wpAny (model prog w) A (letOwnedTupleGo target it v) (fun _ s₁'=>wpAny (model prog w) A (assign target env v) (fun _ s₂=>
     wpAny (model prog w) A (forIn ifs true fun c r=>if r=true then do let ok ← isTrue c env (eval c env);pure (ForInStep.yield ok) else pure (ForInStep.yield r)) (fun ok s₃=>
      if ok=true then wpAny (model prog w) A (eval elt env) (fun x s₄=>
       wpAny (model prog w) A (call (.builtin "list.append") [acc,x]) (fun _ s₅=>∃ m,m<n/\I m s₅) (fun _ _=>False) s₄) (fun _ _=>False) s₃
      else ∃ m,m<n/\I m s₃) (fun _ _=>False) s₂) (fun _ _=>False) s₁') (fun _ _=>False) s₁) (fun _ _=>False) s)
  (n:Nat) (h:I n s):codeAny (model prog w) A (.compLoop (.ListComp elt [⟨target,iter,ifs,0⟩] scope pos) 0 it acc env) R s:=by
 refine codeAny_loop rfl I (fun n s hI=>?_) n h
 show wpAny _ A ((compTurn (.ListComp elt [⟨target,iter,ifs,0⟩] scope pos) 0 it acc env).onRaise (fun x=>do noteFrame x env;theTreesLotGoes x)) _ _ s
 refine wpAny_noted ?_
 rw[compTurn_list]
 refine wpAny_bind (wpAny_standAt (wpAny_bind (wpAny_mono (turn n s hI) (fun r s₁ h₁=>?_) fun _ _ h'=>h'.elim)))
 cases r with
 | none=>exact wpAny_pure h₁
 | some v=>
  refine wpAny_bind (wpAny_mono h₁ (fun _ s₁' h₁'=>?_) fun _ _ h'=>h'.elim)
  refine wpAny_bind (wpAny_mono h₁' (fun _ s₂ h₂=>wpAny_bind (wpAny_mono h₂ (fun ok s₃ h₃=>?_) fun _ _ h'=>h'.elim)) fun _ _ h'=>h'.elim)
  cases ok with
  | false=>exact wpAny_pure ⟨rfl,h₃⟩
  | true=>
   exact wpAny_bind (wpAny_bind (wpAny_mono h₃ (fun x s₄ h₄=>wpAny_bind (wpAny_mono h₄ (fun _ s₅ h₅=>wpAny_pure (wpAny_pure ⟨rfl,h₅⟩)) fun _ _ h'=>h'.elim)) fun _ _ h'=>h'.elim))
theorem zak0 {E:Value->Shared->Prop}{elt tg iter:Expr}{ifs:List Expr}{scope:Scope}{pos:Pos}{cl:List (Str×Addr)}{N:List Str}{σc:St}{J:It}{fp:List Addr}{it:Addr}{tn:Nat->Heap->Prop}{g:TG}{tt:TT}{te:TE}{Q:VK}
  {RR:Value->Addr->Result->Shared->Prop}
  (hcl1:∀ x c,cl.lookup x=some c->X.env.cells.lookup x=some c) (hcl2:∀ x∈scope.names,x.2=.free->∃ c,cl.lookup x.1=some c) (hkind:scope.kind=.function) (hcell:∀ y∈scope.names,y.2≠.cell)
  (hcap:∀ (i:Nat) (x:Str) (v:V),N[i]?=some x->σc[i]?=some (some v)->∃ j:Nat,X.N[j]?=some x/\σ[j]?=some (some v)/\scope.names.lookup x=some .free/\(X.env.kindOf x=some .cell∨X.env.kindOf x=some .free))
  (hlen:σc.length=N.length) (hc:X.calm=true) (I:Inv X pins σ H s2) (T:Turn X.prog X.w X.K tg J fp it tn) (st:tn 0 s2.heap) (fpok:∀ b∈fp,FpOk X pins H b)
  (hg:∀ C s3 H3 fp,PG (blk X N scope cl C s3 H3 fp) tg g) (ht:∀ C s3 H3 fp,PTs (blk X N scope cl C s3 H3 fp) ifs tt) (he:∀ C s3 H3 fp,PE (blk X N scope cl C s3 H3 fp) elt te)
  (h:zah6 J g tt te σc H Q)
  (hRR:∀ (acc C:Addr) (H':Hp) (s':Shared),Inv X pins σ H' s'->FpOk X pins H' C->(∃ m,s'.heap.Ns C m)->Q (.ref acc) H'->RR (.ref acc) C (.ok .next) s') :
  wpAny (model X.prog X.w) X.A (newList []) (fun acc s₃=>wpAny (model X.prog X.w) X.A (newFunctionEnv scope X.env.globals cl [] X.env.qual none .none (some X.env)) (fun cenv s₄=>
   codeAny (model X.prog X.w) X.A (.compStart (.ListComp elt [⟨tg,iter,ifs,0⟩] scope pos) 0 (.ref it) acc { cenv with scope:=relabel scope X.env }) (RR acc cenv.locals) s₄) E s₃) E s2:=by
 refine wpAny_newObj_type (wpAny_newFunctionEnv hcell (by intro y hy;simp at hy) (fun h₁ hns₁ hsb₁=>?_) hkind)
 dsimp only at hns₁ hsb₁ ⊢
 have hf:H s2.heap.objs.size=none:=I.fresh
 have I3:Inv X pins σ (upd H s2.heap.objs.size (.lst [])) { s2 with heap:=s2.heap.push { cls:=.type "list",data:=.seq ([]:List Value).toArray } }:=I.lnew (t':=s2.toks) (its:=[]) .nil (zcd6 _)
 generalize hs3:({ s2 with heap:=s2.heap.push { cls:=.type "list",data:=.seq ([]:List Value).toArray } }:Shared)=s3 at I3
 have hH:s2.heap.push { cls:=.type "list",dict:=none,data:=.seq ([]:List Value).toArray }=s3.heap:=by rw[← hs3]
 rw[hH] at hns₁ hsb₁ ⊢
 have hsz:s3.heap.objs.size=s2.heap.objs.size+1:=by rw[← hH,Heap.size_push]
 have old23:∀ b o,s2.heap.get? b=some o->s3.heap.get? b=some o:=fun b o e=>by rw[← hH];exact zca8 _ e
 have fplt:∀ b∈fp,b<s2.heap.objs.size:=fun b hb=>by
  obtain⟨o,e,_⟩:=T.obj 0 _ st b hb
  exact zcb7 e
 have fp3:∀ b∈fp,FpOk X pins (upd H s2.heap.objs.size (.lst [])) b:=fun b hb=>by
  obtain⟨f0,f1⟩:=fpok b hb
  refine⟨?_,f1⟩
  rw[zd5 (zce2 (fplt b hb))]
  exact f0
 have old34:∀ b o,s3.heap.get? b=some o->h₁.get? b=some o:=fun b o e=>hsb₁.extBut b o (zce2 (zcb7 e)) (zca8 _ e)
 have nob:∀ b o,X.base.get? b=some o->b ∉ fp:=fun b o e hb=>by
  obtain⟨_,_,_,f3,_,_⟩:=fpok b hb
  rcases f3 with f3|f3
  ·exact I.ok.noex b o e f3
  ·exact absurd (zcc7 (zcb7 e) I.ok.bsz) (Nat.not_lt.mpr f3)
 have hs4e:({ s2 with heap:=h₁,toks:=s2.toks+([]:List (Str×Value)).length }:Shared).os=s3.os:=by rw[← hs3]
 have hs4g:({ s2 with heap:=h₁,toks:=s2.toks+([]:List (Str×Value)).length }:Shared).gens=s3.gens:=by rw[← hs3]
 have I4:Inv (blk X N scope cl s3.heap.objs.size s3 (upd H s2.heap.objs.size (.lst [])) fp) [] σc (upd H s2.heap.objs.size (.lst [])) { s2 with heap:=h₁,toks:=s2.toks+([]:List (Str×Value)).length }:=
  zbp0 (s4:={ s2 with heap:=h₁,toks:=s2.toks+([]:List (Str×Value)).length }) I3 hcl1 hcl2 hkind hcell hcap hlen rfl fp3 (fun b hb=>zcc7 (fplt b hb) (by rw[hsz];exact Nat.le_succ _)) nob ⟨_,hns₁⟩ old34 hs4e hs4g
 have st4:tn 0 h₁:=T.keep _ _ _ st fun b hb o e=>old34 b o (old23 b o e)
 unfold zah6 at h
 obtain⟨W,⟨m0,w0⟩,turn⟩:=h s2.heap.objs.size _ hf (Same.upd hf) zc2
 have loop:codeAny (model X.prog X.w) X.A (.compLoop (.ListComp elt [⟨tg,iter,ifs,0⟩] scope pos) 0 (.ref it) (.ref s2.heap.objs.size) (blk X N scope cl s3.heap.objs.size s3 (upd H s2.heap.objs.size (.lst [])) fp).env)
   (RR (.ref s2.heap.objs.size) s3.heap.objs.size) { s2 with heap:=h₁,toks:=s2.toks+([]:List (Str×Value)).length }:=by
  refine zax5 (fun n s'=>∃ i ys σ' H',Inv (blk X N scope cl s3.heap.objs.size s3 (upd H s2.heap.objs.size (.lst [])) fp) [] σ' H' s'/\tn i s'.heap/\(∀ b∈fp,H' b=none)/\W i n ys σ' H') ?_ m0 ⟨0,[],σc,_,I4,st4,fun b hb=>(fp3 b hb).1,w0⟩
  rintro n s5 ⟨i,ys,σ5,H5,I5,st5,fr5,w5⟩
  obtain⟨hacc,hl5,hcase⟩:=turn i n ys σ5 H5 w5
  have stat:∀ {H':Hp},(∀ b∈fp,H' b=none)->∀ b∈fp,FpOk (blk X N scope cl s3.heap.objs.size s3 (upd H s2.heap.objs.size (.lst [])) fp) [] H' b:=fun hn b hb=>by
   obtain⟨_,f1,f2,f3,f4,_⟩:=fpok b hb
   refine⟨hn b hb,zce2 (zcc7 (fplt b hb) (by rw[hsz];exact Nat.le_succ _)),fun hz=>?_,.inl hb,fun x c hx=>f4 x c (hcl1 x c hx),fun p hp=>by cases hp⟩
   rcases zcb3.mp (I.stkSub b hz) with q|q
   ·exact f1 q
   ·exact f2 q
  rcases hcase with ⟨stop,hq⟩|⟨go,step⟩
  ·refine thn (T.done (blk X N scope cl s3.heap.objs.size s3 (upd H s2.heap.objs.size (.lst [])) fp) rfl rfl rfl hc i [] s5 σ5 H5 (fun _ _=>False) I5 (stat fr5) st5 stop) fun r s6 ⟨hr,I6⟩=>?_
   subst hr
   have u1:Un (frs X.stack) fp H (upd H s2.heap.objs.size (.lst [])) s2.heap s3.heap:=Un.laid old23 (zcb6 _) hf
   have u2:Un (frs X.stack) fp (upd H s2.heap.objs.size (.lst [])) H5 s3.heap s6.heap:=I6.base
   have hC:H5 s3.heap.objs.size=none:=I6.free
   obtain⟨m6,hm6,_⟩:=I6.loc
   have hos:s6.os=s2.os:=by rw[I6.os];show s3.os=s2.os;rw[← hs3]
   have hok6:=I6.hok
   have bare6:=I6.bare
   obtain⟨hh,gg,dd,tt',os'⟩:=s6
   obtain rfl:os'=s2.os:=hos
   exact hRR _ _ H5 _ (I.call (h':=hh) (g':=gg) (d':=dd) (t':=tt') (ch:=fp) (u1.trans u2) hok6 bare6 fun b hb=>⟨(fpok b hb).2.2.2.1,(fpok b hb).2.1,(fpok b hb).2.2.2.2.1,(fpok b hb).2.2.2.2.2⟩)
    (I.fpOk (by rw[hsz];exact Nat.le_succ _) hC) ⟨m6,hm6⟩ hq
  ·refine thn (T.item (blk X N scope cl s3.heap.objs.size s3 (upd H s2.heap.objs.size (.lst [])) fp) rfl rfl rfl hc i [] s5 σ5 H5 (fun _ _=>False) I5 (stat fr5) st5 go) fun r s6 ⟨u,hr,h6⟩=>?_
   subst hr
   refine thn h6 fun _ s7 ⟨x,H7,I7,r7,y7,st7,fr7⟩=>?_
   have I7':=I7.pinned (stat fr7) (T.obj _ _ st7)
   refine thn (hg _ _ _ _ _ s7 σ5 H7 x u _ I7' r7 (step x H7 y7)) fun _ s8 ⟨σ8,H8,I8,q8⟩=>?_
   refine thn (ht _ _ _ _ _ s8 σ8 H8 _ I8 q8) fun ok s9 ⟨H9,I9,q9⟩=>?_
   have again:∀ {s10:Shared}{σ10:St}{H10:Hp}{zs:List V},Inv (blk X N scope cl s3.heap.objs.size s3 (upd H s2.heap.objs.size (.lst [])) fp) ([]++zaj8 fp s7.heap) σ10 H10 s10->(∃ m',m'<n/\W (i+1) m' zs σ10 H10) ->
     ∃ m,m<n/\∃ i ys σ' H',Inv (blk X N scope cl s3.heap.objs.size s3 (upd H s2.heap.objs.size (.lst [])) fp) [] σ' H' s10/\tn i s10.heap/\(∀ b∈fp,H' b=none)/\W i m ys σ' H':=fun {s10 σ10 H10 zs} I10 ⟨m',hm,w10⟩=>by
    refine⟨m',hm,i+1,zs,σ10,H10,I10.unpinned,T.keep _ _ _ st7 fun b hb o e=>(I10.pin (b,o) (zcd7 _ (zcd7 _ (zt0 hb e)))).1,fun b hb=>?_,w10⟩
    obtain⟨o,e,d⟩:=T.obj _ _ st7 b hb
    exact (I10.pin (b,o) (zcd7 _ (zcd7 _ (zt0 hb e)))).2.1
   dsimp only at q9
   rw[zal6] at q9
   cases ok with
   | false=>
    have q9:∃ m',m'<n/\W (i+1) m' ys σ8 H9:=by rw[if_neg zca5] at q9;unfold zan7 at q9;exact q9
    exact again I9 q9
   | true=>
    have q9:=(if_pos rfl▸q9:te σ8 H9 _)
    refine thn (he _ _ _ _ _ s9 σ8 H9 _ I9 q9) fun v s10 ⟨y,H10,I10,r10,q10⟩=>?_
    unfold cPut at q10
    obtain⟨e10,q10⟩:=q10
    refine thn (zan0 _ s10 σ8 H10 (.ref s2.heap.objs.size) [y] (.ref s2.heap.objs.size) [v] (fun _ H11=>∃ m',m'<n/\W (i+1) m' (ys++[y]) σ8 H11) I10 rfl (.cons r10 .nil) ⟨_,ys,y,rfl,rfl,e10,hl5,q10 _ Chg.upd zc2⟩) fun _ s11 ⟨z,H11,I11,_,q11⟩=>?_
    exact again I11 q11
 exact codeAny_compStart_list loop (T.self _ 0 _ _ _ st4 loop)
def capS (ks:List (Option Nat)) (σ:St):St:=ks.map fun k=>match k with
 | none=>none
 | some j=>(σ[j]?).join
inductive zaa7 (X:Cx) (scope:Scope):List Str->List (Option Nat)->Prop where
 | nil:zaa7 X scope [] []
 | skip {x:Str}{N:List Str}{ks:List (Option Nat)}(t:zaa7 X scope N ks):zaa7 X scope (x :: N) (none :: ks)
 | take {x:Str}{N:List Str}{ks:List (Option Nat)}{j:Nat}(h1:X.N[j]?=some x) (h2:scope.names.lookup x=some .free) (h3:X.env.kindOf x=some .cell∨X.env.kindOf x=some .free) (t:zaa7 X scope N ks):zaa7 X scope (x :: N) (some j :: ks)
theorem zaa7.cap {scope:Scope}{N:List Str}{ks:List (Option Nat)}(h:zaa7 X scope N ks) (σ:St):∀ (i:Nat) (x:Str) (v:V),N[i]?=some x->(capS ks σ)[i]?=some (some v)->∃ j:Nat,X.N[j]?=some x/\σ[j]?=some (some v)/\scope.names.lookup x=some .free/\(X.env.kindOf x=some .cell∨X.env.kindOf x=some .free):=by
 induction h with
 | nil=>intro i x v h;simp at h
 | skip t ih=>
  intro i x v h1 h2
  cases i with
  | zero=>simp[capS] at h2
  | succ i=>exact ih i x v (by simpa using h1) (by simpa [capS] using h2)
 | take a b c t ih=>
  intro i x v h1 h2
  cases i with
  | zero=>
   simp only[List.getElem?_cons_zero,Option.some.injEq] at h1
   subst h1
   refine⟨_,a,?_,b,c⟩
   simpa [capS,Option.join_eq_some_iff] using h2
  | succ i=>exact ih i x v (by simpa using h1) (by simpa [capS] using h2)
theorem zaa7.len {scope:Scope}{N:List Str}{ks:List (Option Nat)}(h:zaa7 X scope N ks) (σ:St):(capS ks σ).length=N.length:=by
 have:ks.length=N.length:=by
  induction h with
  | nil=>rfl
  | skip t ih=>simp[ih]
  | take a b c t ih=>simp[ih]
 simp[capS,this]
def qComp (ks:List (Option Nat)) (wi:TI) (g:TG) (tt:TT) (te:TE):TE:=fun σ H Q=>wi σ H fun J H1=>zah6 J g tt te (capS ks σ) H1 Q
def freeB (scope:Scope) (f:Str->Option NameKind):Bool:=scope.names.all fun x=>x.2 != .free || (f x.1==some .cell || f x.1==some .free)
def zat5 (scope:Scope):Bool:=scope.names.all (fun x=>x.2 != .cell)&&scope.names.all fun x=>x.2 != .local || scope.names.lookup x.1==some .local
theorem zat4 {scope:Scope}{f:Str->Option NameKind}(h:freeB scope f=true):∀ x∈scope.names,x.2=.free->f x.1=some .cell∨f x.1=some .free:=fun x hx hf=>by
 have:=zcc0.mp h x hx
 simpa [hf] using this
theorem zam0 {scope:Scope}(h:zat5 scope=true):(∀ y∈scope.names,y.2≠.cell)/\∀ x∈scope.names,x.2=.local->scope.names.lookup x.1=some .local:=by
 unfold zat5 at h
 rw[zcb1] at h
 refine⟨fun y hy=>?_,fun x hx hl=>?_⟩
 ·have:=zcc0.mp h.1 y hy
  simpa using this
 ·have:=zcc0.mp h.2 x hx
  simpa [hl] using this
theorem zm9 {elt tg iter:Expr}{ifs:List Expr}{scope:Scope}{pos:Pos}{N:List Str}{ks:List (Option Nat)}{wi:TI}{g:TG}{tt:TT}{te:TE}(hi:PI X tg iter wi)
  (hg:∀ cl C s3 H3 fp,PG (blk X N scope cl C s3 H3 fp) tg g) (ht:∀ cl C s3 H3 fp,PTs (blk X N scope cl C s3 H3 fp) ifs tt) (he:∀ cl C s3 H3 fp,PE (blk X N scope cl C s3 H3 fp) elt te) (hcap:zaa7 X scope N ks)
  (hc:X.calm=true:=by rfl) (hkind:scope.kind=.function:=by rfl) (hb:freeB scope X.env.kindOf=true:=by rfl) (hn:zat5 scope=true:=by rfl) (hs:∀ x,foldedSetIterable iter X.env x=pure x:=by intro _;rfl) :
  PE X (.ListComp elt [⟨tg,iter,ifs,0⟩] scope pos) (qComp ks wi g tt te):=by
 intro pins s σ H Q I h
 obtain⟨hcell,hnames⟩:=zam0 hn
 obtain⟨cl,hcl,hcl1,hcl2⟩:=zaf2 (scope:=scope) (env:=X.env) fun x hx hf=>I.ok.has x.1 (zat4 hb x hx hf)
 rw[eval_ListComp]
 refine wpAny_comprehension_free (use:=none) rfl hs hcl hkind hnames ?_
 show wpAny _ _ (eval iter X.env) _ _ s
 refine thn (hi pins s σ H _ I h) fun v s1 h1=>thn h1 fun itv s2 h2=>?_
 obtain⟨it,fp,tn,J,H2,e,I2,T,st2,f2,q2⟩:=h2
 subst e
 refine zak0 (RR:=fun acc C=>compPost (model X.prog X.w) X.A X.xe none (EP X pins σ Q) acc C) hcl1 hcl2 hkind hcell (hcap.cap σ) (hcap.len σ) hc I2 T st2 f2 (hg cl) (ht cl) (he cl) q2 ?_
 rintro acc C H' s' I' hC ⟨m,hm⟩ hq
 refine⟨m,hm,fun h' hsb=>⟨.ref acc,H',?_,rfl,hq⟩⟩
 exact I'.turned (t':=s'.toks) (fun b o hb e=>hsb.extBut b o hb e) hC.1 hC.2.1 hC.2.2.2.1 hC.2.2.2.2.1 hC.2.2.2.2.2
theorem psC {i:Nat}{y:Str}{py spos:Pos}{elt tg iter:Expr}{ifs:List Expr}{scope:Scope}{pos:Pos}{N:List Str}{ks:List (Option Nat)}{wi:TI}{g:TG}{tt:TT}{te:TE}(hN:X.N.Nodup) (hi:PI X tg iter wi)
  (hg:∀ cl C s3 H3 fp,PG (blk X N scope cl C s3 H3 fp) tg g) (ht:∀ cl C s3 H3 fp,PTs (blk X N scope cl C s3 H3 fp) ifs tt) (he:∀ cl C s3 H3 fp,PE (blk X N scope cl C s3 H3 fp) elt te) (hcap:zaa7 X scope N ks)
  (hy:X.N[i]?=some y:=by rfl) (hl:X.env.scope.names.lookup y=some .local:=by rfl) (hsw:swapsWith (.ListComp elt [⟨tg,iter,ifs,0⟩] scope pos) (some (.Name y py)) spos.line X.env=pure true:=by rfl)
  (hc:X.calm=true:=by rfl) (hkind:scope.kind=.function:=by rfl) (hb:freeB scope X.env.kindOf=true:=by rfl) (hn:zat5 scope=true:=by rfl) (hs:∀ x,foldedSetIterable iter X.env x=pure x:=by intro _;rfl) :
  PS X (.Assign [.Name y py] (.ListComp elt [⟨tg,iter,ifs,0⟩] scope pos) spos) (tAsg (qComp ks wi g tt te) (zav3 i)):=by
 intro pins s σ H D I h
 obtain⟨hcell,hnames⟩:=zam0 hn
 obtain⟨cl,hcl,hcl1,hcl2⟩:=zaf2 (scope:=scope) (env:=X.env) fun x hx hf=>I.ok.has x.1 (zat4 hb x hx hf)
 rw[exec_Assign_Name_used _ _ _ _ hsw]
 refine wpAny_bind (wpAny_standAt (wpAny_bind ?_))
 show wpAny _ X.A (do let _ ← comprehension (.ListComp elt [⟨tg,iter,ifs,0⟩] scope pos) scope X.env _ (newList []) false (eval iter X.env) (some (assign (.Name y py) X.env))) _ _ s
 refine wpAny_bind (wpAny_mono (wpAny_comprehension_free (use:=some (assign (.Name y py) X.env)) (Q:=fun _ s'=>SP X pins D .next s') rfl hs hcl hkind hnames ?_) (fun _ s' hq=>wpAny_pure (wpAny_pure hq)) fun _ _ e=>e)
 refine thn (hi pins s σ H _ I h) fun v s1 h1=>thn h1 fun itv s2 h2=>?_
 obtain⟨it,fp,tn,J,H2,e,I2,T,st2,f2,q2⟩:=h2
 subst e
 refine zak0 (RR:=fun acc C=>compPost (model X.prog X.w) X.A X.xe (some (assign (.Name y py) X.env)) (fun _ s'=>SP X pins D .next s') acc C) hcl1 hcl2 hkind hcell (hcap.cap σ) (hcap.len σ) hc I2 T st2 f2 (hg cl) (ht cl) (he cl) q2 ?_
 rintro acc C H' s' I' hC ⟨m,hm⟩ hq
 show wpAny _ _ (assign (.Name y py) X.env (.ref acc)) _ _ _
 refine wpAny_assign_Name (zam1 I' hN hy (.inl hl) (v:=.ref acc) rfl (fun s'' I'' hsb=>?_) (.inr hl))
 obtain⟨a,hsb,ha⟩:=hsb
 have hCa:C≠a:=by
  rcases ha with ha|ha
  ·rw[ha];exact hC.2.1
  ·exact (hC.2.2.2.2.1 y a ha).symm
 refine⟨m,hm.sameBut hsb hCa,fun h' hsb'=>⟨σ.set i (some (.ref acc)),H',?_,hq⟩⟩
 exact I''.turned (t':=s''.toks) (fun b o hb e=>hsb'.extBut b o hb e) hC.1 hC.2.1 hC.2.2.2.1 hC.2.2.2.2.1 hC.2.2.2.2.2
end
section
variable {K:zbz8}{g:TG}{tt:TT}{te:TE}{σ0:St}{H1:Hp}{Q:VK}
end
end L2
set_option maxHeartbeats 2000000
namespace L2
open PySem PySem.Spec PyProof.Rows
section
variable {X:Cx}
@[irreducible] def rSumA (K:zbz8) (p:Addr) (H:Hp) (Q:VK):Prop:=∃ ns:List Int,SqL K H p (ns.map V.int)/\Q (.int ns.sum) H
def rSumM (K:zbz8):List V->Hp->VK->Prop:=fun xs H Q=>match xs with
 | [.ref p]=>rSumA K p H Q
 | _=>False
theorem cSum (hc:X.calm=true):zn4 X (.builtin "sum") (rSumM X.K):=fun pins s σ H xs us Q I r h=>by
 unfold rSumM at h
 split at h
 ·unfold rSumA at h
  obtain⟨ns,h1,h2⟩:=h
  obtain⟨u,rfl,rx⟩:=zae0 r
  cases rx
  obtain⟨its,r',pl,hz⟩:=I.list h1
  have hi:=zau6 r'
  obtain⟨ys,hx⟩:=hi.allInts.items
  have hl':s.heap.IsList _ (intItems ys):=hx▸pl.isList
  refine sum_intListG (I.ok.hd hc) hl' fun h' tk t' hk=>?_
  have e1:ns=ys.toList.map (·.1):=by
   rw[← nums_intItems,← hx]
   exact (show numsOf its.toArray.toList=ns from hi.numsOf).symm
  have e2:preSum (numAt ys) ys.size=ns.sum:=by
   rw[preSum_eq,zcg4 (by simp),e1]
  rw[e2]
  exact⟨.int ns.sum,H,I.kept hk,⟨_,rfl⟩,h2⟩
 ·exact h.elim
theorem zbl9 {K:zbz8}{p:Addr}{H:Hp}{Q:VK}{ns:List Int}(h:H p=some (.lst (ns.map V.int))) (q:Q (.int ns.sum) H):rSumA K p H Q:=by unfold rSumA;exact⟨ns,SqL.of h,q⟩
theorem zab9:∀ {bs:List Bool}{us:List Value},Vals (bs.map V.bl) us->LSm.BoolsAre us bs
 | [],us,r=>by rw[List.map_nil] at r;cases r;exact .nil
 | b :: bs,us,r=>by
  rw[zcd9] at r
  cases r with
  | cons r1 r2=>
   cases r1
   exact .cons b (zab9 r2)
@[irreducible] def rAllA (K:zbz8) (p:Addr) (H:Hp) (Q:VK):Prop:=∃ bs:List Bool,SqL K H p (bs.map V.bl)/\Q (.bl (bs.all id)) H
def rAllM (K:zbz8):List V->Hp->VK->Prop:=fun xs H Q=>match xs with
 | [.ref p]=>rAllA K p H Q
 | _=>False
theorem cAll (hc:X.calm=true):zn4 X (.builtin "all") (rAllM X.K):=fun pins s σ H xs us Q I r h=>by
 unfold rAllM at h
 split at h
 ·rename_i p
  unfold rAllA at h
  obtain⟨bs,h1,h2⟩:=h
  obtain⟨u,rfl,rx⟩:=zae0 r
  cases rx
  obtain⟨its,r',pl,hz⟩:=I.list h1
  have hb:=zab9 r'
  have hlt:p<s.heap.objs.size:=by obtain⟨_,e,_⟩:=pl.isList;exact zcb7 e
  refine call_all_walk (wpAny_pyIter_list pl.isList ?_)
  refine⟨s.heap.objs.size,[s.heap.objs.size,_],[s.heap.objs.size],its.toArray.size,_,_,fun i=>(bs[i]?).getD true,rfl,Walks.list (A:=X.A.in1) (I.ok.hd hc) _ _ (zce2 hlt) its.toArray,
   ⟨⟨_,zcd1 _ rfl,rfl,rfl⟩,pl.isList.push _⟩,fun i v s' Q' E' hP hQ=>?_,fun h' tk hk=>?_⟩
  ·obtain⟨b,e,rfl⟩:=hb.get i v (by simpa using hP)
   simp only[e,Option.getD_some] at hQ
   exact wpAny_truthy_bool hQ
  ·have e:((List.range its.toArray.size).all fun i=>(bs[i]?).getD true)=bs.all id:=by
    rw[zca4,hb.length];exact LSm.range_all bs
   rw[e]
   exact⟨.bl _,H,I.kept (LSm.kept_iter hk),rfl,h2⟩
 ·exact h.elim
theorem zae9 {K:zbz8}{p:Addr}{H:Hp}{Q:VK}{bs:List Bool}(h:H p=some (.lst (bs.map V.bl))) (q:Q (.bl (bs.all id)) H):rAllA K p H Q:=by unfold rAllA;exact⟨bs,SqL.of h,q⟩
@[irreducible] def zac0 (K:zbz8) (p:Addr) (H:Hp) (Q:VK):Prop:=∃ ys,(SqL K H p ys∨SqT K H p ys)/\∀ l H',H l=none->Same H H'->H' l=some (.lst ys)->Q (.ref l) H'
def zba5 (K:zbz8):List V->Hp->VK->Prop:=fun xs H Q=>match xs with
 | [.ref p]=>zac0 K p H Q
 | _=>False
theorem cList:zn4 X (.type "list") (zba5 X.K):=fun pins s σ H xs us Q I r h=>by
 unfold zba5 at h
 split at h
 ·unfold zac0 at h
  obtain⟨ys,h1,h2⟩:=h
  exact zam9 pins s σ H _ us Q I r ⟨_,ys,rfl,h1,fun l hl=>h2 l _ hl (Same.upd hl) zc2⟩
 ·exact h.elim
theorem zw0 {K:zbz8}{p:Addr}{H:Hp}{Q:VK}{ys:List V}(h:SqL K H p ys) (q:∀ l H',H l=none->Same H H'->H' l=some (.lst ys)->Q (.ref l) H'):zac0 K p H Q:=by unfold zac0;exact⟨ys,.inl h,q⟩
@[irreducible] def zaf5 (K:zbz8) (p:Addr) (H:Hp) (R:Prop):Prop:=(∃ xs,SqL K H p xs)/\R
def qBM (K:zbz8) (r:Addr->List V->Hp->VK->Prop) (to:TE) (t:TA):TE:=fun σ H Q=>to σ H fun x H1=>match x with
 | .ref p=>zaf5 K p H1 (t σ H1 fun xs H2=>r p xs H2 Q)
 | _=>False
theorem zo5 {K:zbz8}{p:Addr}{H:Hp}{R:Prop}{xs:List V}(h:H p=some (.lst xs)) (q:R):zaf5 K p H R:=by unfold zaf5;exact⟨⟨xs,SqL.of h⟩,q⟩
def MtA (X:Cx) (id:String) (r:Addr->List V->Hp->VK->Prop):Prop:=
 ∀ (pins:List (Addr×Obj)) (s:Shared) (σ:St) (H:Hp) (p:Addr) (xs:List V) (us:List Value) (Q:VK),Inv X pins σ H s->Vals xs us->r p xs H Q ->
  wpAny (model X.prog X.w) X.A (call (.builtin id) (.ref p :: us)) (EP X pins σ Q) X.xe s
theorem peBM {o e:Expr}{es:List Expr}{to:TE}{t:TA}{name:Str}{apos cpos:Pos}{id:String}{r:Addr->List V->Hp->VK->Prop}(slot:Slot "list" name id) (hty:typeOf (.builtin id)=pure (.type "method_descriptor")) (hm:MtA X id r) (ho:PE X o to) (ha:PA X (e :: es) t)
  (hbase:attributeBase o name X.env (eval o X.env)=eval o X.env:=by rfl)
  (hfew:((backTo cpos (starEach (e :: es) X.env)).all (fun x=>!x.1)&&(backToKw cpos (keywordEach [] X.env)).all (fun x=>x.1.isSome)
   && decide ((e :: es).length+([]:List Keyword).length+(if ([]:List Keyword).isEmpty then 0 else 1)<30))=true:=by rfl)
  (hline:(apos.endLine==cpos.line)=true:=by rfl) (hs:starEach (e :: es) X.env=(false,eval e X.env) :: starEach es X.env:=by rfl) (hplain:(backTo cpos (starEach es X.env)).any (·.1)=false:=by rfl) :
  PE X (.Call (.Attribute o name apos) (e :: es) [] cpos) (qBM X.K r to t):=by
 intro pins s σ H Q I h
 refine wpAny_Call_method_late hbase hfew hline rfl (thn (ho pins s σ H _ I h) fun v s1 ⟨x,H1,I1,r1,q1⟩=>?_)
 dsimp only at q1
 split at q1
 ·rename_i p
  unfold zaf5 at q1
  obtain⟨hq,q1⟩:=q1
  obtain⟨h1,h2⟩:=zbl2 (T:="list") I1 r1 (.inl ⟨rfl,hq⟩)
  refine⟨"list",id,PySem.F.plainAttrs_list,slot,hty,h1,h2,?_⟩
  have hA:=ha cpos pins s1 σ H1 _ I1 q1
  rw[hs] at hA ⊢
  refine Calls.callWith_builtin (by show (false || (backTo cpos (starEach es X.env)).any (·.1))=false;rw[hplain]<;>rfl) (Calls.evalArgs_plain ?_)
  cases r1
  exact thn hA fun us s2 ⟨vs,H2,I2,r2,q2⟩=>hm pins s2 σ H2 p vs us Q I2 r2 q2
 ·exact q1.elim
@[irreducible] def rAppA (p:Addr) (v:V) (H:Hp) (Q:VK):Prop:=∃ xs,H p=some (.lst xs)/\xs.length<sizeLine/\∀ H',Chg p H H'->H' p=some (.lst (xs++[v]))->Q .non H'
def rAppM:Addr->List V->Hp->VK->Prop:=fun p vs H Q=>match vs with
 | [v]=>rAppA p v H Q
 | _=>False
theorem zbo1:MtA X "list.append" rAppM:=fun pins s σ H p xs us Q I r h=>by
 unfold rAppM at h
 split at h
 ·unfold rAppA at h
  obtain⟨ys,h1,h2,h3⟩:=h
  exact zan0 pins s σ H (.ref p) _ (.ref p) us Q I rfl r ⟨p,ys,_,rfl,rfl,h1,h2,h3 _ Chg.upd zc2⟩
 ·exact h.elim
theorem zab4 {p:Addr}{v:V}{H:Hp}{Q:VK}{xs:List V}(h:H p=some (.lst xs)) (hz:xs.length<sizeLine) (q:∀ H',Chg p H H'->H' p=some (.lst (xs++[v]))->Q .non H'):rAppA p v H Q:=by unfold rAppA;exact⟨xs,h,hz,q⟩
theorem zm5 {o e:Expr}{to:TE}{t:TA}{apos cpos:Pos}(ho:PE X o to) (ha:PA X [e] t) (hbase:attributeBase o "append" X.env (eval o X.env)=eval o X.env:=by rfl)
  (hfew:((backTo cpos (starEach [e] X.env)).all (fun x=>!x.1)&&(backToKw cpos (keywordEach [] X.env)).all (fun x=>x.1.isSome)
   && decide ([e].length+([]:List Keyword).length+(if ([]:List Keyword).isEmpty then 0 else 1)<30))=true:=by rfl)
  (hline:(apos.endLine==cpos.line)=true:=by rfl) (hs:starEach [e] X.env=(false,eval e X.env) :: starEach [] X.env:=by rfl) (hplain:(backTo cpos (starEach [] X.env)).any (·.1)=false:=by rfl):PE X (.Call (.Attribute o "append" apos) [e] [] cpos) (qBM X.K rAppM to t):=
 peBM PySem.F.slot_list_append PySem.F.type_list_append zbo1 ho ha hbase hfew hline hs hplain
def rIsM:R2:=fun x y H Q=>match y with
 | .non=>Q (.bl (decide (x=.non))) H
 | _=>False
theorem oIs:OpR X (compareOp .Is) rIsM:=by
 intro pins s σ H x y v u Q I rx ry h
 unfold rIsM at h
 split at h
 ·exact op_isN pins s σ H _ _ v u Q I rx ry ⟨rfl,h⟩
 ·exact h.elim
section
variable {prog:Program}{w:World}{A:Around}{E:Value->Shared->Prop}{s:Shared}
theorem zan3 {it t:Addr}{items:Array Value}(hne:t≠it):∀ (n i:Nat) (s:Shared) (Q:List Value->Shared->Prop),s.heap.IsListIter it t i->s.heap.IsList t items->i+n<=items.size ->
  (∀ h',h'.IsListIter it t (i+n)->Heap.SameBut it s.heap h'->Q ((items.toList.drop i).take n) { s with heap:=h' })->wpAny (model prog w) A (draw (.ref it) n) Q E s
 | 0,i,s,Q,hit,_,_,hQ=>by
  show wpAny _ _ (pure []) Q E s
  exact wpAny_pure (by simpa using hQ s.heap hit (Heap.SameBut.refl ..))
 | n+1,i,s,Q,hit,ht,hle,hQ=>by
  have hlt:i<items.size:=by omega
  show wpAny _ _ (pyNext (.ref it) >>= _) Q E s
  refine wpAny_bind (wpAny_pyNext_list_item hit ht (x:=items[i]) (by simp[hlt]) fun h₁ hit₁ hs₁=>?_)
  refine wpAny_bind (wpAny_holding (zan3 hne n (i+1) _ _ hit₁ (ht.extBut hs₁.extBut hne) (by omega) fun h₂ hit₂ hs₂=>wpAny_pure ?_))
  have hd:items.toList.drop i=items[i] :: items.toList.drop (i+1):=by simp[List.drop_eq_getElem_cons,hlt]
  have:=hQ h₂ (by rw[show i+(n+1)=i+1+n by omega];exact hit₂) (hs₁.trans hs₂)
  rw[hd,List.take_succ_cons] at this
  exact this
theorem zx0 {env:Env}{elts:List Expr}{x1} {pos:Pos}{t:Addr}{items:Array Value}{Q:Unit->Shared->Prop}(hh:A.handled=none) (ht:s.heap.IsList t items)
  (hn:(assignEach elts env).length=items.size) (hstar:(assignEach elts env).findIdx? (·.1)=none)
  (h:∀ h',Heap.ExtBut s.heap.objs.size s.heap h'->wpAny (model prog w) A (assignInOrder ((assignEach elts env).map (·.2)) items.toList) Q E { s with heap:=h' }) :
  wpAny (model prog w) A (assign (.Tuple elts x1 pos) env (.ref t)) Q E s:=by
 rw[assign_Tuple]
 refine wpAny_bind (wpAny_standAt ?_)
 unfold unpack
 rw[hn,hstar]
 refine wpAny_bind (wpAny_holding ?_)
 have hlt:t≠s.heap.objs.size:=by obtain⟨o,ho,_⟩:=ht;exact zce2 (zcb7 ho)
 unfold unpackItems
 refine wpAny_bind ?_
 unfold notIterableAtAll
 refine wpAny_bind (wpAny_specialOf ht.typeIs F.slot_list_iter.lookup ?_)
 refine wpAny_pure ?_
 simp only[zcg0,if_false]
 refine wpAny_bind (wpAny_holding (wpAny_pyIter_list ht ?_))
 refine wpAny_bind (wpAny_holding (zan3 hlt items.size 0 _ _ ⟨_,zcd1 _ rfl,rfl,rfl⟩ (ht.push _) (by omega) fun h₁ hit₁ hs₁=>?_))
 have hall:List.take items.size (List.drop 0 items.toList)=items.toList:=by
  rw[zch5];exact zcg4 (by simp)
 rw[hall]
 rw[if_neg (by simp)]
 have ht₁:h₁.IsList t items:=(ht.push _).extBut hs₁.extBut hlt
 refine wpAny_bind (wpAny_holding (wpAny_pyNext_list_end hh hit₁ ht₁ (by simp) fun h₂ he₂=>?_))
 simp only[Option.isSome_none,zcg0,if_false]
 exact wpAny_pure (h h₂ fun b o hb e=>he₂ b o hb (hs₁.extBut b o hb (zca8 _ e)))
end
@[irreducible] def rUnpA (K:zbz8) (a:Addr) (n:Nat) (t:TGs) (σ:St) (H:Hp) (Q:St->Hp->Prop):Prop:=∃ xs,(SqT K H a xs∨SqL K H a xs)/\xs.length=n/\t xs σ H Q
def qgAny (K:zbz8) (n:Nat) (t:TGs):TG:=fun v σ H Q=>match v with
 | .ref a=>rUnpA K a n t σ H Q
 | _=>False
theorem pgAny {pos:Pos}{es:List Expr}{k:Nat}{t:TGs}{n:Nat}(hc:X.calm=true) (h:PGs X es t)
  (hn:(assignEach es X.env).length=n:=by rfl) (hst:(assignEach es X.env).findIdx? (·.1)=none:=by rfl):PG X (.Tuple es k pos) (qgAny X.K n t):=fun pins s σ H v u Q I r hq=>by
 unfold qgAny at hq
 split at hq
 ·unfold rUnpA at hq
  obtain⟨xs,a1,a2,a3⟩:=hq
  rcases a1 with a1|a1
  ·exact pg_tup hc h hn hst pins s σ H _ u Q I r ⟨_,xs,rfl,a1,a2,a3⟩
  ·cases r
   obtain⟨its,rv,pl,hz⟩:=I.list a1
   refine zx0 (I.ok.hd hc) pl.isList (by simp[hn,← a2,rv.length]) hst fun h' hx=>?_
   have I1:Inv X pins σ H { s with heap:=h' }:=I.kept (t':=s.toks) fun b o e=>hx b o (zce2 (zcb7 e)) e
   exact h pins _ σ H xs _ Q I1 (by simpa using rv) a3
 ·exact hq.elim
theorem zl0 {K:zbz8}{a:Addr}{n:Nat}{t:TGs}{σ:St}{H:Hp}{Q:St->Hp->Prop}{xs:List V}(h:H a=some (.tup xs)) (q:t xs σ H Q) (e:xs.length=n:=by rfl):rUnpA K a n t σ H Q:=by
 unfold rUnpA;exact⟨xs,.inl (SqT.of h),e,q⟩
end
def Chg2 (a c:Addr) (H H':Hp):Prop:=∀ b o,b≠a->b≠c->H b=some o->H' b=some o
theorem Chg2.at {a c b:Addr}{o:HO}{H H':Hp}(x:Chg2 a c H H') (e:H b=some o) (h1:b≠a) (h2:b≠c):H' b=some o:=x b o h1 h2 e
section
variable {K:zbz8}{g:TG}{tt:TT}{te:TE}{σ0:St}{H1:Hp}{Q:VK}
end
section
variable {X:Cx}{K:zbz8}
theorem zc5 {a b:Expr}{ta tb:TE}{pos:Pos}(hK:X.K=K) (ha:PE X a ta) (hb:PE X b tb) (hs:zaq3 b:=by exact fun _ _=>rfl):PE X (.Subscript a b pos) (tOp (rIxM K) ta tb):=by subst hK;exact peIx ha hb hs
theorem zq5 (hK:X.K=K):zn4 X (.builtin "len") (rLenM K):=by subst hK;exact cLen
theorem zy9 (hK:X.K=K):zn4 X (.builtin "isinstance") (rIsiM K):=by subst hK;exact cIsi
theorem cSumK (hK:X.K=K) (hc:X.calm=true):zn4 X (.builtin "sum") (rSumM K):=by subst hK;exact cSum hc
theorem zaw3 (hK:X.K=K) (hc:X.calm=true):zn4 X (.builtin "all") (rAllM K):=by subst hK;exact cAll hc
theorem zak5 (hK:X.K=K):zn4 X (.type "list") (zba5 K):=by subst hK;exact cList
theorem oEqK (hK:X.K=K) (hu:X.A.units+40<cLine):OpR X (compareOp .Eq) (rEqM K):=by subst hK;exact oEq hu
theorem oNeK (hK:X.K=K) (hu:X.A.units+40<cLine):OpR X (compareOp .NotEq) (rNeM K):=by subst hK;exact oNe hu
theorem zg4 {tg l:Expr}{tl:TE}(hK:X.K=K) (hl:PE X l tl):PI X tg l (qiSeq K tl):=by subst hK;exact piSeq hl
theorem zp9 {pos:Pos}{es:List Expr}{k:Nat}{t:TGs}{n:Nat}(hK:X.K=K) (hc:X.calm=true) (h:PGs X es t)
  (hn:(assignEach es X.env).length=n:=by rfl) (hst:(assignEach es X.env).findIdx? (·.1)=none:=by rfl):PG X (.Tuple es k pos) (qgAny K n t):=by subst hK;exact pgAny hc h hn hst
end
end L2
set_option maxHeartbeats 2000000
namespace L2
open PySem PySem.Spec PyProof.Rows
def Ite (K:zbz8) (a:Addr):It:=
 ⟨fun i H=>∃ xs x,SqL K H a xs/\xs[i]?=some x,fun i H v H'=>∃ p y,v=.ref p/\H p=none/\Same H H'/\H' p=some (.tup [.int i,y])/\∀ xs,SqL K H a xs->xs[i]?=some y,fun i H=>∃ xs,SqL K H a xs/\xs.length<=i⟩
section
variable {X:Cx}{K:zbz8}
@[irreducible] def rEnum (K:zbz8) (a:Addr) (H:Hp) (R:It->Hp->Prop):Prop:=(∃ xs,SqL K H a xs)/\R (Ite K a) H
def qiEnum (K:zbz8) (ta:TA):TI:=fun σ H R=>ta σ H fun vs H1=>match vs with
 | [.ref a]=>rEnum K a H1 R
 | _=>False
end
section
variable {K:zbz8}{g:TG}{tb:TS}{D:Ends}{σ:St}{H:Hp}{R:It->Hp->Prop}
end
section
variable {K:zbz8}{g:TG}{tt:TT}{te:TE}{σ0:St}{H1:Hp}{Q:VK}
end
section
variable {X:Cx}{K:zbz8}
theorem zak8 {x:V}:∀ {xs:List V}{us:List Value},Vals xs us->xs.all zk9=true->us.countP (eqU x)=xs.countP fun y=>eqV y x
 | _,_,.nil,_=>rfl
 | y :: xs,u :: us,.cons r t,f=>by
  rw[List.all_cons,zcb1] at f
  rw[zci2,zci2,zar5 r f.1,zak8 t f.2]
@[irreducible] def rCntA (p:Addr) (x:V) (H:Hp) (Q:VK):Prop:=∃ xs,H p=some (.lst xs)/\zk9 x=true/\xs.all zk9=true/\Q (.int (xs.countP fun y=>eqV y x:Nat)) H
def rCntM:Addr->List V->Hp->VK->Prop:=fun p vs H Q=>match vs with
 | [v]=>rCntA p v H Q
 | _=>False
theorem mCount:MtA X "list.count" rCntM:=fun pins s σ H p xs us Q I r h=>by
 unfold rCntM at h
 split at h
 ·rename_i v
  unfold rCntA at h
  obtain⟨ys,h1,h2,h3,h4⟩:=h
  obtain⟨u,rfl,ru⟩:=r.one
  obtain⟨z,its,n,r',hl,e⟩:=I.lstM h1
  refine call_meets F.slot_list_count ⟨_,e,rfl⟩ F.entry_list_count (F.args_list_count_2 _ _) (SeqAt.list_countAt p its.toArray n none #[] u (eqU v)) ⟨e,fun y hy=>zv2 ru h2 r' h3 y (by simpa using hy),?_⟩
  have ec:its.toArray.toList.countP (eqU v)=ys.countP fun y=>eqV y v:=zak8 r' h3
  exact⟨.int _,H,I.tok _,⟨_,by rw[ec]⟩,h4⟩
 ·exact h.elim
theorem cnt_rd {p:Addr}{x:V}{H:Hp}{Q:VK}{xs:List V}(h:H p=some (.lst xs)) (h1:zk9 x=true) (h2:xs.all zk9=true) (q:Q (.int (xs.countP fun y=>eqV y x:Nat)) H):rCntA p x H Q:=by unfold rCntA;exact⟨xs,h,h1,h2,q⟩
theorem zax1 {o e:Expr}{to:TE}{t:TA}{apos cpos:Pos}(hK:X.K=K) (ho:PE X o to) (ha:PA X [e] t) (hbase:attributeBase o "count" X.env (eval o X.env)=eval o X.env:=by rfl)
  (hfew:((backTo cpos (starEach [e] X.env)).all (fun x=>!x.1)&&(backToKw cpos (keywordEach [] X.env)).all (fun x=>x.1.isSome)
   && decide ([e].length+([]:List Keyword).length+(if ([]:List Keyword).isEmpty then 0 else 1)<30))=true:=by rfl)
  (hline:(apos.endLine==cpos.line)=true:=by rfl) (hs:starEach [e] X.env=(false,eval e X.env) :: starEach [] X.env:=by rfl) (hplain:(backTo cpos (starEach [] X.env)).any (·.1)=false:=by rfl):PE X (.Call (.Attribute o "count" apos) [e] [] cpos) (qBM K rCntM to t):=by
 subst hK
 exact peBM PySem.F.slot_list_count PySem.F.type_list_count mCount ho ha hbase hfew hline hs hplain
end
end L2
set_option maxHeartbeats 2000000
namespace L2
open PySem PySem.Spec PyProof.Rows
theorem zt1 {xs:List V}{k:Int}(h:0<=k):cutV xs (some k) none=xs.drop k.toNat:=by
 show List.take (xs.length - (if k<0 then (k+(xs.length:Int)).toNat else min k.toNat xs.length)) (List.drop (if k<0 then (k+(xs.length:Int)).toNat else min k.toNat xs.length) xs)=_
 rw[if_neg (by omega)]
 by_cases hk:k.toNat<=xs.length
 ·rw[Nat.min_eq_left hk,zcg4 (by rw[zcd2];omega)]
 ·rw[Nat.min_eq_right (by omega),zch1 (by omega),zch1 (by omega),List.take_nil]
theorem zq4 {xs:List V}{k:Int}(h:0<=k):cutV xs none (some k)=xs.take k.toNat:=by
 show List.take ((if k<0 then (k+(xs.length:Int)).toNat else min k.toNat xs.length) - 0) (List.drop 0 xs)=_
 rw[if_neg (by omega),zch5,Nat.sub_zero]
 by_cases hk:k.toNat<=xs.length
 ·rw[Nat.min_eq_left hk]
 ·rw[Nat.min_eq_right (by omega),zcg4 (zcb6 _),zcg4 (by omega)]
def rowV (n:Nat) (r:Nat->Int):List V:=(List.range n).map fun t=>V.int (r t)
theorem zbd6 {xs:List V}{v:V}{n:Nat}(h:xs.length=n+1) (e:xs[n]?=some v):atI xs (-1)=some v:=by
 unfold atI ixN
 rw[if_neg (by decide),if_pos (by omega)]
 show xs[((-1:Int)+xs.length).toNat]?=_
 rw[show ((-1:Int)+xs.length).toNat=n by omega];exact e
theorem ixN_in {n:Nat}{i:Int}(h0:0<=i) (h1:i<n):ixN n i=some i.toNat:=by unfold ixN;rw[if_pos h0,if_pos h1]
structure zbm9 (H:Hp) (a:Addr) (ps:List Addr) (n h:Nat) (g:Nat->Nat->Int):Prop where
 out:H a=some (.lst (ps.map V.ref))
 len:ps.length=n
 row:∀ (i:Nat) (p:Addr),ps[i]?=some p->H p=some (.lst (rowV h (g i)))
theorem zbm9.some {H:Hp}{a:Addr}{ps:List Addr}{n h:Nat}{g:Nat->Nat->Int}(G:zbm9 H a ps n h g) {i:Nat}(hi:i<n):∃ p,ps[i]?=.some p/\H p=.some (.lst (rowV h (g i))):=by
 have hl:i<ps.length:=by rw[G.len];exact hi
 exact⟨ps[i],zbz6 hl,G.row i _ (zbz6 hl)⟩
structure Wk (J:It) (n:Nat) (H1:Hp) (X:Nat->V->Hp->Prop):Prop where
 go:∀ i H,Same H1 H->i<n->J.go i H
 stop:∀ H,Same H1 H->J.stop n H
 yld:∀ i H x H',Same H1 H->i<n->J.yld i H x H'->Same H H'/\X i x H'
theorem Wk.range {lo:Int}{n:Nat}{H1:Hp}:Wk (Itr lo n) n H1 fun i x _=>x=.int (lo+i):=
 ⟨fun i H _ h=>h,fun H _=>zcb6 _,fun i H x H' _ _ y=>by obtain⟨rfl,rfl⟩:=y;exact⟨Same.refl _,rfl⟩⟩
theorem Wk.list {K:zbz8}{a:Addr}{xs:List V}{H1:Hp}(h:SqL K H1 a xs):Wk (Itl K a) xs.length H1 fun i x _=>xs[i]?=some x:=
 ⟨fun i H s hi=>⟨xs,xs[i],s.seq h,by simp[hi]⟩,fun H s=>⟨xs,s.seq h,zcb6 _⟩,fun i H x H' s _ y=>by
  obtain⟨e,y⟩:=y
  subst e
  exact⟨Same.refl _,y xs (s.seq h)⟩⟩
structure zar2 (H1 H:Hp) (acc:Addr) (ps:List Addr) (n:Nat) (f:Nat->HO):Prop where
 facc:H1 acc=none
 same:Same H1 H
 out:H acc=some (.lst (ps.map V.ref))
 len:ps.length=n
 nd:ps.Nodup
 nin:acc ∉ ps
 row:∀ i p,ps[i]?=some p->H1 p=none/\H p=some (f i)
theorem zar2.some {H1 H:Hp}{acc:Addr}{ps:List Addr}{n:Nat}{f:Nat->HO}(F:zar2 H1 H acc ps n f) {i:Nat}(hi:i<n):∃ p,ps[i]?=.some p/\H p=.some (f i):=by
 have hl:i<ps.length:=by rw[F.len];exact hi
 exact⟨ps[i],zbz6 hl,(F.row i _ (zbz6 hl)).2⟩
section
variable {K:zbz8}{g:TG}{tt:TT}{te:TE}{σ0:St}{H1:Hp}{Q:VK}{J:It}{n:Nat}{X:Nat->V->Hp->Prop}
theorem zab6 (w:Wk J n H1 X) (hn:n<sizeLine) (f:Nat->HO) (Ps:Nat->St->Prop) (h0:Ps 0 σ0)
  (turn:∀ i x σ H (R:St->V->Hp->Prop) (S:St->Hp->Prop),i<n->Same H1 H->X i x H->Ps i σ->(∀ σ2 p H5,H p=none->Same H H5->H5 p=some (f i)->Ps (i+1) σ2->R σ2 (.ref p) H5)->g x σ H fun σ2 H3=>tt σ2 H3 fun b H4=>br b (te σ2 H4 fun v H5=>R σ2 v H5) (S σ2 H4))
  (fin:∀ acc ps H,zar2 H1 H acc ps n f->Q (.ref acc) H):zah6 J g tt te σ0 H1 Q:=by
 unfold zah6
 intro acc H2 hf hs ha
 refine⟨fun i m ys σ H=>m=n - i/\i<=n/\∃ ps:List Addr,ys=ps.map V.ref/\zar2 H1 H acc ps i f/\Ps i σ,⟨n,by simp,zcd6 _,[],rfl,⟨hf,hs,ha,rfl,List.nodup_nil,by simp,fun i p e=>by simp at e⟩,h0⟩,?_⟩
 rintro i m ys σ H ⟨rfl,hi,ps,rfl,F,P⟩
 refine⟨F.out,by rw[zbz7,F.len];omega,?_⟩
 by_cases hlt:i<n
 ·refine .inr ⟨w.go i H F.same hlt,fun x H' y=>?_⟩
  obtain⟨s1,x1⟩:=w.yld i H x H' F.same hlt y
  refine turn i x σ H' (fun σ2 v H5=>cPut _ acc (ps.map V.ref) i (n - i) σ2 v H5) (fun σ2 H4=>zan7 _ (ps.map V.ref) i (n - i) σ2 H4) hlt (F.same.trans s1) x1 P ?_
  intro σ2 p H5 fp s5 hp P2
  have fp0:H p=none:=s1.free fp
  have s15:=s1.trans s5
  have na:p≠acc:=Ne.symm (za4 F.out fp0)
  unfold cPut
  refine⟨s15 _ _ F.out,fun H6 c6 h6=>⟨n - (i+1),by omega,rfl,hlt,ps++[p],by rw[zcc6];rfl,⟨F.facc,(F.same.trans s15).chg F.facc c6,by rw[zcc6];exact h6,by rw[zca7,F.len];rfl,?_,?_,?_⟩,P2⟩⟩
  ·rw[zcg2]
   refine⟨F.nd,by simp,fun a ha b hb=>?_⟩
   have:b=p:=by simpa using hb
   subst this
   obtain⟨k,hk⟩:=zcc5 ha
   exact za4 (F.row k a hk).2 fp0
  ·intro hz
   rcases zcc3.mp hz with hz|hz
   ·exact F.nin hz
   ·exact na (by simpa using hz:acc=p).symm
  ·intro k q e
   by_cases hk:k<ps.length
   ·rw[zcc4 hk] at e
    obtain⟨z1,z2⟩:=F.row k q e
    exact⟨z1,c6 _ _ (fun z=>F.nin (z▸zca0 e)) (s15 _ _ z2)⟩
   ·rw[zcc2 (by omega)] at e
    have hk2:k - ps.length=0:=by
     have:=(zbz9.mp e).1
     simp at this;omega
    rw[hk2] at e
    have:p=q:=by simpa using e
    subst this
    have:k=i:=by have:=F.len;omega
    subst this
    exact⟨F.same.free fp0,c6 _ _ na hp⟩
 ·have e:i=n:=by omega
  subst e
  exact .inl ⟨w.stop H F.same,fin acc ps H F⟩
theorem zs7 (w:Wk J n H1 X) (hn:n<sizeLine) (f:Nat->V) (p:Nat->Bool) (Ps:Nat->St->Prop) (h0:Ps 0 σ0)
  (turn:∀ i x σ H (R:St->V->Hp->Prop) (S:St->Hp->Prop),i<n->Same H1 H->X i x H->Ps i σ->(p i=true->∀ σ2 H5,Same H H5->Ps (i+1) σ2->R σ2 (f i) H5)->(p i=false->∀ σ2 H5,Same H H5->Ps (i+1) σ2->S σ2 H5) ->
   g x σ H fun σ2 H3=>tt σ2 H3 fun b H4=>br b (te σ2 H4 fun v H5=>R σ2 v H5) (S σ2 H4))
  (fin:∀ acc H,H1 acc=none->Same H1 H->H acc=some (.lst (((List.range n).filter p).map f))->Q (.ref acc) H):zah6 J g tt te σ0 H1 Q:=by
 unfold zah6
 intro acc H2 hf hs ha
 refine⟨fun i m ys σ H=>m=n - i/\i<=n/\ys=((List.range i).filter p).map f/\Same H1 H/\H acc=some (.lst ys)/\Ps i σ,⟨n,by simp,zcd6 _,rfl,hs,ha,h0⟩,?_⟩
 rintro i m ys σ H ⟨rfl,hi,rfl,s,hy,P⟩
 have hlen:(((List.range i).filter p).map f).length<=i:=by
  rw[zbz7]
  have:=List.length_filter_le p (List.range i)
  rwa [zch9] at this
 refine⟨hy,by omega,?_⟩
 by_cases hlt:i<n
 ·refine .inr ⟨w.go i H s hlt,fun x H' y=>?_⟩
  obtain⟨s1,x1⟩:=w.yld i H x H' s hlt y
  refine turn i x σ H' (fun σ2 v H5=>cPut _ acc _ i (n - i) σ2 v H5) (fun σ2 H4=>zan7 _ _ i (n - i) σ2 H4) hlt (s.trans s1) x1 P ?_ ?_
  ·intro hp σ2 H5 s5 P2
   unfold cPut
   refine⟨s5 _ _ (s1 _ _ hy),fun H6 c6 h6=>⟨n - (i+1),by omega,rfl,hlt,?_,((s.trans s1).trans s5).chg hf c6,h6,P2⟩⟩
   rw[List.range_succ,List.filter_append,zcc6]
   congr 1
   simp[hp]
  ·intro hp σ2 H5 s5 P2
   unfold zan7
   refine⟨n - (i+1),by omega,rfl,hlt,?_,(s.trans s1).trans s5,s5 _ _ (s1 _ _ hy),P2⟩
   rw[List.range_succ,List.filter_append,zcc6]
   simp[hp]
 ·have e:i=n:=by omega
  subst e
  exact .inl ⟨w.stop H s,fin acc H hf s hy⟩
theorem zp1 (n:Nat):(List.range n).filter (fun _=>true)=List.range n:=by simp
end
def ChgS (ps:List Addr) (H H':Hp):Prop:=∀ b o,b ∉ ps->H b=some o->H' b=some o
theorem ChgS.same {ps:List Addr}{H H1 H2:Hp}(x:ChgS ps H H1) (y:Same H1 H2):ChgS ps H H2:=fun b o h e=>y b o (x b o h e)
theorem Same.chgS {ps:List Addr}{H0 H H':Hp}(s:Same H0 H) (n:∀ p∈ps,H0 p=none) (c:ChgS ps H H'):Same H0 H':=fun b o e=>c b o (fun z=>by rw[n b z] at e;cases e) (s b o e)
end L2
set_option maxHeartbeats 2000000
namespace L2
open PySem PySem.Spec PyProof.Rows
def Itd (hi:Int) (n:Nat):It:=⟨fun i _=>i<n,fun i H x H'=>H'=H/\x=.int (hi - i),fun i _=>n<=i⟩
section
variable {X:Cx}{tg:Expr}
@[irreducible] def zbs5 (i j:Int) (H:Hp) (R:It->Hp->Prop):Prop:=(-(2 ^ 62)<=i/\i<2 ^ 62/\-(2 ^ 62)<=j/\j<2 ^ 62)/\R (Itd i (i - j).toNat) H
def qiRngD (ta:TA):TI:=fun σ H R=>ta σ H fun vs H1=>match vs with
 | [.int i,.int j,.int (-1)]=>zbs5 i j H1 R
 | _=>False
end
section
variable {K:zbz8}{g:TG}{tb:TS}{D:Ends}{σ:St}{H:Hp}{R:It->Hp->Prop}
end
section
variable {X:Cx}{K:zbz8}
def qBM0 (K:zbz8) (r:Addr->List V->Hp->VK->Prop) (to:TE):TE:=fun σ H Q=>to σ H fun x H1=>match x with
 | .ref p=>zaf5 K p H1 (r p [] H1 Q)
 | _=>False
theorem peBM0 {o:Expr}{to:TE}{name:Str}{apos cpos:Pos}{id:String}{r:Addr->List V->Hp->VK->Prop}(slot:Slot "list" name id) (hty:typeOf (.builtin id)=pure (.type "method_descriptor")) (hm:MtA X id r) (ho:PE X o to)
  (hbase:attributeBase o name X.env (eval o X.env)=eval o X.env:=by rfl) (hline:(apos.endLine==cpos.line)=true:=by rfl) :
  PE X (.Call (.Attribute o name apos) [] [] cpos) (qBM0 X.K r to):=by
 intro pins s σ H Q I h
 refine wpAny_Call_method0_late hbase hline (thn (ho pins s σ H _ I h) fun v s1 ⟨x,H1,I1,r1,q1⟩=>?_)
 dsimp only at q1
 split at q1
 ·rename_i p
  unfold zaf5 at q1
  obtain⟨hq,q1⟩:=q1
  obtain⟨h1,h2⟩:=zbl2 (T:="list") I1 r1 (.inl ⟨rfl,hq⟩)
  cases r1
  exact⟨"list",id,PySem.F.plainAttrs_list,slot,hty,h1,h2,Calls.callWith_builtin rfl (PySem.evalArgs_none (hm pins s1 σ H1 p [] [] Q I1 .nil q1))⟩
 ·exact q1.elim
@[irreducible] def rRevA (p:Addr) (H:Hp) (Q:VK):Prop:=∃ xs,H p=some (.lst xs)/\∀ H',Chg p H H'->H' p=some (.lst xs.reverse)->Q .non H'
@[irreducible] def rClrA (p:Addr) (H:Hp) (Q:VK):Prop:=∃ xs,H p=some (.lst xs)/\∀ H',Chg p H H'->H' p=some (.lst [])->Q .non H'
@[irreducible] def rExtA (p b:Addr) (H:Hp) (Q:VK):Prop:=∃ xs zs,H p=some (.lst xs)/\H b=some (.lst zs)/\xs.length+zs.length<=sizeLine/\∀ H',Chg p H H'->H' p=some (.lst (xs++zs))->Q .non H'
def rRevM:Addr->List V->Hp->VK->Prop:=fun p vs H Q=>match vs with
 | []=>rRevA p H Q
 | _=>False
def rClrM:Addr->List V->Hp->VK->Prop:=fun p vs H Q=>match vs with
 | []=>rClrA p H Q
 | _=>False
def rExtM:Addr->List V->Hp->VK->Prop:=fun p vs H Q=>match vs with
 | [.ref b]=>rExtA p b H Q
 | _=>False
theorem mClear:MtA X "list.clear" rClrM:=fun pins s σ H p xs us Q I r h=>by
 unfold rClrM at h
 split at h
 ·unfold rClrA at h
  obtain⟨ys,h1,h2⟩:=h
  exact zbg9 pins s σ H (.ref p) [] (.ref p) us Q I rfl r ⟨p,ys,rfl,rfl,h1,h2 _ Chg.upd zc2⟩
 ·exact h.elim
theorem zbo6:MtA X "list.extend" rExtM:=fun pins s σ H p xs us Q I r h=>by
 unfold rExtM at h
 split at h
 ·unfold rExtA at h
  obtain⟨ys,zs,h1,h2,h3,h4⟩:=h
  exact zbc1 pins s σ H (.ref p) _ (.ref p) us Q I rfl r ⟨p,_,ys,zs,rfl,rfl,h1,h2,h3,h4 _ Chg.upd zc2⟩
 ·exact h.elim
theorem zbe7 {o:Expr}{to:TE}{apos cpos:Pos}(hK:X.K=K) (ho:PE X o to) (hbase:attributeBase o "clear" X.env (eval o X.env)=eval o X.env:=by rfl) (hline:(apos.endLine==cpos.line)=true:=by rfl):PE X (.Call (.Attribute o "clear" apos) [] [] cpos) (qBM0 K rClrM to):=by
 subst hK
 exact peBM0 PySem.F.slot_list_clear PySem.F.type_list_clear mClear ho hbase hline
theorem zaw1 {o e:Expr}{to:TE}{t:TA}{apos cpos:Pos}(hK:X.K=K) (ho:PE X o to) (ha:PA X [e] t) (hbase:attributeBase o "extend" X.env (eval o X.env)=eval o X.env:=by rfl)
  (hfew:((backTo cpos (starEach [e] X.env)).all (fun x=>!x.1)&&(backToKw cpos (keywordEach [] X.env)).all (fun x=>x.1.isSome)
   && decide ([e].length+([]:List Keyword).length+(if ([]:List Keyword).isEmpty then 0 else 1)<30))=true:=by rfl)
  (hline:(apos.endLine==cpos.line)=true:=by rfl) (hs:starEach [e] X.env=(false,eval e X.env) :: starEach [] X.env:=by rfl) (hplain:(backTo cpos (starEach [] X.env)).any (·.1)=false:=by rfl):PE X (.Call (.Attribute o "extend" apos) [e] [] cpos) (qBM K rExtM to t):=by
 subst hK
 exact peBM PySem.F.slot_list_extend PySem.F.type_list_extend zbo6 ho ha hbase hfew hline hs hplain
theorem zbl4 {p:Addr}{H:Hp}{Q:VK}{xs:List V}(h:H p=some (.lst xs)) (q:∀ H',Chg p H H'->H' p=some (.lst [])->Q .non H'):rClrA p H Q:=by unfold rClrA;exact⟨xs,h,q⟩
theorem zbm3 {p b:Addr}{H:Hp}{Q:VK}{xs zs:List V}(h:H p=some (.lst xs)) (h2:H b=some (.lst zs)) (hz:xs.length+zs.length<=sizeLine) (q:∀ H',Chg p H H'->H' p=some (.lst (xs++zs))->Q .non H'):rExtA p b H Q:=by unfold rExtA;exact⟨xs,zs,h,h2,hz,q⟩
theorem ptW {e:Expr}{t:TT}(h:PW X e t):PT X e t:=h.pt
end
end L2
set_option maxHeartbeats 2000000
namespace L2
open PySem PySem.Spec PyProof.Rows
def ExAt (B h:Heap) (e:Addr) (cls:Value) (dx:Option Addr):Prop:=
 ∃ (oe:Obj) (vs:Array Value),h.get? e=some oe/\oe.cls=cls/\oe.dict=dx/\oe.data=.fields vs/\1<vs.size /\
  (vs[1]?=some .none∨∃ (T:Addr) (oT:Obj) (ts:Array Value),vs[1]?=some (.ref T)/\B.get? T=none/\T≠e/\h.get? T=some oT/\oT.data=.fields ts/\3<ts.size/\ts[3]?=some .none)
def Th (h h':Heap):Prop:=∀ b o,h.get? b=some o->∃ o',h'.get? b=some o'
structure FlyX (B:Heap) (l:List Env) (e:Addr) (cls:Value) (dx:Option Addr) (h:Heap):Prop where
 stays:B.StaysIn h
 new:B.get? e=none
 frames:h.FunFrames B l
 ex:ExAt B h e cls dx
section
variable {M:Model}{A:Around}{E:Value->Shared->Prop}{s:Shared}{B:Heap}{env:Env}{outer:List Env}{L e:Addr}{cls:Value}{dx:Option Addr}{Q:Unit->Shared->Prop}
theorem zz9 (f:Array Value->Array Value) (o:Obj):(Obj.mapFields f o).cls=o.cls/\(Obj.mapFields f o).dict=o.dict:=by
 obtain⟨c,d,dt,sl⟩:=o
 cases dt<;>exact⟨rfl,rfl⟩
theorem zam5 {head:Value}{hn:Bool}{oe:Obj}{vs:Array Value}(hfr:A.frames=some (env :: outer)) (hf:env.frame=some L) (f1:B.StaysIn s.heap) (f2:B.get? e=none) (f3:s.heap.FunFrames B (env :: outer))
  (he:s.heap.get? e=some oe) (hc:oe.cls=cls) (hdx:oe.dict=dx) (hd:oe.data=.fields vs) (hsz:1<vs.size)
  (hQ:∀ h',FlyX B (env :: outer) e cls dx h'->s.heap.UpToSlots h'->Th s.heap h'->Q () { s with heap:=h' }) :
  wpAny M A (do let a ← frameOf env;let pl ← entryPlaceOf L hn;let b ← EntryCells.newEntry head a .none (rawInt L) .none pl;setField (.ref e) 1 b) (fun _ s1=>wpAny M A (setFlight (.ref e) none) Q E s1) E s:=by
 have hene:e ∉ (env :: outer).filterMap (·.frame):=fun hm=>by
  obtain⟨_,o,ho,hnf⟩:=f3.mem hm
  rw[he] at ho
  cases ho
  exact hnf vs hd
 refine wpAny_bind (wpAny_frameOf_fun hfr f3 hf fun g hg=>wpAny_bind (wpAny_entryPlaceOf fun pl hpl=>?_))
 refine wpAny_bind (wpAny_newObj_type ?_ (hpl.sizeOk5 _ _ _ _ _))
 have e1:g.get? e=some oe:=(hg.2.1 e hene).trans he
 have lt1:=zcb7 e1
 generalize hO:({ cls:=.type "traceback",data:=.fields ([head,.ref L,.none,rawInt L,.none]++(if pl.isEmpty then List.replicate 6 Value.none else pl)).toArray }:Obj)=O
 have hOd:O.data=.fields ([head,.ref L,.none,rawInt L,.none]++(if pl.isEmpty then List.replicate 6 Value.none else pl)).toArray:=by rw[← hO]
 have hOz:3<([head,.ref L,.none,rawInt L,.none]++(if pl.isEmpty then List.replicate 6 Value.none else pl)).toArray.size:=by simp
 have hOf:O.isFreed=false:=by rw[← hO];rfl
 generalize ([head,.ref L,.none,rawInt L,.none]++(if pl.isEmpty then List.replicate 6 Value.none else pl)).toArray=ts at hOd hOz
 have e2:(g.push O).get? e=some oe:=zca8 _ e1
 have t2:(g.push O).get? g.objs.size=some O:=zcd1 _ hOf
 have nT:g.objs.size≠e:=Nat.ne_of_gt lt1
 refine wpAny_setField e2 hd hsz ?_
 have d3:=Obj.data_mapFields hd (fun a=>a.setIfInBounds 1 (Value.ref g.objs.size))
 have e3:=zcf8 (Obj.mapFields fun a=>a.setIfInBounds 1 (Value.ref g.objs.size)) e2 (Obj.isFreed_of_fields d3)
 have t3:=(zcc9 (g.push O) (Obj.mapFields fun a=>a.setIfInBounds 1 (Value.ref g.objs.size)) (Ne.symm nT)).trans t2
 unfold setFlight
 refine wpAny_bind (wpAny_field e3 d3 (x:=.ref g.objs.size) (by simp[hsz]) ?_)
 rw[if_pos (by simp)]
 refine wpAny_setField t3 hOd hOz (hQ _ ?_ ?_ ?_)
 ·have kp:∀ b o,b≠e->g.get? b=some o->(((g.push O).update e (Obj.mapFields fun a=>a.setIfInBounds 1 (Value.ref g.objs.size))).update g.objs.size (Obj.mapFields fun a=>a.setIfInBounds 3 Value.none)).get? b=some o:=fun b o hb hz=>by
   rw[zcc9 _ _ (Nat.ne_of_gt (zcb7 hz)),zcc9 _ _ (Ne.symm hb)]
   exact zca8 _ hz
  have d4:=Obj.data_mapFields hOd (fun a=>a.setIfInBounds 3 Value.none)
  have t4:=zcf8 (Obj.mapFields fun a=>a.setIfInBounds 3 Value.none) t3 (Obj.isFreed_of_fields d4)
  have e4:=(zcc9 ((g.push O).update e (Obj.mapFields fun a=>a.setIfInBounds 1 (Value.ref g.objs.size))) (Obj.mapFields fun a=>a.setIfInBounds 3 Value.none) nT).trans e3
  have pf:=zz9 (fun a=>a.setIfInBounds 1 (Value.ref g.objs.size)) oe
  refine⟨fun b o hb=>kp b o (fun z=>by rw[z,f2] at hb;cases hb) ((hg.2.1 b fun hm=>by rw[(f3.mem hm).1] at hb;cases hb).trans (f1 b o hb)),f2,f3.of_keeps fun b o hb hnf=>?_,_,_,e4,pf.1.trans hc,pf.2.trans hdx,d3,by simpa using hsz,.inr ⟨_,_,_,by simp[hsz],?_,nT,t4,d4,by simpa using hOz,by simp[hOz]⟩⟩
  ·obtain⟨sl,hs⟩:=hg.2.2 b o hb
   refine⟨_,kp b _ (fun z=>?_) hs,rfl⟩
   rw[z,he] at hb
   cases hb
   exact hnf vs hd
  ·cases q:B.get? g.objs.size with
   | none=>rfl
   | some o=>
    have z1:=f1 _ _ q
    have z2:=(hg.2.1 _ fun hm=>by rw[(f3.mem hm).1] at q;cases q).trans z1
    exact absurd (zcb7 z2) (zch0 _)
 ·intro b o hb hnf
  obtain⟨sl,hs⟩:=hg.2.2 b o hb
  refine⟨sl,?_⟩
  rw[zcc9 _ _ (Nat.ne_of_gt (zcb7 hs)),zcc9 _ _ (fun z=>?_)]
  ·exact zca8 _ hs
  ·rw[← z,he] at hb
   cases hb
   exact hnf vs hd
 ·intro b o hb
  by_cases hbe:b=e
  ·subst hbe
   exact⟨_,(zcc9 _ _ nT).trans e3⟩
  ·obtain⟨sl,hs⟩:=hg.2.2 b o hb
   refine⟨{ o with slots:=sl },?_⟩
   rw[zcc9 _ _ (Nat.ne_of_gt (zcb7 hs)),zcc9 _ _ (Ne.symm hbe)]
   exact zca8 _ hs
theorem zar0 (hfr:A.frames=some (env :: outer)) (hf:env.frame=some L) (F:FlyX B (env :: outer) e cls dx s.heap)
  (hQ:∀ h',FlyX B (env :: outer) e cls dx h'->s.heap.UpToSlots h'->Th s.heap h'->Q () { s with heap:=h' }):wpAny M A (noteFrame (.ref e) env) (fun _ s1=>wpAny M A (setFlight (.ref e) none) Q E s1) E s:=by
 obtain⟨f1,f2,f3,oe,vs,he,hc,hdx,hd,hsz,hT⟩:=F
 unfold noteFrame
 rw[hf]
 rcases hT with h1|⟨T,oT,ts,h1,bT,nT,gT,dT,zT,vT⟩
 ·refine wpAny_bind (wpAny_field he hd h1 ?_)
  dsimp only
  rw[if_neg (by simp)]
  exact zam5 hfr hf f1 f2 f3 he hc hdx hd hsz hQ
 ·refine wpAny_bind (wpAny_field he hd h1 ?_)
  dsimp only
  rw[if_pos (by simp)]
  refine wpAny_bind (wpAny_field gT dT vT ?_)
  rw[if_neg (by simp[rawInt])]
  refine wpAny_bind (wpAny_setField gT dT zT ?_)
  have ne:∀ b o,s.heap.get? b=some o->(∀ vs,o.data≠.fields vs)->b≠T:=fun b o hb hnf z=>by
   rw[z,gT] at hb
   cases hb
   exact hnf ts dT
  have kp:∀ b o,b≠T->s.heap.get? b=some o->(s.heap.update T (Obj.mapFields fun a=>a.setIfInBounds 3 Value.none)).get? b=some o:=fun b o hb hz=>by
   rw[zcc9 _ _ (Ne.symm hb)];exact hz
  refine zam5 (s:={ s with heap:=s.heap.update T (Obj.mapFields fun a=>a.setIfInBounds 3 Value.none) }) hfr hf (fun b o hb=>kp b o (fun z=>by rw[z,bT] at hb;cases hb) (f1 b o hb)) f2 (f3.of_keeps fun b o hb hnf=>⟨o,kp b o (ne b o hb hnf) hb,rfl⟩)
   (kp e oe (Ne.symm nT) he) hc hdx hd hsz fun h' F' U W=>hQ h' F' (fun b o hb hnf=>U b o (kp b o (ne b o hb hnf) hb) hnf) fun b o hb=>?_
  by_cases hbT:b=T
  ·subst hbT
   exact W b _ (zcf8 (Obj.mapFields fun a=>a.setIfInBounds 3 Value.none) gT (Obj.isFreed_of_fields (Obj.data_mapFields dT _)))
  ·exact W b o (kp b o hbT hb)
theorem zbp2 (F:FlyX B outer e cls dx s.heap) (hQ:∀ h',FlyX B outer e cls dx h'->s.heap.UpToSlots h'->Th s.heap h'->Q () { s with heap:=h' }):wpAny M A (setFlight (.ref e) none) Q E s:=by
 obtain⟨f1,f2,f3,oe,vs,he,hc,hdx,hd,hsz,hT⟩:=F
 unfold setFlight
 rcases hT with h1|⟨T,oT,ts,h1,bT,nT,gT,dT,zT,vT⟩
 ·refine wpAny_bind (wpAny_field he hd h1 ?_)
  rw[if_neg (by simp)]
  exact wpAny_pure (hQ s.heap ⟨f1,f2,f3,oe,vs,he,hc,hdx,hd,hsz,.inl h1⟩ (Heap.UpToSlots.refl _) fun b o hb=>⟨o,hb⟩)
 ·refine wpAny_bind (wpAny_field he hd h1 ?_)
  rw[if_pos (by simp)]
  refine wpAny_setField gT dT zT ?_
  have kp:∀ b o,b≠T->s.heap.get? b=some o->(s.heap.update T (Obj.mapFields fun a=>a.setIfInBounds 3 Value.none)).get? b=some o:=fun b o hb hz=>by
   rw[zcc9 _ _ (Ne.symm hb)];exact hz
  have ne:∀ b o,s.heap.get? b=some o->(∀ vs,o.data≠.fields vs)->b≠T:=fun b o hb hnf z=>by
   rw[z,gT] at hb
   cases hb
   exact hnf ts dT
  have d4:=Obj.data_mapFields dT (fun a=>a.setIfInBounds 3 Value.none)
  have t4:=zcf8 (Obj.mapFields fun a=>a.setIfInBounds 3 Value.none) gT (Obj.isFreed_of_fields d4)
  exact hQ _ ⟨fun b o hb=>kp b o (fun z=>by rw[z,bT] at hb;cases hb) (f1 b o hb),f2,f3.of_keeps fun b o hb hnf=>⟨o,kp b o (ne b o hb hnf) hb,rfl⟩,oe,vs,kp e oe (Ne.symm nT) he,hc,hdx,hd,hsz,
   .inr ⟨T,_,_,h1,bT,nT,t4,d4,by simpa using zT,by simp[zT]⟩⟩ (fun b o hb hnf=>⟨o.slots,kp b o (ne b o hb hnf) hb⟩) fun b o hb=>(Classical.em (b=T)).elim (fun z=>by subst z;exact⟨_,t4⟩) fun z=>⟨o,kp b o z hb⟩
theorem zba8 (hfr:A.frames=some (env :: outer)) (hf:env.frame=some L) (F:FlyX B (env :: outer) e cls dx s.heap)
  (hQ:∀ h',FlyX B outer e cls dx h'->s.heap.UpToSlots h'->Th s.heap h'->Q () { s with heap:=h' }):wpAny M A (leaving env (.ref e)) Q E s:=by
 unfold leaving
 exact wpAny_bind (zar0 hfr hf F fun h' F' U W=>hQ h' ⟨F'.stays,F'.new,F'.frames.2.2,F'.ex⟩ U W)
end
structure zw8 (X:Cx) (pins:List (Addr×Obj)) (σ:St) (H:Hp) (B:Heap) (e:Addr) (cls:Value) (dx:Option Addr) (s:Shared):Prop where
 inv:Inv X pins σ H s
 hok:HOk X.prog X.w H B
 fly:FlyX B X.stack e cls dx s.heap
 kb:∀ b o,X.s₀.heap.get? b=some o->X.H₀ b=none->b ∉ X.fs->b ∉ X.ex->B.get? b=some o
 en:∀ o,X.s₀.heap.get? e=some o->e∈X.ex
def CXR (P:Program) (w:World):CXT:=fun outer H s E e s'=>∃ (ea:Addr) (cls:Value) (dx:Option Addr) (H':Hp) (B:Heap),e=.ref ea/\s'.os=s.os/\AllBare s'.gens/\HOk P w H' B/\FlyX B outer ea cls dx s'.heap /\
 Un (frs outer) [] H H' s.heap s'.heap/\(∀ b o,s.heap.get? b=some o->H b=none->b ∉ frs outer->B.get? b=some o)/\(∀ o,s.heap.get? ea≠some o)/\E cls dx H'
section
variable {X:Cx}{pins:List (Addr×Obj)}{σ:St}{H:Hp}{s s':Shared}
theorem zaa9 (I:Inv X pins σ H s) {b:Addr}{o:Obj}(e:X.s₀.heap.get? b=some o) (h:b ∉ X.fs):b ∉ frs X.stack:=fun hm=>by
 rcases zcb3.mp (I.stkSub b hm) with z|z
 ·exact absurd (zcc7 (zcb7 e) I.ok.above) (by rw[z];exact zch0 _)
 ·exact h z
theorem zw8.of_call {E:XK}{e:Value}(I:Inv X pins σ H s) (h:CXR X.prog X.w X.stack H s E e s'):∃ (ea:Addr) (cls:Value) (dx:Option Addr) (H':Hp) (B:Heap),e=.ref ea/\zw8 X pins σ H' B ea cls dx s'/\E cls dx H':=by
 obtain⟨ea,cls,dx,H',B,rfl,os,bare,hok,fly,un,kb,en,hE⟩:=h
 refine⟨ea,cls,dx,H',B,rfl,⟨I.call' os un (hok.kept fly.stays) bare (fun b hb=>absurd hb (by simp)),hok,fly,fun b o e n h1 h2=>?_,fun o e=>?_⟩,hE⟩
 ·have k:=I.base.keep b o e n h1 h2
  exact kb b o k (I.base.free b o e n h2) (zaa9 I e h1)
 ·apply Classical.byContradiction
  intro hx
  obtain⟨o',k⟩:=I.base.there ea o e hx
  exact en o' k
theorem zw8.of_raise {e:Addr}{cls:Value}{args:List Value}{h':Heap}{t':Nat}(I:Inv X pins σ H s) (m:Heap.MadeExcOf s.heap h' e cls args):zw8 X pins σ H (PySem.W.hideAll s.heap (frs X.stack)) e cls none { s with heap:=h',toks:=t' }:=by
 have nofr:∀ b o,H b=some o->b ∉ frs X.stack:=fun b o hb hm=>by rw[I.stkFree b hm] at hb;cases hb
 refine⟨I.kept m.keeps,fun a o ha=>?_,⟨fun b o hb=>m.keeps _ _ (PySem.W.of_hideAll _ hb),?_,?_,?_⟩,fun b o e n h1 h2=>?_,fun o hz=>?_⟩
 ·refine (I.hok a o ha).stay (fun b u hb hu=>PySem.W.hideAll_get _ hu ?_) (fun _ q=>q) fun _ _ q=>q
  rcases hb with rfl|hb
  ·exact nofr _ _ ha
  ·exact nofr _ _ hb
 ·cases q:(PySem.W.hideAll s.heap (frs X.stack)).get? e with
  | none=>rfl
  | some o=>
   have:=PySem.W.of_hideAll _ q
   rw[m.new] at this
   cases this
 ·refine Heap.FunFrames.of_keeps (fun b o hb _=>⟨o,m.keeps b o hb,rfl⟩) (PySem.W.funFrames_hide I.stack fun env he a hf=>?_)
  exact List.mem_filterMap.mpr ⟨env,he,hf⟩
 ·obtain⟨t,h1,_,_⟩:=m.there
  exact⟨_,_,h1,rfl,rfl,rfl,by simp,.inl rfl⟩
 ·exact PySem.W.hideAll_get _ (I.base.keep b o e n h1 h2) (zaa9 I e h1)
 ·apply Classical.byContradiction
  intro hx
  obtain⟨o',k⟩:=I.base.there _ o hz hx
  rw[m.new] at k
  cases k
def XOut (X:Cx) (E:XK):Prop:=∀ (pins:List (Addr×Obj)) (σ:St) (H:Hp) (B:Heap) (e:Addr) (cls:Value) (dx:Option Addr) (s:Shared),zw8 X pins σ H B e cls dx s->E cls dx H->X.xe (.ref e) s
theorem passR {E:XK}(hx:XOut X E):zaf3 (CXR X.prog X.w) X E:=fun pins σ H s e s' I h=>by
 obtain⟨ea,cls,dx,H',B,rfl,F,hE⟩:=zw8.of_call I h
 exact hx _ _ _ _ _ _ _ _ F hE
theorem zbb2 {P:Program}{w:World}:zaf3 (CXR P w) X E0:=fun _ _ _ _ _ _ _ h=>by
 obtain⟨_,_,_,_,_,_,_,_,_,_,_,_,_,h⟩:=h
 exact (show False from h).elim
end
theorem xout {P:Program}{w:World}{K:zbz8}{mg:Str->Option Value}{base:Heap}{N:List Str}{qual:Str}{scope:Scope}{f:Addr}{cd:Value}{A:Around}{outer:List Env}{s:Shared}{H:Hp}{E:XK} :
  XOut (cxOf (CXR P w) P w K mg base N qual scope f cd A outer s H E) E:=fun pins σ H' B e cls dx s' F hE=>by
 have I:=F.inv
 refine zba8 (outer:=outer) I.ok.frames (rfl:(envOfC qual scope s.heap.objs.size f cd).frame=some s.heap.objs.size) F.fly fun h' F' U W=>?_
 have kb:∀ b o,s.heap.get? b=some o->H b=none->b ∉ frs outer->B.get? b=some o:=fun b o e n h1=>F.kb b o e n h1 (by exact zcd4)
 refine⟨e,cls,dx,H',B,rfl,I.os,I.bare,F.hok,F',?_,kb,fun o z=>absurd (F.en o z) (by exact zcd4),hE⟩
 have un:Un (frs outer) [] H H' s.heap s'.heap:=I.base
 refine⟨fun b o e n h1 _=>F'.stays _ _ (kb b o e n h1),fun b o e n h1 h2=>?_,un.free,fun b o e h2=>?_,un.tups,un.frzs,un.tbls⟩
 ·obtain⟨sl,k⟩:=un.slot b o e n h1 h2
  obtain⟨_,o2,ho2,hd⟩:=I.ok.funs.mem h1
  have:o2=o:=Option.some.inj (ho2.symm.trans e)
  subst this
  obtain⟨sl',k'⟩:=U b _ k hd
  exact⟨sl',k'⟩
 ·obtain⟨o',k⟩:=un.there b o e h2
  exact W b o' k
section
variable {X:Cx}{x:Str}{C:Addr}{bm:List Value}{B newId initId:String}{np cpos pos:Pos}{e₀:Expr}{rest:List Expr}{t:TA}{E:XK}
def qRaise (C:Addr) (E:XK) (t:TA):TS:=fun _ σ H=>t σ H fun vs H1=>vs.length<=sizeLine/\E (.ref C) none H1
theorem zaz9 (O:OwnCls x C bm newId X.mg X.base) (FB:ExcBaseFacts B newId initId bm) (hc:X.calm=true) (hout:XOut X E) (ha:PA X (e₀ :: rest) t) (hg:Gl X x:=by rfl) (hd:(x==("__debug__":Str))=false:=by decide)
  (he:starEach (e₀ :: rest) X.env=(false,eval e₀ X.env) :: starEach rest X.env:=by rfl) (hpl:(backTo cpos (starEach rest X.env)).any (·.1)=false:=by rfl) :
  PS X (.Raise (some (.Call (.Name x np) (e₀ :: rest) [] cpos)) none pos) (qRaise C E t):=by
 intro pins s σ H D I h
 obtain⟨tl,N,nm,q,bs,hdct,sn,sub,ab,col,dd,k0,k1,k2,k3,k5,mN,hC,hN,hni,T⟩:=O.obj
 refine wpAny_Raise_call_subT (C:=C) (nm:=nm) (q:=q) (N:=N) (bs:=bs) (bm:=tl) (hdct:=hdct) (sn:=sn) (sub:=sub) (ab:=ab) (col:=col) (dd:=dd) (k0:=k0) (k1:=k1) (k2:=k2) (k3:=k3) (k5:=k5) FB (mN:=mN)
  (T.hasType FB.hasBase) (I.ok.hd hc) (by rw[he];show (false || (backTo cpos (starEach rest X.env)).any (·.1))=false;rw[hpl];rfl) hni (zac6 I hg O.bound ⟨rfl,?_⟩ hd)
 have hA:=ha cpos pins s σ H _ I h
 rw[he] at hA ⊢
 refine Calls.evalArgs_plain (thn hA fun us s2 ⟨vs,H1,I1,r,hz,q⟩=>⟨rfl,by rw[← r.length];exact hz,I1.bk _ _ hC,hN.keeps I1.bk,T.keeps I1.bk,fun h' e m=>?_⟩)
 exact hout _ _ _ _ _ _ _ _ (zw8.of_raise (t':=s2.toks) I1 m) q
end
section
variable {P:Program}{w:World}{K:zbz8}{mg:Str->Option Value}{base:Heap}
theorem Fun.okR {x qual:Str}{st:Stmt}{f:Addr}{fd:FuncData}{N ps:List Str}{k:Nat}{sp:Sp}(F:Fun K x qual st f fd) (S:zb7 N ps (za5 st)) (len:∀ vs H Q E,sp vs H Q E->vs.length=ps.length)
  (hbody:∀ (cdv:Value) (A:Around) (outer:List Env) (s:Shared) (H:Hp) (vs:List V) (Q:VK) (E:XK),Room k (A.deeper (envOfC qual (za5 st) s.heap.objs.size f cdv))->XOut (cxOf (CXR P w) P w K mg base N qual (za5 st) f cdv A outer s H E) E->sp vs H Q E ->
   ∃ t,PSs (cxOf (CXR P w) P w K mg base N qual (za5 st) f cdv A outer s H E) (zb2 st) t/\t { nx:=fun _ H'=>Q .non H',rt:=Q } (zai9 N vs) H):FnOk P w K mg base (CXR P w) (k+1) f fd ps sp:=by
 obtain⟨oc,od,kV,doc,pm,an,cdv,ct,osl,rfl,lk,hcd⟩:=F.ex
 refine fn_of lk hcd S len fun A outer s H vs Q E hr hsp=>?_
 exact hbody cdv A outer s H vs Q E hr xout hsp
end
end L2
set_option maxHeartbeats 4000000
namespace L2
open PySem PySem.Spec PyProof.Rows
structure ExcK (K:zbz8) (D:Addr):Prop where
 h1:zcf5 K (.ref D) "__getattribute__"=some (some (.builtin "BaseException.__getattribute__"))
 h2:zcf5 K (.ref D) "__getattr__"=some none
 h3:zcf5 K (.ref D) "__class__"=some (some (.builtin "object.__class__"))
 h4:zcb2 K (.ref D) (.type "BaseException")=some true
 h5:PySem.W.mroIn K D (.type "object")=some true
def ExcIs (e:Addr) (cls:Value) (dx:Option Addr) (h:Heap):Prop:=∃ (oe:Obj) (vs:Array Value),h.get? e=some oe/\oe.cls=cls/\oe.dict=dx/\oe.data=.fields vs
section
open PySem.W PySem.Calls
theorem zax9 {prog:Program}{w:World}{A:Around}{E:Value->Shared->Prop}{K:Frag}{D e:Addr}{h:Heap}{g d t os} {Q:Option Value->Shared->Prop}(X:K.In h) (x:ExcIs e (.ref D) none h) (k:ExcK K D)
  (hq:Q (some (.ref D)) ⟨h,g,d,t+1,os⟩):wpAny (model prog w) A (getAttr? (.ref e) "__class__") Q E ⟨h,g,d,t,os⟩:=by
 obtain⟨oe,vs,he,hc,hdx,hd⟩:=x
 obtain⟨h1,h2,h3,h4,h5⟩:=k
 have L0:Looks (model prog w) h (typeOf (.ref e)) (.ref D):=hc▸(Looks.ld he).andThen .now
 have L1:=looks_findIn (M:=model prog w) X h1
 have L2:=looks_findIn (M:=model prog w) X h2
 have L3:=looks_findIn (M:=model prog w) X h3
 have hx:(onTheHeap (Value.ref D)&&Value.builtin "BaseException.__getattribute__"==Value.builtin "object.__getattribute__")=false:=by
  have z:(Value.builtin "BaseException.__getattribute__"==Value.builtin "object.__getattribute__")=false:=by decide +kernel
  rw[z];rfl
 have I:InstAt h e oe D none:=⟨he,hc,by unfold notCls;rw[hd],by rw[hdx];trivial⟩
 have L4:Looks (model prog w) h (isInstance (.ref e) (.type "BaseException")) true:=L0.andThen (looks_subIn X h4)
 have FB:=PySem.F.attrBase_ValueError
 have f3:=FB.ga.bind (.ref e)
 have kd:builtinKind "BaseException.__getattribute__"=some .slot:=by decide +kernel
 have sid:splitId "BaseException.__getattribute__"=some ("BaseException","__getattribute__"):=by decide +kernel
 have aok:=PySem.F.args_bexc_ga (.ref e) (.str "__class__" t)
 have f5:=KF.type_class
 have f6:=PySem.F.slot_gs_get.lookup
 have f7:=PySem.F.slot_gs_set.lookup
 unfold getAttr? getAttrBy? getAttrBy
 refine wpAny_bind (wpAny_mkText (wpAny_bind (wpAny_attempt (wpAny_holding (wpAny_bind (L0.at (wpAny_bind (L1.at ?_))))))))
 dsimp only
 rw[if_neg (by rw[hx];decide)]
 unfold getAttrByItsOwn hookBefore
 repeat (any_goals (first|assumption|with_reducible refine L0.at ?_|with_reducible refine L1.at ?_|with_reducible refine L2.at ?_|with_reducible refine L3.at ?_|wp_step))
 refine codeAny_call_builtin FB.ga.plain PySem.F.entry_bexc_ga ?_
 simp only[checkBuiltinCall,kd,sid]
 refine wpAny_bind (L4.at ?_)
 repeat (any_goals (first|assumption|with_reducible refine L0.at ?_|with_reducible refine L1.at ?_|with_reducible refine L2.at ?_|with_reducible refine L3.at ?_|wp_step))
 refine class_get (ox:=oe) (od:=none) X I h5 ?_
 repeat (any_goals (first|assumption|wp_step))
theorem zbh0 {K:Frag}{e D:Addr}(k:ExcK K D) (hcl:(clsIn K D).isSome=true):KitX K (.ref e) (.ref D) (ExcIs e (.ref D) none) where
 ty:=fun M h _ p=>by
  obtain⟨oe,vs,he,hc,_⟩:=p
  exact hc▸(Looks.ld he).andThen .now
 it:=fun M h X p=>by
  obtain⟨cd,hcd⟩:=Option.isSome_iff_exists.mp hcl
  unfold clsIn at hcd
  split at hcd
  ·rename_i ho
   intro A' Q' E' s' kk q
   unfold isType loadHead
   exact wpAny_bind (wpAny_loadPart (kk _ _ (X _ _ ho)) (wpAny_pure q))
  ·cases hcd
 ne:=fun h tp dd its n sl X htp=>by
  refine Bool.eq_false_iff.mpr fun q=>?_
  have z:D=tp:=Value.ref.inj (beq_iff_eq.mp q)
  subst z
  obtain⟨cd,hcd⟩:=Option.isSome_iff_exists.mp hcl
  unfold clsIn at hcd
  split at hcd
  ·rename_i ho
   cases (X _ _ ho).symm.trans htp
  ·cases hcd
 ca:=fun {prog w A E Q s} X p q=>by
  obtain⟨hh,g,d,t,os⟩:=s
  exact zax9 X p k q
end
abbrev excO (ea:Addr) (cls:Value) (dx:Option Addr):HO:=.ext (ExcIs ea cls dx)
section
variable {X:Cx}{K:zbz8}{H:Hp}{Q:VK}
@[irreducible] def zan2 (K:zbz8) (x c:V) (H:Hp) (Q:VK):Prop:=zs3 K x c H Q∨∃ (ea D:Addr) (b:Bool),x=.ref ea/\H ea=some (excO ea (.ref D) none)/\ExcK K D/\(zce0 K D).isSome=true/\(∀ cv,RelV c cv->zca3 K (.ref D) cv=some b)/\Q (.bl b) H
def zbk8 (K:zbz8):List V->Hp->VK->Prop:=fun xs H Q=>match xs with
 | [x,c]=>zan2 K x c H Q
 | _=>False
theorem zu6 (hK:X.K=K):zn4 X (.builtin "isinstance") (zbk8 K):=by
 subst hK
 intro pins s σ H xs us Q I r h
 unfold zbk8 at h
 split at h
 ·unfold zan2 at h
  rcases h with h|⟨ea,D,b,rfl,h1,h2,h3,h4,h5⟩
  ·exact cIsi pins s σ H _ us Q I r h
  ·obtain⟨u,w,rfl,r1,r2⟩:=zbf1 r
   cases r1
   obtain⟨p,_⟩:=I.hok ea _ h1
   exact zcf0 (zbh0 h2 h3) I.kIn p (h4 _ r2) (fun z=>nomatch z) fun tk=>⟨.bl b,H,I.tok _,rfl,h5⟩
 ·exact h.elim
theorem zl6 {ea D C:Addr}{b:Bool}(h1:H ea=some (excO ea (.ref D) none)) (h2:ExcK K D) (h3:(zce0 K D).isSome=true) (e:zca3 K (.ref D) (.ref C)=some b) (q:Q (.bl b) H):zan2 K (.ref ea) (.ref C) H Q:=by
 unfold zan2;exact .inr ⟨ea,D,b,rfl,h1,h2,h3,fun cv r=>by cases r;exact e,q⟩
theorem zbh4 {ea D:Addr}{n:String}{b:Bool}(h1:H ea=some (excO ea (.ref D) none)) (h2:ExcK K D) (h3:(zce0 K D).isSome=true) (e:zca3 K (.ref D) (.type n)=some b) (q:Q (.bl b) H):zan2 K (.ref ea) (.ty n) H Q:=by
 unfold zan2;exact .inr ⟨ea,D,b,rfl,h1,h2,h3,fun cv r=>by cases r;exact e,q⟩
theorem zj1 {C:Addr}{b:Bool}(e:zca3 K (.type "NoneType") (.ref C)=some b) (q:Q (.bl b) H):zan2 K .non (.ref C) H Q:=by
 unfold zan2 zs3;exact .inl ⟨_,b,.non,fun cv r=>by cases r;exact e,q⟩
theorem zag5:bootBuiltins "ValueError"=some (.type "ValueError"):=by decide +kernel
end
section
variable {X:Cx}{pins:List (Addr×Obj)}{σ:St}{H:Hp}{s:Shared}
def ExcP (X:Cx) (pins:List (Addr×Obj)) (σ:St) (EX:XK) (e:Value) (s':Shared):Prop:=∃ (H':Hp) (B:Heap) (ea:Addr) (cls:Value) (dx:Option Addr),e=.ref ea/\zw8 X pins σ H' B ea cls dx s'/\(∀ p∈X.pn++pins,B.get? p.1=some p.2)/\EX cls dx H'
def PSX (X:Cx) (st:Stmt) (t:XK->TS):Prop:=∀ (pins:List (Addr×Obj)) (s:Shared) (σ:St) (H:Hp) (D:Ends) (EX:XK),Inv X pins σ H s->t EX D σ H->wpAny (model X.prog X.w) X.A (exec st X.env) (SP X pins D) (ExcP X pins σ EX) s
def PSXs (X:Cx) (l:List Stmt) (t:XK->TS):Prop:=∀ (pins:List (Addr×Obj)) (s:Shared) (σ:St) (H:Hp) (D:Ends) (EX:XK),Inv X pins σ H s->t EX D σ H->wpAny (model X.prog X.w) X.A (execs l X.env) (SP X pins D) (ExcP X pins σ EX) s
theorem zbr4 {EX:XK}{e:Value}{s':Shared}(I:Inv X pins σ H s) (h:CXR X.prog X.w X.stack H s EX e s'):ExcP X pins σ EX e s':=by
 obtain⟨ea,cls,dx,H',B,rfl,os,bare,hok,fly,un,k,en,hE⟩:=h
 refine⟨H',B,ea,cls,dx,rfl,⟨I.call' os un (hok.kept fly.stays) bare (fun b hb=>absurd hb (by simp)),hok,fly,fun b o e n h1 h2=>?_,fun o e=>?_⟩,fun p hp=>?_,hE⟩
 ·exact k b o (I.base.keep b o e n h1 h2) (I.base.free b o e n h2) (zaa9 I e h1)
 ·apply Classical.byContradiction
  intro hx
  obtain⟨o',k'⟩:=I.base.there ea o e hx
  exact en o' k'
 ·obtain⟨q1,q2,q3,q4,_⟩:=I.pin p hp
  exact k _ _ q1 q2 fun hm=>(zcb3.mp (I.stkSub _ hm)).elim q3 q4
theorem zw8.move {B:Heap}{e:Addr}{cls:Value}{dx:Option Addr}{h':Heap}(F:zw8 X pins σ H B e cls dx s) (hp:∀ p∈X.pn++pins,B.get? p.1=some p.2) (F':FlyX B X.stack e cls dx h') (U:s.heap.UpToSlots h') (W:Th s.heap h') :
  zw8 X pins σ H B e cls dx { s with heap:=h' }:=by
 have I:=F.inv
 have cell:∀ {c:Addr}{v:Option Value},s.heap.IsCell c v->h'.IsCell c v:=fun ⟨o,ho,hd⟩=>by
  obtain⟨sl,z⟩:=U _ o ho fun vs q=>by rw[hd] at q;cases q
  exact⟨_,z,hd⟩
 refine⟨⟨I.ok,I.os,I.bare,⟨fun b o e n h1 h2=>F'.stays _ _ (F.kb b o e n h1 h2),fun b o e n h1 h2=>?_,I.base.free,fun b o e h2=>?_,I.base.tups,I.base.frzs,I.base.tbls⟩,?_,fun x c hc=>?_,I.free,I.freeC,fun p hpp=>?_,F.hok.kept F'.stays,I.len⟩,F.hok,F',F.kb,F.en⟩
 ·obtain⟨sl,k⟩:=I.base.slot b o e n h1 h2
  obtain⟨_,o2,ho2,hd⟩:=I.ok.funs.mem h1
  have:o2=o:=Option.some.inj (ho2.symm.trans e)
  subst this
  obtain⟨sl',k'⟩:=U b _ k hd
  exact⟨sl',k'⟩
 ·obtain⟨o',k⟩:=I.base.there b o e h2
  exact W b o' k
 ·obtain⟨m,hn,hl⟩:=I.loc
  refine⟨m,U.ns hn,fun i x v h1 h2 h3=>?_⟩
  obtain⟨u,r,q⟩:=hl i x v h1 h2 h3
  refine⟨u,r,?_⟩
  rcases q with q|⟨k,c,e,z⟩
  ·exact .inl q
  ·exact .inr ⟨k,c,e,cell z⟩
 ·obtain⟨v,z⟩:=I.cell x c hc
  exact⟨v,cell z⟩
 ·obtain⟨_,q2,q3,q4,q5⟩:=I.pin p hpp
  exact⟨F'.stays _ _ (hp p hpp),q2,q3,q4,q5⟩
theorem callX {k j:Nat}{x:Str}{ps:List Str}{sp:Sp}{p pos:Pos}{e:Expr}{es:List Expr}{t:TA}(F:Def X.prog X.w X.K X.mg X.base (CXR X.prog X.w) k x ps sp) (hr:Room j X.A) (ha:PA X.nox (e :: es) t) (hk:k<=j:=by decide) (hg:Gl X x:=by rfl)
  (hdb:(x==("__debug__":Str))=false:=by decide) (he:starEach (e :: es) X.env=(false,eval e X.env) :: starEach es X.env:=by rfl) (hpl:(backTo pos (starEach es X.env)).any (·.1)=false:=by rfl)
  {Q:VK}{EX:XK}(I:Inv X pins σ H s) (h:t σ H fun vs H1=>sp vs H1 Q EX):wpAny (model X.prog X.w) X.A (eval (.Call (.Name x p) (e :: es) [] pos) X.env) (EP X pins σ Q) (ExcP X pins σ EX) s:=by
 obtain⟨f,fd,F1,F2,F3,F4⟩:=F.ex
 refine wpAny_Call_Name_kw (zac6 I hg F2 ?_ hdb)
 have hA:=ha pos pins s σ H _ (I.wish _) h
 refine PySem.W.callWith_K (h₀:=X.base) I.ok.mod.kin F3 (wpAny_mono hA (fun us s1 h1=>?_) fun _ _ z=>z.elim) he hpl
 obtain⟨vs,H1,I1,r,q⟩:=h1
 have I1:Inv X pins σ H1 s1:=I1.unwish
 refine⟨I1.kIn,?_⟩
 have hl:us.length=ps.length:=by rw[← r.length];exact F1.len _ _ _ _ q
 have hb:=F4 s1 us I1.kIn (by rw[List.append_nil];exact hl)
 rw[List.append_nil] at hb
 refine wpAny_call (codeAny_mono (F1.run X.A X.stack s1 H1 ⟨us,[]⟩ us vs Q EX (hr.mono hk) I1.env0 hb r q) fun r s' hq=>?_)
 cases r with
 | error e=>exact zbr4 I1 hq
 | ok fl=>
  cases fl with
  | ret u=>exact I1.after hq
  | next=>exact False.elim hq
  | brk=>exact False.elim hq
  | cont=>exact False.elim hq
def qxCall (sp:Sp) (t:TA):XK->TS:=fun EX D σ H=>t σ H fun vs H1=>sp vs H1 (fun _ H2=>D.nx σ H2) EX
theorem zbn9 {k j:Nat}{x:Str}{ps:List Str}{sp:Sp}{p pos spos:Pos}{e:Expr}{es:List Expr}{t:TA}(F:Def X.prog X.w X.K X.mg X.base (CXR X.prog X.w) k x ps sp) (hr:Room j X.A) (ha:PA X.nox (e :: es) t) (hk:k<=j:=by decide) (hg:Gl X x:=by rfl)
  (hdb:(x==("__debug__":Str))=false:=by decide) (he:starEach (e :: es) X.env=(false,eval e X.env) :: starEach es X.env:=by rfl) (hpl:(backTo pos (starEach es X.env)).any (·.1)=false:=by rfl)
  (hs:swapsWith (.Call (.Name x p) (e :: es) [] pos) none spos.line X.env=pure false:=by rfl):PSX X (.Expr (.Call (.Name x p) (e :: es) [] pos) spos) (qxCall sp t):=by
 intro pins s σ H D EX I h
 exact wpAny_Expr_any (wpAny_mono (callX F hr ha hk hg hdb he hpl I h) (fun v s1 ⟨x,H1,I1,r1,q1⟩=>⟨σ,H1,I1,q1⟩) fun _ _ z=>z) I.quiet hs
theorem psxOne {st:Stmt}{t:XK->TS}(h:PSX X st t):PSXs X [st] t:=by
 intro pins s σ H D EX I hq
 refine wpAny_execs_cons (wpAny_mono (h pins s σ H D EX I hq) (fun f s1 q=>?_) fun _ _ z=>z)
 cases f with
 | next=>exact wpAny_execs_nil q
 | brk=>exact q
 | cont=>exact q
 | ret u=>exact q
theorem zf7.ex {P:Program}{w:World}{H:Hp}{h:Heap}{a:Addr}{o:HO}(x:zf7 P w H h a o):∃ u,h.get? a=some u:=by
 cases o with
 | lst xs=>obtain⟨_,_,_,_,e⟩:=x;exact⟨_,e⟩
 | tup xs=>obtain⟨_,_,_,ob,e,_⟩:=x;exact⟨ob,e⟩
 | dK kvs=>obtain⟨_,_,_,_,ob,_,_,e,_⟩:=x;exact⟨ob,e⟩
 | dT kvs=>obtain⟨_,_,_,_,ob,_,_,e,_⟩:=x;exact⟨ob,e⟩
 | set S n=>obtain⟨ob,_,_,_,e,_⟩:=x;exact⟨ob,e⟩
 | ins C dx fs=>obtain⟨_,_,_,e,_⟩:=x;exact⟨_,e⟩
 | own y=>exact x
 | xd fs=>obtain⟨_,⟨ob,_,_,e,_⟩,_⟩:=x;exact⟨ob,e⟩
 | rng lo hi=>obtain⟨_,_,_,e⟩:=x;exact⟨_,e⟩
 | frz ob u=>obtain⟨e,_⟩:=x;exact⟨_,e⟩
 | tbl ps=>exact⟨_,(show h.get? a=some _ from x)⟩
 | met f y=>exact⟨_,(show h.get? a=some _ from x)⟩
 | ext φ=>obtain⟨_,e,_⟩:=x;exact e
theorem zw8.track {B:Heap}{ea:Addr}{cls:Value}{dx:Option Addr}(F:zw8 X pins σ H B ea cls dx s) (hp:∀ p∈X.pn++pins,B.get? p.1=some p.2) (hex:X.ex=[]) :
  H ea=none/\Inv X pins σ (upd H ea (excO ea cls dx)) s:=by
 have I:=F.inv
 obtain⟨oe,vs,he,hc,hdx,hd,_⟩:=F.fly.ex
 have hn:H ea=none:=by
  cases q:H ea with
  | none=>rfl
  | some o=>
   obtain⟨u,z⟩:=zf7.ex (F.hok ea o q)
   rw[F.fly.new] at z
   cases z
 have nl:∀ {b:Addr}{o:Obj},s.heap.get? b=some o->(∀ vs,o.data≠.fields vs)->b≠ea:=fun hb hnf z=>by
  rw[z,he] at hb
  cases hb
  exact hnf vs hd
 have n0:∀ {b:Addr}{o:Obj},X.s₀.heap.get? b=some o->b≠ea:=fun hb z=>by
  have:=F.en _ (z▸hb)
  rw[hex] at this
  cases this
 refine⟨hn,I.ok,I.os,I.bare,⟨I.base.keep,I.base.slot,fun b o e n h1=>?_,I.base.there,fun b xs q=>?_,fun b o u q=>?_,fun b ps q=>?_⟩,I.loc,I.cell,?_,fun x c hcl=>?_,fun p hpp=>?_,fun b o q=>?_,I.len⟩
 ·rw[zd5 (n0 e)];exact I.base.free b o e n h1
 ·have z:=I.base.tups b xs q
  rw[zd5 (za4 z hn)];exact z
 ·have z:=I.base.frzs b o u q
  rw[zd5 (za4 z hn)];exact z
 ·obtain⟨more,z⟩:=I.base.tbls b ps q
  exact⟨more,by rw[zd5 (za4 z hn)];exact z⟩
 ·obtain⟨m,⟨o,es,ep,ho,hdd,_⟩,_⟩:=I.loc
  rw[zd5 (nl ho fun vs q=>by rw[hdd] at q;cases q)];exact I.free
 ·obtain⟨v,o,ho,hdd⟩:=I.cell x c hcl
  rw[zd5 (nl ho fun vs q=>by rw[hdd] at q;cases q)];exact I.freeC x c hcl
 ·obtain⟨q1,q2,q3,q4,q5⟩:=I.pin p hpp
  refine⟨q1,?_,q3,q4,q5⟩
  rw[zd5 fun z=>?_]
  ·exact q2
  ·have:=hp p hpp
   rw[z,F.fly.new] at this
   cases this
 ·by_cases hb:b=ea
  ·subst hb
   rw[zc2] at q
   cases q
   refine⟨⟨oe,vs,he,hc,hdx,hd⟩,⟨oe,he⟩,fun h1 h2 x k=>?_⟩
   obtain⟨o1,v1,e1,r⟩:=x
   exact⟨o1,v1,k _ e1,r⟩
  ·rw[zd5 hb] at q
   refine (I.hok b o q).stay (fun _ _ _ z=>z) (fun c z=>?_) fun c xs z=>?_
   ·rw[zd5 (za4 z hn)];exact z
   ·rw[zd5 (za4 z hn)];exact z
theorem zbc8 {M:Model}{A:Around}{E:Value->Shared->Prop}{i:Nat}{n:Str}{v:V}{Q:Unit->Shared->Prop}(I:Inv X pins σ H s) (hN:X.N.Nodup) (hi:X.N[i]?=some n) (hl:X.env.kindOf n=some .local) (hv:σ[i]?=some (some v))
  (h:∀ s',Inv X pins (σ.set i none) H s'->Q () s'):wpAny M A (unbindName X.env n) Q E s:=by
 obtain⟨m,hn,hlk⟩:=id I.loc
 have hcls:(X.env.scope.kind==.class || (X.env.scope.kind==.module&&X.env.locals != X.env.globals))=false:=by rw[I.ok.kind];rfl
 obtain⟨u,_,q⟩:=hlk i n v hi hv (.inl hl)
 have hm:m n=some u:=by
  rcases q with q|⟨k,_⟩
  ·exact q.2
  ·rw[hl] at k
   rcases k with k|k<;>cases k
 refine wpAny_unbindName_local hl hn hm hcls fun h' u' hn' hs=>h _ ?_
 obtain⟨oL,_,_,hoL,_⟩:=id hn
 have below:∀ {b:Addr}{o:Obj},X.s₀.heap.get? b=some o->b≠X.env.locals:=fun e=>zce2 (zcc7 (zcb7 e) I.ok.above)
 refine⟨I.ok,I.os,I.bare,⟨fun b o e n hb hx=>(hs.2 b (below e)).trans (I.base.keep b o e n hb hx),fun b o e n hb hx=>?_,I.base.free,fun b o e hx=>?_,I.base.tups,I.base.frzs,I.base.tbls⟩,⟨_,hn',fun j y v' e1 e2 e3=>?_⟩,fun y c e=>?_,I.free,I.freeC,fun p hp=>?_,fun b ob e=>?_,by rw[zcg8];exact I.len⟩
 ·obtain⟨sl,z⟩:=I.base.slot b o e n hb hx
  exact⟨sl,(hs.2 b (below e)).trans z⟩
 ·obtain⟨o',z⟩:=I.base.there b o e hx
  exact⟨o',(hs.2 b (below e)).trans z⟩
 ·by_cases hj:j=i
  ·subst hj
   rw[zcg3 (by rw[I.len];exact (zbz9.mp hi).1)] at e2
   cases e2
  ·rw[List.getElem?_set_ne (Ne.symm hj)] at e2
   obtain⟨w',r',q⟩:=hlk j y v' e1 e2 e3
   refine⟨w',r',?_⟩
   rcases q with ⟨k,z⟩|⟨k,c,z,zz⟩
   ·refine .inl ⟨k,?_⟩
    have:y≠n:=fun z=>hj (zah0 hN e1 (z▸hi))
    show (if y=n then u' else m y)=_
    rw[if_neg this];exact z
   ·exact .inr ⟨k,c,z,zz.sameBut hs (I.cne y c z)⟩
 ·obtain⟨w',z⟩:=I.cell y c e
  exact⟨w',z.sameBut hs (I.cne y c e)⟩
 ·obtain⟨e,n,ne,nf,d⟩:=I.pin p hp
  exact⟨(hs.2 p.1 ne).trans e,n,ne,nf,d⟩
 ·refine (I.hok b ob e).stay (fun c w' hc q=>(hs.2 c ?_).trans q) (fun _ q=>q) fun _ _ q=>q
  rintro rfl
  rcases hc with z|hc
  ·rw[← z,I.free] at e;cases e
  ·rw[I.free] at hc;cases hc
def zae4 (X:Cx) (e:Value):Cx:={ X with A:=X.A.mark (some e),calm:=false,xe:=fun _ _=>False }
theorem Inv.mark (I:Inv X pins σ H s) (e:Value):Inv (zae4 X e) pins σ H s:=
 ⟨⟨I.ok.mod,I.ok.kind,I.ok.glob,I.ok.blt,I.ok.above,I.ok.inj,I.ok.has,I.ok.cab,(fun z=>absurd (show false=true from z) zca5),I.ok.frames,I.ok.stk,I.ok.exf,I.ok.bs,I.ok.bsz,I.ok.noex,I.ok.exfs,I.ok.funs,I.ok.frf⟩,I.os,I.bare,I.base,I.loc,I.cell,I.free,I.freeC,I.pin,I.hok,I.len⟩
theorem Inv.unmark {e:Value}(I0:Inv X pins σ H s) {σ':St}{H':Hp}{s':Shared}(I:Inv (zae4 X e) pins σ' H' s'):Inv X pins σ' H' s':=
 ⟨I0.ok,I.os,I.bare,I.base,I.loc,I.cell,I.free,I.freeC,I.pin,I.hok,I.len⟩
@[irreducible] def zat1 (K:zbz8) (CH:Addr) (D:Ends) (σ:St) (ke ky:Nat) (cls:Value) (dx:Option Addr) (H':Hp):Prop:=PySem.W.exmOne K cls (.ref CH)=some true /\
 ∀ ea H'',H' ea=none->Same H' H''->H'' ea=some (excO ea cls dx)->D.nx ((σ.set ke none).set ky (some (.ref ea))) H''
def qTry (K:zbz8) (CH:Addr) (t:XK->TS) (ke ky:Nat):TS:=fun D σ H=>t (fun cls dx H'=>zat1 K CH D σ ke ky cls dx H') D σ H
theorem psTry {K:zbz8}{body:List Stmt}{t:XK->TS}{hx n y:Str}{CH:Addr}{ke ky:Nat}{np p1 p2 p3 hpos pos:Pos}(hK:X.K=K) (hN:X.N.Nodup) (hcl:X.mg hx=some (.ref CH)) (hb:PSXs X body t)
  (hke:X.N[ke]?=some n:=by rfl) (hky:X.N[ky]?=some y:=by rfl) (hkk:ke≠ky:=by decide) (hln:X.env.kindOf n=some .local:=by rfl) (hly:X.env.kindOf y=some .local:=by rfl) (hgl:Gl X hx:=by rfl) (hdb:(hx==("__debug__":Str))=false:=by decide)
  (hnd:(n==("__debug__":Str))=false:=by decide) (hnc:(n==("__classdict__":Str))=false:=by decide)
  (hstk:X.stack=X.env :: X.outer:=by rfl) (hfr:X.env.frame=some X.env.locals:=by rfl) (hex:X.ex=[]:=by rfl) (hs:swapsWith (.Name n p2) (some (.Name y p1)) p3.line X.env=pure false:=by rfl) :
  PS X (.Try body [.ExceptHandler (some (.Name hx np)) (some n) [.Assign [.Name y p1] (.Name n p2) p3] hpos] [] [] pos) (qTry K CH t ke ky):=by
 subst hK
 intro pins s σ H D I h
 rw[arm_exec_Try]
 refine wpAny_bind (wpAny_standAt (wpAny_tryStmt_except (wpAny_mono (hb pins s σ H D _ I h) (fun f s1 q=>?_) fun e s1 q=>?_)))
 ·cases f with
  | next=>exact wpAny_execs_nil q
  | brk=>exact q
  | cont=>exact q
  | ret u=>exact q
 ·obtain⟨H1,B,ea,cls,dx,rfl,F,hp,q⟩:=q
  unfold zat1 at q
  obtain⟨hm,q⟩:=q
  have I1:=F.inv
  refine zar0 (L:=X.env.locals) (outer:=X.outer) (by rw[← hstk];exact I1.ok.frames) hfr (by rw[← hstk];exact F.fly) fun h2 F2 U2 W2=>?_
  rw[← hstk] at F2
  have F2:=F.move hp F2 U2 W2
  have I2:=F2.inv
  refine wpAny_handleBy_cons (codeAny_handlers_test ?_) (by intro z;cases z)
  refine zac6 (X:=zae4 X (.ref ea)) (I2.mark _) hgl hcl ?_ hdb
  have LT:PySem.W.Looks (model X.prog X.w) h2 (typeOf (.ref ea)) cls:=by
   obtain⟨oe,vs,he,hc,_⟩:=F2.fly.ex
   exact hc▸(PySem.W.Looks.ld he).andThen .now
  refine (PySem.W.exm_one I2.kIn LT hm).here ?_
  refine codeAny_handlers_suite_as ?_
  refine zbp2 F2.fly fun h3 F3 U3 W3=>?_
  have F3:=F2.move hp F3 U3 W3
  obtain⟨hn,I3⟩:=F3.track hp hex
  have hlσ:ke<σ.length:=by rw[I1.len];exact (zbz9.mp hke).1
  refine zz6 I3 hN hke (.inl hln) (v:=.ref ea) rfl (fun s4 I4=>?_) (.inr hln)
  have pn:PS (zae4 X (.ref ea)) (.Assign [.Name y p1] (.Name n p2) p3) (tAsg (qV ke) (zav3 ky)):=zbe1 (X:=zae4 X (.ref ea)) hN hky (.inl hly) (pq (X:=zae4 X (.ref ea)) ke hke (.inl hln) hnd hnc) hs (.inr hly)
  refine wpAny_mono (za6 pn pins s4 _ _ { nx:=fun σ' H'=>σ'=(σ.set ke (some (.ref ea))).set ky (some (.ref ea))/\H'=upd H1 ea (excO ea cls dx),rt:=fun _ _=>False } (I4.mark (.ref ea)) ?_) (fun f s5 q5=>?_) fun _ _ z=>(show False from z).elim
  ·show qV ke (σ.set ke (some (.ref ea))) _ _
   unfold qV
   rw[zcg3 hlσ]
   exact⟨rfl,rfl⟩
  ·cases f with
   | next=>
    obtain⟨σ5,H5,I5,rfl,rfl⟩:=q5
    have I5:=Inv.unmark I1 I5
    refine wpAny_bind (wpAny_bindName (zz6 I5 hN hke (.inl hln) (v:=.non) rfl (fun s6 I6=>?_) (.inr hln)))
    refine wpAny_onRaise (zbc8 (v:=.non) I6 hN hke hln (by rw[zcg3 (by rw[zcg8,zcg8];exact hlσ)]) fun s7 I7=>?_)
    refine⟨_,_,I7,?_⟩
    rw[List.set_set,List.set_comm _ _ (Ne.symm hkk),List.set_set]
    exact q ea _ hn (Same.upd hn) zc2
   | brk=>obtain⟨_,_,_,z⟩:=q5;exact False.elim z
   | cont=>obtain⟨_,_,_,z⟩:=q5;exact False.elim z
   | ret u=>obtain⟨_,_,_,_,_,z⟩:=q5;exact False.elim z
end
end L2
set_option maxHeartbeats 4000000
namespace L2
open PySem PySem.Spec PyProof.Rows
section
open PySem.W
theorem zas2 {K:Frag}{h:Heap}{mg:Str->Option Value}{x:Str}{C:Addr}{bmB:List Value}{newId:String}(X:K.In h) (G:h.Ns mainGlobals mg) (e:nsIn K mainGlobals x=some (some (.ref C))) (q:excIn K C bmB newId=true):OwnCls x C bmB newId mg h:=by
 have bd:=mg_of X G e
 unfold excIn at q
 split at q
 case h_2=>cases q
 rename_i dd cd sl ho
 split at q
 case h_2=>cases q
 rename_i C1 bm k0 k1 k2 k3 n k5 hm hs
 simp only[zcb1,beq_iff_eq,Bool.not_eq_true'] at q
 obtain⟨⟨⟨⟨⟨q1,q2⟩,q3⟩,q4⟩,q5⟩,q6⟩:=q
 have z:sl=#[k0,k1,k2,k3,some (.builtin n),k5]:=by
  cases sl with
  | mk l=>rw[show l=[k0,k1,k2,k3,some (.builtin n),k5] from hs]
 cases cd with
 | mk nm bs mro ns qn hd sn sub ab col del=>
  have hm:mro=.ref C1 :: bm:=hm
  have q3:del=false:=q3
  subst q1 q2 z hm q3
  exact⟨bd,bm,ns,nm,qn,bs,hd,sn,sub,ab,col,dd,k0,k1,k2,k3,k5,_,X _ _ ho,.of_isNs (isNs_of_in X q5),nsMap_none_of_in X q5 q6,tail_of_in X q4⟩
theorem zx5 {K:Frag}{t:Value}{C:Addr}{cd:ClassData}{b:Bool}(h1:clsIn K C=some cd) (h2:typeIn K (.ref C)=some (.type "type")) (h3:subIn K t (.ref C)=some b):kitCls K t (.ref C)=some b:=by
 unfold kitCls
 dsimp only
 rw[h1,h2,if_pos (by simp)]
 exact h3
theorem zd0 {K:Frag}{t:Value}{C:Addr}{cd:ClassData}{b:Bool}(h1:clsIn K C=some cd) (h2:typeIn K (.ref C)=some (.type "type")) (h3:subIn K t (.ref C)=some b) (h4:subIn K t t=some true):kitOne K t (.ref C)=some b:=by
 unfold kitOne
 split
 ·rename_i z
  have z:t=.ref C:=by simpa using z
  subst z
  rw[h3] at h4
  exact h4.symm
 ·exact zx5 h1 h2 h3
theorem zi5 {K:Frag}{C:Addr}{cd:ClassData}{b:Bool}(h1:clsIn K C=some cd) (h2:typeIn K (.ref C)=some (.type "type")) (h3:subIn K (.type "NoneType") (.ref C)=some b):kitOne K (.type "NoneType") (.ref C)=some b:=by
 unfold kitOne
 rw[if_neg (by simp)]
 exact zx5 h1 h2 h3
theorem zu1 {K:Frag}{D:Addr}{b:Bool}(h:subIn K (.ref D) (.type "ValueError")=some b):kitOne K (.ref D) (.type "ValueError")=some b:=by
 unfold kitOne kitCls
 rw[if_neg (by simp)]
 dsimp only
 rw[if_pos (by decide +kernel)]
 exact h
theorem zaz1 {K:Frag}{t:Value}{C:Addr}{cd:ClassData}{b:Bool}(h0:subIn K (.ref C) (.type "BaseException")=some true) (h1:clsIn K C=some cd) (h2:typeIn K (.ref C)=some (.type "type")) (h3:subIn K t (.ref C)=some b):exmOne K t (.ref C)=some b:=by
 unfold exmOne
 rw[if_pos (by rw[h0];simp)]
 exact zx5 h1 h2 h3
end
theorem zas4 {K:zbz8}{CH:Addr}{D:Ends}{σ:St}{ke ky:Nat}{cls:Value}{dx:Option Addr}{H':Hp}(h1:PySem.W.exmOne K cls (.ref CH)=some true) (h2:∀ ea H'',H' ea=none->Same H' H''->H'' ea=some (excO ea cls dx)->D.nx ((σ.set ke none).set ky (some (.ref ea))) H''):zat1 K CH D σ ke ky cls dx H':=by
 unfold zat1;exact⟨h1,h2⟩
abbrev bmV:List Value:=[.type "ValueError",.type "Exception",.type "BaseException",.type "object"]
abbrev newV:String:="ValueError.__new__"
section
variable {X:Cx}{K:zbz8}
@[irreducible] def rIdxA (p:Addr) (x:V) (H:Hp) (Q:VK):Prop:=∃ (xs:List V) (j:Nat),H p=some (.lst xs)/\zk9 x=true/\xs.all zk9=true/\(∃ y,xs[j]?=some y/\eqV y x=true)/\(∀ m y,m<j->xs[m]?=some y->eqV y x=false)/\Q (.int j) H
def rIdxM:Addr->List V->Hp->VK->Prop:=fun p vs H Q=>match vs with
 | [v]=>rIdxA p v H Q
 | _=>False
theorem mIndex:MtA X "list.index" rIdxM:=fun pins s σ H p xs us Q I r h=>by
 unfold rIdxM at h
 split at h
 ·rename_i v
  unfold rIdxA at h
  obtain⟨ys,j,h1,h2,h3,⟨y,hy,hit⟩,hno,h4⟩:=h
  obtain⟨u,rfl,ru⟩:=r.one
  obtain⟨z,its,n,r',hl,e⟩:=I.lstM h1
  have hj:j<its.toArray.size:=by
   have:=(zbz9.mp hy).1
   rw[zca4];omega
  have at_:∀ (m:Nat) (hm:m<its.toArray.size),∃ y,ys[m]?=some y/\eqU v its.toArray[m]=eqV y v:=fun m hm=>by
   rw[zca4] at hm
   obtain⟨w',e1,q1⟩:=r'.get (zbz6 (show m<ys.length by omega))
   refine⟨_,zbz6 (by omega),?_⟩
   have i1:its.toArray[m]=w':=by
    have:=(zbz9.mp e1).2
    simpa using this
   rw[i1]
   exact zar5 q1 (zcc0.mp h3 _ (List.getElem_mem _))
  have hz:its.length<=sizeLine:=by omega
  rw[sizeLine_eq] at hz
  refine call_meets F.slot_list_index ⟨_,e,rfl⟩ F.entry_list_index (F.args_list_index_2 _ _) (SeqAt.list_indexAt p its.toArray n none #[] u (eqU v) j hj (by rw[zca4] at hj;omega) ?_ ?_) ⟨e,fun y hy=>zv2 ru h2 r' h3 y (by simpa using hy),⟨.int _,H,I.tok _,⟨_,rfl⟩,h4⟩⟩
  ·obtain⟨y',e1,e2⟩:=at_ j hj
   rw[hy] at e1
   cases e1
   rw[e2];exact hit
  ·intro m hm hlt
   obtain⟨y',e1,e2⟩:=at_ m hm
   rw[e2];exact hno m y' hlt e1
 ·exact h.elim
theorem zbn4 {p:Addr}{x:V}{H:Hp}{Q:VK}{xs:List V}(j:Nat) (h:H p=some (.lst xs)) (h1:zk9 x=true) (h2:xs.all zk9=true) (h3:∃ y,xs[j]?=some y/\eqV y x=true) (h4:∀ m y,m<j->xs[m]?=some y->eqV y x=false) (q:Q (.int j) H):rIdxA p x H Q:=by unfold rIdxA;exact⟨xs,j,h,h1,h2,h3,h4,q⟩
theorem zay0 {o e:Expr}{to:TE}{t:TA}{apos cpos:Pos}(hK:X.K=K) (ho:PE X o to) (ha:PA X [e] t) (hbase:attributeBase o "index" X.env (eval o X.env)=eval o X.env:=by rfl)
  (hfew:((backTo cpos (starEach [e] X.env)).all (fun x=>!x.1)&&(backToKw cpos (keywordEach [] X.env)).all (fun x=>x.1.isSome)
   && decide ([e].length+([]:List Keyword).length+(if ([]:List Keyword).isEmpty then 0 else 1)<30))=true:=by rfl)
  (hline:(apos.endLine==cpos.line)=true:=by rfl) (hs:starEach [e] X.env=(false,eval e X.env) :: starEach [] X.env:=by rfl) (hplain:(backTo cpos (starEach [] X.env)).any (·.1)=false:=by rfl):PE X (.Call (.Attribute o "index" apos) [e] [] cpos) (qBM K rIdxM to t):=by
 subst hK
 exact peBM PySem.F.slot_list_index PySem.F.type_list_index mIndex ho ha hbase hfew hline hs hplain
end
section
variable {X:Cx}{st:Stmt}{rest:List Stmt}{t u:TS}{e:Expr}{es:List Expr}{te:TE}{ta:TA}
@[irreducible] def PSsI (X:Cx) (st:List Stmt) (t:TS):Prop:=PSs X st t
@[irreducible] def PSI (X:Cx) (st:Stmt) (t:TS):Prop:=PS X st t
@[irreducible] def PEI (X:Cx) (e:Expr) (t:TE):Prop:=PE X e t
@[irreducible] def PAI (X:Cx) (es:List Expr) (t:TA):Prop:=PA X es t
theorem psOf (h:PS X st t):PSI X st t:=by unfold PSI;exact h
theorem pssTo {st:List Stmt}(h:PSsI X st t):PSs X st t:=by unfold PSsI at h;exact h
theorem zj8 (h1:PSI X st t) (h2:PSsI X rest u):PSsI X (st :: rest) (tSeq t u):=by unfold PSsI PSI at *;exact za3 h1 h2
theorem zar6 (h1:PSI X st t):PSsI X [st] t:=by unfold PSsI PSI at *;exact za6 h1
theorem psIS {i:Nat}{x:Str}{pos' pos:Pos}(hN:X.N.Nodup) (he:PEI X e te) (hi:X.N[i]?=some x:=by rfl) (hx:Loc X.env.scope x:=by first|exact Or.inl rfl|exact Or.inr rfl) (hs:swapsWith e (some (.Name x pos')) pos.line X.env=pure false:=by rfl) (hf:X.fn x=true∨X.env.scope.names.lookup x=some .local:=by first|exact .inl rfl|exact .inr rfl|assumption) :
  PSI X (.Assign [.Name x pos'] e pos) (tAsg te (zav3 i)):=by unfold PSI PEI at *;exact zbe1 hN hi hx he hs hf
theorem zbm0 {pos:Pos}(h:PAI X es ta):PEI X (.List es pos) (qLst ta):=by unfold PEI PAI at *;exact zg9 h
theorem zk0 {x j pos}:PEI X (.Constant (.str x) j pos) (tC (.str x)):=by unfold PEI;exact zp8
theorem zax3:PAI X [] tNil:=by unfold PAI;exact za1
theorem zc6 (ha:PEI X e te) (hr:PAI X es ta) (hs:starEach (e :: es) X.env=(false,eval e X.env) :: starEach es X.env:=by rfl):PAI X (e :: es) (tCons te ta):=by unfold PEI PAI at *;exact za0 ha hr hs
end
end L2
set_option maxHeartbeats 1000000
namespace L2
open PySem PySem.Spec PyProof.Rows
section
variable {X:Cx}{K:zbz8}
end
end L2
set_option maxHeartbeats 2000000
namespace L2
open PySem PySem.Spec PyProof.Rows
def Itz (K:zbz8) (a b:Addr):It:=
 ⟨fun i H=>∃ xs ys x y,SqL K H a xs/\SqL K H b ys/\xs[i]?=some x/\ys[i]?=some y,
  fun i H v H'=>∃ p x y,v=.ref p/\H p=none/\Same H H'/\H' p=some (.tup [x,y])/\(∀ xs,SqL K H a xs->xs[i]?=some x)/\∀ ys,SqL K H b ys->ys[i]?=some y,
  fun i H=>∃ xs ys,SqL K H a xs/\SqL K H b ys/\(xs.length<=i∨ys.length<=i)⟩
theorem zbi6 {P:Program}{w:World}{K:zbz8}{elts:List Expr}{k:Nat}{pos:Pos}(l1 l2 z TI TO i1 i2:Addr) (D:ZipApart z TI TO i1 i2 l1 l2) :
  Turn P w K (.Tuple elts k pos) (Itz K l1 l2) [z,TI,TO,i1,i2] z (fun i h=>IsZip h z TI TO .none/\IsPair h TI (.ref i1) (.ref i2)/\(∃ a b,IsPair h TO a b)/\h.IsListIter i1 l1 i/\h.IsListIter i2 l2 i) where
 mem:=by simp
 obj:=fun i h st b hb=>by
  obtain⟨hz,hTI,⟨a,b',hTO⟩,⟨o1,e1,c1,d1⟩,⟨o2,e2,c2,d2⟩⟩:=st
  simp only[zcb3,zcd4,or_false] at hb
  rcases hb with rfl|rfl|rfl|rfl|rfl
  ·exact⟨_,hz,fun v z=>by cases z⟩
  ·exact⟨_,hTI,fun v z=>by cases z⟩
  ·exact⟨_,hTO,fun v z=>by cases z⟩
  ·exact⟨o1,e1,fun v z=>by rw[d1] at z;cases z⟩
  ·exact⟨o2,e2,fun v z=>by rw[d2] at z;cases z⟩
 keep:=fun i h h' st kp=>by
  obtain⟨hz,hTI,⟨a,b',hTO⟩,h1,h2⟩:=st
  exact⟨kp z (by simp) _ hz,kp TI (by simp) _ hTI,⟨a,b',kp TO (by simp) _ hTO⟩,h1.at fun o x=>kp i1 (by simp) o x,h2.at fun o x=>kp i2 (by simp) o x⟩
 item:=by
  intro X hP hw hK hc i pins s σ H E I hf st hg
  subst hP hw hK
  obtain⟨hz,hTI,⟨a0,b0,hTO⟩,h1,h2⟩:=st
  obtain⟨xs,ys,x,y,hq1,hq2,hx,hy⟩:=hg
  obtain⟨its1,rv1,p1,_⟩:=I.list hq1
  obtain⟨its2,rv2,p2,_⟩:=I.list hq2
  obtain⟨u,hu,ru⟩:=rv1.get hx
  obtain⟨v,hv,rv⟩:=rv2.get hy
  have hzl:z<s.heap.objs.size:=zcb7 hz
  refine wpAny_pyNext_zip_item D hz hTI hTO h1 h2 p1.isList p2.isList (x:=u) (y:=v) (by simpa using hu) (by simpa using hv) fun h3 z3 TO3 j1 j2 T3 sz3 kp3=>?_
  refine⟨_,rfl,wpAny_letOwnedTupleGo_zip z3 fun h4 z4 hs4=>?_⟩
  replace hs4:Heap.SameBut z h3 h4:=hs4
  have kp:∀ b o,b ∉ [z,TI,TO,i1,i2]->s.heap.get? b=some o->h4.get? b=some o:=fun b o hb x=>by
   simp only[zcb3,zcd4,or_false,not_or] at hb
   obtain⟨b1,b2,b3,b4,b5⟩:=hb
   exact (hs4.2 b b1).trans (kp3 b o b1 b3 b4 b5 x)
  have ht4:h4.get? s.heap.objs.size=some { cls:=.type "tuple",data:=.seq #[u,v] }:=(hs4.2 _ (Nat.ne_of_gt hzl)).trans T3
  have hfr:H s.heap.objs.size=none:=I.fresh
  have nof:∀ b v,H b=some v->b ∉ [z,TI,TO,i1,i2]:=fun b v hb m=>by
   have:=(hf b m).1
   rw[this] at hb
   cases hb
  have nlt:∀ b o,s.heap.get? b=some o->b≠s.heap.objs.size:=fun b o x=>zce2 (zcb7 x)
  have hok:HOk X.prog X.w (upd H s.heap.objs.size (.tup [x,y])) h4:=fun b v' hb=>by
   by_cases e1:b=s.heap.objs.size
   ·subst e1
    rw[zc2] at hb
    cases hb
    exact⟨by show 2<=sizeLine;decide,[u,v],.cons ru (.cons rv .nil),⟨_,ht4,rfl,_,rfl⟩⟩
   ·rw[zd5 e1] at hb
    refine (I.hok b v' hb).stay (fun c w' hc q=>?_) (fun c q=>?_) (fun c ys q=>?_)
    ·rcases hc with rfl|hc
     ·exact kp _ _ (nof _ _ hb) q
     ·exact kp _ _ (nof _ _ hc) q
    ·rw[zd5 (za4 q hfr)];exact q
    ·rw[zd5 (za4 q hfr)];exact q
  have chs:∀ b∈[z,TI,TO,i1,i2],(b∈X.ex∨X.s₀.heap.objs.size<=b)/\b≠X.env.locals/\(∀ x c,X.env.cells.lookup x=some c->c≠b)/\∀ p∈X.pn++pins,p.1≠b:=fun b hb=>by
   obtain⟨f0,f1,f2,f3,f4,f5⟩:=hf b hb
   exact⟨f3,f1,f4,f5⟩
  have I2:Inv X pins σ (upd H s.heap.objs.size (.tup [x,y])) { s with heap:=h4 }:=
   I.step (g':=s.gens) (d':=s.drawn) (t':=s.toks) (ch:=[z,TI,TO,i1,i2]) chs (fun b o _ _ hb x _=>kp b o hb x) (fun b o _ _ hb x _=>⟨o.slots,kp b o hb x⟩)
    (fun b o _ x n=>by rw[zd5 (nlt b o x)];exact n) (fun b o hb x=>⟨o,kp b o hb x⟩) (fun b ys q=>by rw[zd5 (za4 q hfr)];exact q) (fun b o v q=>by rw[zd5 (za4 q hfr)];exact q)
    (fun b ps q=>⟨#[],by rw[zd5 (za4 q hfr),q];simp⟩)
    (fun m hm=>by
     obtain⟨o,es,ep,ho,r⟩:=hm
     exact⟨o,es,ep,kp _ o (fun m=>(chs _ m).2.1 rfl) ho,r⟩) hok I.bare
  refine⟨.ref s.heap.objs.size,_,I2,rfl,⟨_,x,y,rfl,hfr,Same.upd hfr,zc2,fun ys hy'=>by rw[I.list_inj hy' hq1];exact hx,fun ys hy'=>by rw[I.list_inj hy' hq2];exact hy⟩,⟨z4,?_,⟨u,v,?_⟩,?_,?_⟩,fun b hb=>?_⟩
  ·exact (hs4.2 _ D.TIz).trans (kp3 _ _ D.TIz D.TITO D.TIi1 D.TIi2 hTI)
  ·exact (hs4.2 _ D.TOz).trans TO3
  ·exact j1.extBut hs4.extBut D.i1z
  ·exact j2.extBut hs4.extBut D.i2z
  ·have hb0:H b=none:=(hf b hb).1
   have hlt:b≠s.heap.objs.size:=by
    simp only[zcb3,zcd4,or_false] at hb
    rcases hb with rfl|rfl|rfl|rfl|rfl
    ·exact nlt _ _ hz
    ·exact nlt _ _ hTI
    ·exact nlt _ _ hTO
    ·obtain⟨o,ho,_⟩:=h1;exact nlt _ _ ho
    ·obtain⟨o,ho,_⟩:=h2;exact nlt _ _ ho
   rw[zd5 hlt];exact hb0
 done:=by
  intro X hP hw hK hc i pins s σ H E I hf st hg
  subst hP hw hK
  obtain⟨hz,hTI,⟨a0,b0,hTO⟩,h1,h2⟩:=st
  obtain⟨xs,ys,hq1,hq2,hx⟩:=hg
  obtain⟨its1,rv1,p1,_⟩:=I.list hq1
  obtain⟨its2,rv2,p2,_⟩:=I.list hq2
  have hl1:=rv1.length
  have hl2:=rv2.length
  have nof:∀ b v,H b=some v->b ∉ [z,TI,TO,i1,i2]:=fun b v hb m=>by
   have:=(hf b m).1
   rw[this] at hb
   cases hb
  have chs:∀ b∈[z,TI,TO,i1,i2],(b∈X.ex∨X.s₀.heap.objs.size<=b)/\b≠X.env.locals/\(∀ x c,X.env.cells.lookup x=some c->c≠b)/\∀ p∈X.pn++pins,p.1≠b:=fun b hb=>by
   obtain⟨f0,f1,f2,f3,f4,f5⟩:=hf b hb
   exact⟨f3,f1,f4,f5⟩
  refine wpAny_pyNext_zip_end (I.ok.hd hc) D hz hTI hTO h1 h2 p1.isList p2.isList ?_ fun h' kp3=>⟨rfl,?_⟩
  ·rcases hx with hx|hx
   ·exact .inl (by simp;omega)
   ·exact .inr (by simp;omega)
  ·have kp:∀ b o,b ∉ [z,TI,TO,i1,i2]->s.heap.get? b=some o->h'.get? b=some o:=fun b o hb x=>by
    simp only[zcb3,zcd4,or_false,not_or] at hb
    obtain⟨b1,b2,b3,b4,b5⟩:=hb
    exact kp3 b o b1 b3 b4 b5 x
   have hok:HOk X.prog X.w H h':=fun b v' hb=>by
    refine (I.hok b v' hb).stay (fun c w' hc q=>?_) (fun c q=>q) (fun c ys q=>q)
    rcases hc with rfl|hc
    ·exact kp _ _ (nof _ _ hb) q
    ·exact kp _ _ (nof _ _ hc) q
   exact I.step (g':=s.gens) (d':=s.drawn) (t':=s.toks) (ch:=[z,TI,TO,i1,i2]) chs (fun b o _ _ hb x _=>kp b o hb x) (fun b o _ _ hb x _=>⟨o.slots,kp b o hb x⟩)
    (fun b o _ x n=>n) (fun b o hb x=>⟨o,kp b o hb x⟩) (fun b ys q=>q) (fun b o v q=>q)
    (fun b ps q=>⟨#[],by rw[q];simp⟩)
    (fun m hm=>by
     obtain⟨o,es,ep,ho,r⟩:=hm
     exact⟨o,es,ep,kp _ o (fun m=>(chs _ m).2.1 rfl) ho,r⟩) hok I.bare
 self:=fun _ _ _ _ _ st h=>wpAny_pyIter_zip st.1 h
section
variable {X:Cx}{K:zbz8}
theorem bt_zip:bootBuiltins "zip"=some (.type "zip"):=by decide +kernel
@[irreducible] def rZip (K:zbz8) (a b:Addr) (H:Hp) (R:It->Hp->Prop):Prop:=(∃ xs,SqL K H a xs)/\(∃ ys,SqL K H b ys)/\R (Itz K a b) H
def qiZip (K:zbz8) (ta:TA):TI:=fun σ H R=>ta σ H fun vs H1=>match vs with
 | [.ref a,.ref b]=>rZip K a b H1 R
 | _=>False
theorem zbm4 {elts:List Expr}{k:Nat}{pt:Pos}{a b:Expr}{ta:TA}{p pos:Pos}(hK:X.K=K) (hm:X.mg "zip"=none) (ha:PA X [a,b] ta) (hg:Gl X "zip":=by rfl) (hs:starEach [a,b] X.env=(false,eval a X.env) :: starEach [b] X.env:=by rfl)
  (hpl:(backTo pos (starEach [b] X.env)).any (·.1)=false:=by rfl) :
  PI X (.Tuple elts k pt) (.Call (.Name "zip" p) [a,b] [] pos) (qiZip K ta):=by
 subst hK
 intro pins s σ H R I h
 refine Call_ (zx9 I hg hm bt_zip (PyProof.Rows.callWith_type1 (thn (ha pos pins s σ H _ I h) fun us s1 ⟨vs,H1,I1,r1,q1⟩=>?_) hs hpl))
 dsimp only at q1
 split at q1
 ·rename_i l m
  unfold rZip at q1
  obtain⟨⟨xs,hq1⟩,⟨ys,hq2⟩,q⟩:=q1
  obtain⟨u1,u2,rfl,rx,ry⟩:=zbf1 r1
  cases rx
  cases ry
  obtain⟨its1,rv1,p1,_⟩:=I1.list hq1
  obtain⟨its2,rv2,p2,_⟩:=I1.list hq2
  have l1:@LT.lt Nat _ l s1.heap.objs.size:=by obtain⟨o,ho,_⟩:=p1.isList;exact zcb7 ho
  have l2:@LT.lt Nat _ m s1.heap.objs.size:=by obtain⟨o,ho,_⟩:=p2.isList;exact zcb7 ho
  refine call_zip_2 p1.isList p2.isList fun h' hz hTI hTO j1 j2 hsz hk=>?_
  refine wpAny_pyIter_zip hz ?_
  have I2:Inv X pins σ H1 { s1 with heap:=h' }:=I1.kept (t':=s1.toks) hk
  have D:ZipApart (s1.heap.objs.size+4) (s1.heap.objs.size+2) (s1.heap.objs.size+3) s1.heap.objs.size (s1.heap.objs.size+1) l m:=by
   constructor<;>(intro z;have z:(_:Nat)=_:=z;omega)
  refine⟨_,_,_,Itz X.K l m,H1,rfl,I2,zbi6 l m _ _ _ _ _ D,⟨hz,hTI,⟨_,_,hTO⟩,j1,j2⟩,fun b hb=>?_,q⟩
  have hb':s1.heap.objs.size<=b:=by
   simp only[zcb3,zcd4,or_false] at hb
   rcases hb with rfl|rfl|rfl|rfl|rfl
   ·exact zch2 _ _
   ·exact zch2 _ _
   ·exact zch2 _ _
   ·exact zcb6 _
   ·exact zch2 _ _
  exact I1.fpOk hb' (I1.hok.fresh hb')
 ·exact q1.elim
end
section
variable {K:zbz8}{g:TG}{tb:TS}{D:Ends}{σ:St}{H:Hp}{R:It->Hp->Prop}
theorem zbm2 {a b:Addr}{xs ys:List V}(h:SqL K H a xs) (h':SqL K H b ys) (q:R (Itz K a b) H):rZip K a b H R:=by unfold rZip;exact⟨⟨xs,h⟩,⟨ys,h'⟩,q⟩
end
end L2
set_option maxHeartbeats 2000000
namespace L2
open PySem PySem.Spec PyProof.Rows
theorem zac9:∀ {xs:List V}{us:List Value},xs.length=us.length->(∀ (j:Nat) x u,xs[j]?=some x->us[j]?=some u->RelV x u)->Vals xs us
 | [],[],_,_=>.nil
 | [],_ :: _,h,_=>by simp at h
 | _ :: _,[],h,_=>by simp at h
 | x :: xs,u :: us,h,k=>.cons (k 0 x u rfl rfl) (zac9 (by simpa using h) fun j y v hy hv=>k (j+1) y v (by simpa using hy) (by simpa using hv))
section
variable {X:Cx}{K:zbz8}
@[irreducible] def rLRng (j:Int) (H:Hp) (Q:VK):Prop:=0<=j/\j<=10000/\∀ l H',H l=none->Same H H'->H' l=some (.lst ((List.range j.toNat).map fun i=>V.int ((i:Nat):Int)))->Q (.ref l) H'
def qLRng (ta:TA):TE:=fun σ H Q=>ta σ H fun vs H1=>match vs with
 | [.int j]=>rLRng j H1 Q
 | _=>False
theorem peLRng {a:Expr}{ta:TA}{p p2 pos pos2:Pos}(hl:X.mg "list"=none) (hm:X.mg "range"=none) (ha:PA X [a] ta) (hc:X.calm=true:=by rfl) (hg:Gl X "range":=by rfl) (hg2:Gl X "list":=by rfl) (hs:starEach [a] X.env=[(false,eval a X.env)]:=by rfl)
  (he:starEach [.Call (.Name "range" p2) [a] [] pos2] X.env=[(false,eval (.Call (.Name "range" p2) [a] [] pos2) X.env)]:=by rfl) :
  PE X (.Call (.Name "list" p) [.Call (.Name "range" p2) [a] [] pos2] [] pos) (qLRng ta):=by
 intro pins s σ H Q I h
 refine wpAny_Call_Name_kw (zx9 I hg2 hl zl2 ?_)
 refine PyProof.Rows.callWith_type1 ?_ (by rw[he];rfl) rfl
 rw[he]
 show wpAny _ _ (spliced ((false,eval (.Call (.Name "range" p2) [a] [] pos2) X.env) :: [])) _ _ s
 refine Calls.spliced_cons ?_
 refine Call_ (zx9 I hg hm boot_range (PyProof.Rows.callWith_type1 (thn (ha pos2 pins s σ H _ I h) fun us s1 ⟨vs,H1,I1,r1,q1⟩=>?_) hs rfl))
 dsimp only at q1
 split at q1
 ·rename_i j
  unfold rLRng at q1
  obtain⟨j0,j1,q⟩:=q1
  obtain⟨u,rfl,rx⟩:=zae0 r1
  obtain⟨t,rfl⟩:=rx
  refine call_range_1 (Calls.spliced_nil ?_)
  refine call_list_range (I1.ok.hd hc) (IsRange.new ..) (small_one (by decide) (by decide) (by omega) (by omega)) (n:=j.toNat) (by rw[rangeSize_one];split<;>omega) (by omega) fun h' tk acc' c' hk hS hacc=>?_
  have I2:Inv X pins σ H1 { s1 with heap:=s1.heap.push { cls:=.type "range",data:=.fields #[.int 0 s1.toks,.int j t,.int 1 (s1.toks+1)] },toks:=s1.toks+1+1 }:=I1.kept fun b o e=>zca8 _ e
  have vs:Vals ((List.range j.toNat).map fun i=>V.int ((i:Nat):Int)) acc'.toList:=zac9 (by simp[hacc.1]) fun i x u hx hu=>by
   rw[zca1] at hx
   obtain⟨m,hm,rfl⟩:=zca6.mp hx
   have hm':=zbz9.mp hm
   obtain⟨hm1,hm2⟩:=hm'
   rw[List.getElem_range] at hm2
   subst hm2
   obtain⟨tt,rfl⟩:=hacc.2 i u (by simpa using hu)
   exact⟨tt,by simp⟩
  have fr:H1 (s1.heap.push { cls:=.type "range",data:=.fields #[.int 0 s1.toks,.int j t,.int 1 (s1.toks+1)] }).objs.size=none:=I2.hok.fresh (zcb6 _)
  exact⟨.ref _,_,I2.laid (t':=tk) hk (zcb6 _) (show zf7 X.prog X.w _ h' _ (.lst _) from ⟨by rw[zbz7,zch9,sizeLine_eq];omega,acc'.toList,c',vs,by simpa using hS⟩),rfl,q _ _ fr (Same.upd fr) zc2⟩
 ·exact q1.elim
theorem zbq9 {j:Int}{H:Hp}{Q:VK}(h0:0<=j) (h1:j<=10000) (q:∀ l H',H l=none->Same H H'->H' l=some (.lst ((List.range j.toNat).map fun i=>V.int ((i:Nat):Int)))->Q (.ref l) H'):rLRng j H Q:=by unfold rLRng;exact⟨h0,h1,q⟩
end
section
variable {J:It}{n:Nat}{H1:Hp}{X:Nat->V->Hp->Prop}{g:TG}{tt:TT}{te:TE}{σ0:St}{Q:VK}
theorem zbl1 (w:Wk J n H1 X) (hn:n<sizeLine) (Pv:Addr->Nat->List V->St->Hp->Prop) (h0:∀ acc H,H1 acc=none->Same H1 H->H acc=some (.lst [])->Pv acc 0 [] σ0 H)
  (hP:∀ acc i ys σ H H',Same H H'->Pv acc i ys σ H->Pv acc i ys σ H')
  (turn:∀ acc i x ys σ H (R:St->V->Hp->Prop) (S:St->Hp->Prop),i<n->H1 acc=none->Same H1 H->H acc=some (.lst ys)->X i x H->Pv acc i ys σ H ->
   (∀ σ2 v H5,Same H H5->(∀ H6,Chg acc H5 H6->Pv acc (i+1) (ys++[v]) σ2 H6)->R σ2 v H5)->(∀ σ2 H5,Same H H5->Pv acc (i+1) ys σ2 H5->S σ2 H5) ->
   g x σ H fun σ2 H3=>tt σ2 H3 fun b H4=>br b (te σ2 H4 fun v H5=>R σ2 v H5) (S σ2 H4))
  (fin:∀ acc ys σ H,H1 acc=none->Same H1 H->H acc=some (.lst ys)->Pv acc n ys σ H->Q (.ref acc) H):zah6 J g tt te σ0 H1 Q:=by
 unfold zah6
 intro acc H2 hf hs ha
 refine⟨fun i m ys σ H=>m=n - i/\i<=n/\ys.length<=i/\Same H1 H/\H acc=some (.lst ys)/\Pv acc i ys σ H,⟨n,by simp,zcd6 _,zcb6 _,hs,ha,h0 acc H2 hf hs ha⟩,?_⟩
 rintro i m ys σ H ⟨rfl,hi,hl,s,hy,P⟩
 refine⟨hy,by omega,?_⟩
 by_cases hlt:i<n
 ·refine .inr ⟨w.go i H s hlt,fun x H' y=>?_⟩
  obtain⟨s1,x1⟩:=w.yld i H x H' s hlt y
  refine turn acc i x ys σ H' (fun σ2 v H5=>cPut _ acc ys i (n - i) σ2 v H5) (fun σ2 H4=>zan7 _ ys i (n - i) σ2 H4) hlt hf (s.trans s1) (s1 _ _ hy) x1 (hP _ _ _ _ _ _ s1 P) ?_ ?_
  ·intro σ2 v H5 s5 q
   have s15:=s1.trans s5
   unfold cPut
   refine⟨s15 _ _ hy,fun H6 c6 h6=>⟨n - (i+1),by omega,rfl,hlt,by rw[zca7];simp;omega,(s.trans s15).chg hf c6,h6,q H6 c6⟩⟩
  ·intro σ2 H5 s5 q
   have s15:=s1.trans s5
   unfold zan7
   exact⟨n - (i+1),by omega,rfl,hlt,by omega,s.trans s15,s15 _ _ hy,q⟩
 ·have e:i=n:=by omega
  subst e
  exact .inl ⟨w.stop H s,fin acc ys σ H hf s hy P⟩
end
end L2
set_option maxHeartbeats 2000000
namespace PySem
open Sem (wp)
namespace F
end F
section
variable {prog:Program}{w:World}{A:Around}{E:Value->Shared->Prop}{s:Shared}
end
section
variable {prog:Program}{w:World}{A:Around}{E:Value->Shared->Prop}{s:Shared}
end
end PySem
set_option maxHeartbeats 2000000
namespace L2
open PySem PySem.Spec PyProof.Rows
section
variable {X:Cx}{K:zbz8}
end
section
variable {K:zbz8}{H:Hp}{R:It->Hp->Prop}
end
end L2
set_option maxHeartbeats 2000000
namespace L2
open PySem PySem.Spec PyProof.Rows
section
variable {X:Cx}{K:zbz8}
end
end L2
set_option maxHeartbeats 2000000
namespace L2
open PySem PySem.Spec PyProof.Rows
section
variable {X:Cx}{K:zbz8}
end
end L2
set_option maxHeartbeats 2000000
namespace L2
open PySem PySem.Spec PyProof.Rows
section
variable {X:Cx}{K:zbz8}
@[irreducible] def rTupA (K:zbz8) (p:Addr) (H:Hp) (Q:VK):Prop:=∃ ys,SqL K H p ys/\∀ l H',H l=none->Same H H'->H' l=some (.tup ys)->Q (.ref l) H'
def rTupM (K:zbz8):List V->Hp->VK->Prop:=fun xs H Q=>match xs with
 | [.ref p]=>rTupA K p H Q
 | _=>False
theorem cTupK (hK:X.K=K):zn4 X (.type "tuple") (rTupM K):=fun pins s σ H xs us Q I r h=>by
 subst hK
 unfold rTupM at h
 split at h
 ·unfold rTupA at h
  obtain⟨ys,h1,h2⟩:=h
  exact zag9 pins s σ H _ us Q I r ⟨_,ys,rfl,.inl ⟨h1,fun l hl=>h2 l _ hl (Same.upd hl) zc2⟩⟩
 ·exact h.elim
theorem zbd1 {p:Addr}{H:Hp}{Q:VK}{ys:List V}(h:SqL K H p ys) (q:∀ l H',H l=none->Same H H'->H' l=some (.tup ys)->Q (.ref l) H'):rTupA K p H Q:=by unfold rTupA;exact⟨ys,h,q⟩
end
theorem Same.seqT {K:zbz8}{H H':Hp}{a:Addr}{xs:List V}(e:Same H H') (h:H a=some (.tup xs)):SqT K H' a xs:=SqT.of (e _ _ h)
theorem Wk.tup {K:zbz8}{a:Addr}{xs:List V}{H1:Hp}(h:H1 a=some (.tup xs)):Wk (Itt K a) xs.length H1 fun i x _=>xs[i]?=some x:=
 ⟨fun i H s hi=>⟨xs,xs[i],Same.seqT s h,by simp[hi]⟩,fun H s=>⟨xs,Same.seqT s h,zcb6 _⟩,fun i H x H' s _ y=>by
  obtain⟨e,y⟩:=y
  subst e
  exact⟨Same.refl _,y xs (Same.seqT s h)⟩⟩
end L2
set_option maxHeartbeats 4000000
namespace L2
open PySem PySem.Spec PyProof.Rows
section
variable {X:Cx}{K:zbz8}{H:Hp}{Q:VK}
theorem zbp9 {pins:List (Addr×Obj)}{σ:St}{s:Shared}{x:V}{u t:Value}(I:Inv X pins σ H s) (rx:RelV x u) (ty:TyOf X.K H x t):∃ P:Heap->Prop,PySem.W.KitX X.K u t P/\P s.heap/\u≠.builtin "__main__.__loader__#opaque":=by
 cases ty with
 | non=>cases (show u=Value.none from rx);exact⟨_,PySem.W.kitx_none,True.intro,fun z=>nomatch z⟩
 | bl y=>cases (show u=Value.bool y from rx);exact⟨_,PySem.W.kitx_bool,True.intro,fun z=>nomatch z⟩
 | int i=>obtain⟨t,q⟩:=(show ∃ t,u=Value.int i t from rx);cases q;exact⟨_,PySem.W.kitx_int,True.intro,fun z=>nomatch z⟩
 | str y=>obtain⟨t,q⟩:=(show ∃ t,u=Value.str y t from rx);cases q;exact⟨_,PySem.W.kitx_str,True.intro,fun z=>nomatch z⟩
 | flt y=>obtain⟨t,q⟩:=(show ∃ t,u=Value.float y t from rx);cases q;exact⟨_,PySem.W.kitx_float,True.intro,fun z=>nomatch z⟩
 | @lst a xs ea=>
  cases (show u=Value.ref a from rx)
  obtain⟨_,_,n,_,h1⟩:=(show zf7 X.prog X.w H s.heap a (.lst xs) from I.hok a _ ea)
  exact⟨_,PySem.W.kitx_list,⟨_,h1,rfl⟩,fun z=>nomatch z⟩
 | @frz a ob xs ea=>
  cases (show u=Value.ref a from rx)
  obtain⟨_,_,_,n,_,h1⟩:=(show zf7 X.prog X.w H s.heap a (.frz ob (.lst xs)) from I.hok a _ ea)
  exact⟨_,PySem.W.kitx_list,⟨_,h1,rfl⟩,fun z=>nomatch z⟩
 | @tup a xs ea=>
  cases (show u=Value.ref a from rx)
  obtain⟨_,_,_,p⟩:=(show zf7 X.prog X.w H s.heap a (.tup xs) from I.hok a _ ea)
  obtain⟨o,h1,h2,_⟩:=p
  exact⟨_,PySem.W.kitx_tuple,⟨o,h1,h2⟩,fun z=>nomatch z⟩
 | @dK a kvs ea=>
  cases (show u=Value.ref a from rx)
  obtain⟨_,_,vs,_,p⟩:=(show zf7 X.prog X.w H s.heap a (.dK kvs) from I.hok a _ ea)
  obtain⟨o,es,ep,h1,h2,_⟩:=p
  exact⟨_,PySem.W.kitx_dict,⟨o,h1,h2.1⟩,fun z=>nomatch z⟩
 | @dT a kvs ea=>
  cases (show u=Value.ref a from rx)
  obtain⟨_,_,xs,_,o,es,ep,h1,h2,_⟩:=(show zf7 X.prog X.w H s.heap a (.dT kvs) from I.hok a _ ea)
  exact⟨_,PySem.W.kitx_dict,⟨o,h1,h2.1⟩,fun z=>nomatch z⟩
 | @ins a C dx fs ea cl ha hn htk hm=>
  cases (show u=Value.ref a from rx)
  obtain⟨mA,O,_⟩:=zay7 I.hok ea
  obtain⟨od,J,_⟩:=O.look
  exact⟨_,PySem.W.kitx_own (cl.get _) cl.hd ha hn htk hm,J,fun z=>nomatch z⟩
@[irreducible] def zt9 (K:zbz8) (x c:V) (H:Hp) (Q:VK):Prop:=∃ (p:Addr) (ns:List String) (t:Value) (b:Bool),c=.ref p/\H p=some (.tup (ns.map V.ty))/\TyOf K H x t/\zch6 K t (ns.map Value.type)=some b/\Q (.bl b) H
def zbl0 (K:zbz8):List V->Hp->VK->Prop:=fun xs H Q=>match xs with
 | [x,c]=>zt9 K x c H Q
 | _=>False
theorem zax2:∀ {ns:List String}{us:List Value},Vals (ns.map V.ty) us->us=ns.map Value.type
 | [],_,.nil=>rfl
 | n :: ns,_,.cons r t=>by rw[show _=Value.type n from r,zax2 t];rfl
theorem cIsiT (hK:X.K=K):zn4 X (.builtin "isinstance") (zbl0 K):=by
 subst hK
 intro pins s σ H xs us Q I r h
 unfold zbl0 at h
 split at h
 ·unfold zt9 at h
  obtain⟨p,ns,t,b,rfl,h1,h2,h3,h4⟩:=h
  obtain⟨u,w,rfl,r1,r2⟩:=zbf1 r
  cases r2
  obtain⟨P,z1,z2,z3⟩:=zbp9 I r1 h2
  obtain⟨_,its,r3,o,e1,e2,n,e3⟩:=(show zf7 X.prog X.w H s.heap p (.tup (ns.map V.ty)) from I.hok p _ h1)
  have ei:=zax2 r3
  subst ei
  obtain⟨oc,od,odt,osl⟩:=o
  cases e2
  cases e3
  exact PySem.W.kia_tup z1 I.kIn z2 e1 h3 z3 fun tk=>⟨.bl b,H,I.tok _,rfl,h4⟩
 ·exact h.elim
theorem zat3 {p:Addr}{i:Int}{ns:List String}{b:Bool}(h:H p=some (.tup (ns.map V.ty))) (q:Q (.bl b) H) (e:zch6 K (.type "int") (ns.map Value.type)=some b:=by rfl):zt9 K (.int i) (.ref p) H Q:=by
 unfold zt9;exact⟨p,ns,_,b,rfl,h,.int i,e,q⟩
theorem zar3 {p:Addr}{x:Str}{ns:List String}{b:Bool}(h:H p=some (.tup (ns.map V.ty))) (q:Q (.bl b) H) (e:zch6 K (.type "str") (ns.map Value.type)=some b:=by rfl):zt9 K (.str x) (.ref p) H Q:=by
 unfold zt9;exact⟨p,ns,_,b,rfl,h,.str x,e,q⟩
theorem zas5 {p:Addr}{ns:List String}{b:Bool}(h:H p=some (.tup (ns.map V.ty))) (q:Q (.bl b) H) (e:zch6 K (.type "NoneType") (ns.map Value.type)=some b:=by rfl):zt9 K .non (.ref p) H Q:=by
 unfold zt9;exact⟨p,ns,_,b,rfl,h,.non,e,q⟩
theorem zas9 {p:Addr}{x:Bool}{ns:List String}{b:Bool}(h:H p=some (.tup (ns.map V.ty))) (q:Q (.bl b) H) (e:zch6 K (.type "bool") (ns.map Value.type)=some b:=by rfl):zt9 K (.bl x) (.ref p) H Q:=by
 unfold zt9;exact⟨p,ns,_,b,rfl,h,.bl x,e,q⟩
theorem zas8 {p a:Addr}{xs:List V}{ns:List String}{b:Bool}(h:H p=some (.tup (ns.map V.ty))) (ha:H a=some (.lst xs)) (q:Q (.bl b) H) (e:zch6 K (.type "list") (ns.map Value.type)=some b:=by rfl):zt9 K (.ref a) (.ref p) H Q:=by
 unfold zt9;exact⟨p,ns,_,b,rfl,h,.lst ha,e,q⟩
theorem zat7 {p a:Addr}{xs:List V}{ns:List String}{b:Bool}(h:H p=some (.tup (ns.map V.ty))) (ha:H a=some (.tup xs)) (q:Q (.bl b) H) (e:zch6 K (.type "tuple") (ns.map Value.type)=some b:=by rfl):zt9 K (.ref a) (.ref p) H Q:=by
 unfold zt9;exact⟨p,ns,_,b,rfl,h,.tup ha,e,q⟩
end
section
variable {X:Cx}{K:zbz8}
def isT (k:Str):V->Bool
 | .str z=>z==k
 | _=>false
def isTU (k:Str):Value->Bool
 | .str z _=>z==k
 | _=>false
theorem zbd8 {k:Str}{x:V}{u:Value}(r:RelV x u):isTU k u=isT k x:=by
 cases x with
 | non=>cases (show u=Value.none from r);rfl
 | bl b=>cases (show u=Value.bool b from r);rfl
 | int i=>obtain⟨t,e⟩:=(show ∃ t,u=Value.int i t from r);cases e;rfl
 | str x=>obtain⟨t,e⟩:=(show ∃ t,u=Value.str x t from r);cases e;rfl
 | byt b=>obtain⟨t,e⟩:=(show ∃ t,u=Value.bytes b t from r);cases e;rfl
 | flt b=>obtain⟨t,e⟩:=(show ∃ t,u=Value.float b t from r);cases e;rfl
 | ref a=>cases (show u=Value.ref a from r);rfl
 | ty n=>cases (show u=Value.type n from r);rfl
theorem zaj9 {k:Str}:∀ {xs:List V}{us:List Value},Vals xs us->us.countP (isTU k)=xs.countP (isT k)
 | _,_,.nil=>rfl
 | y :: xs,u :: us,.cons r t=>by rw[zci2,zci2,zbd8 r,zaj9 t]
def zbf9 (H:Hp) (x:V):Prop:=zk9 x=true∨∃ a,x=.ref a/\((∃ ys,H a=some (.lst ys))∨∃ ys,H a=some (.tup ys))
theorem eqT_at {pins:List (Addr×Obj)}{σ:St}{H:Hp}{s:Shared}{A:Around}{k:Str}{tk:Tok}{x:V}{u:Value}(I:Inv X pins σ H s) (hu:A.units<cLine) (r:RelV x u) (f:zbf9 H x):SeqAt.EqAt A s u (.str k tk) (isTU k u):=by
 rw[zbd8 r]
 rcases f with f|⟨a,rfl,f⟩
 ·cases x with
  | non=>cases (show u=Value.none from r);exact SeqAt.EqAt.none_str _ _
  | bl b=>cases (show u=Value.bool b from r);exact SeqAt.EqAt.bool_str _ _ _
  | int i=>obtain⟨t,e⟩:=(show ∃ t,u=Value.int i t from r);cases e;exact SeqAt.EqAt.int_str _ _ _ _
  | str x=>obtain⟨t,e⟩:=(show ∃ t,u=Value.str x t from r);cases e;exact SeqAt.EqAt.str_str _ _ _ _
  | _=>exact absurd (show false=true from f) zca5
 ·cases (show u=Value.ref a from r)
  rcases f with ⟨ys,e⟩|⟨ys,e⟩
  ·obtain⟨_,its,n,_,e⟩:=(show zf7 X.prog X.w H s.heap a (.lst ys) from I.hok a _ e)
   exact SeqAt.EqAt.list_str _ _ ⟨_,e,rfl,n,rfl⟩ hu
  ·obtain⟨_,its,_,o,e,c⟩:=(show zf7 X.prog X.w H s.heap a (.tup ys) from I.hok a _ e)
   exact SeqAt.EqAt.tuple_str _ _ ⟨o,e,c⟩ hu
@[irreducible] def rCntT (p:Addr) (k:Str) (H:Hp) (Q:VK):Prop:=∃ xs,H p=some (.lst xs)/\(∀ x∈xs,zbf9 H x)/\Q (.int (xs.countP (isT k):Nat)) H
def zbd9:Addr->List V->Hp->VK->Prop:=fun p vs H Q=>match vs with
 | [.str k]=>rCntT p k H Q
 | _=>False
theorem zat8:∀ {xs:List V}{us:List Value},Vals xs us->∀ u∈us,∃ x∈xs,RelV x u
 | _,_,.nil=>fun u hu=>by cases hu
 | y :: xs,u :: us,.cons r t=>fun u' hu=>by
  rcases zcb3.mp hu with rfl|hu
  ·exact⟨y,zce8,r⟩
  ·obtain⟨x,hx,rx⟩:=zat8 t u' hu
   exact⟨x,zcd5 _ hx,rx⟩
theorem zbo0 (hu:X.A.units+40<cLine):MtA X "list.count" zbd9:=fun pins s σ H p xs us Q I r h=>by
 unfold zbd9 at h
 split at h
 ·rename_i k
  unfold rCntT at h
  obtain⟨ys,h1,h2,h3⟩:=h
  obtain⟨u,rfl,ru⟩:=r.one
  obtain⟨tk,rfl⟩:=(show ∃ t,u=Value.str k t from ru)
  obtain⟨z,its,n,r',hl,e⟩:=I.lstM h1
  refine call_meets F.slot_list_count ⟨_,e,rfl⟩ F.entry_list_count (F.args_list_count_2 _ _) (SeqAt.list_countAt p its.toArray n none #[] (.str k tk) (isTU k)) ⟨e,fun y hy=>?_,?_⟩
  ·obtain⟨x,hx,rx⟩:=zat8 r' y (by simpa using hy)
   exact eqT_at I (by rw[zr1];omega) rx (h2 x hx)
  ·have ec:its.toArray.toList.countP (isTU k)=ys.countP (isT k):=zaj9 r'
   exact⟨.int _,H,I.tok _,⟨_,by rw[ec]⟩,h3⟩
 ·exact h.elim
theorem zbr9 {p:Addr}{k:Str}{H:Hp}{Q:VK}{xs:List V}(h:H p=some (.lst xs)) (h1:∀ x∈xs,zbf9 H x) (q:Q (.int (xs.countP (isT k):Nat)) H):rCntT p k H Q:=by unfold rCntT;exact⟨xs,h,h1,q⟩
theorem zau9 {o e:Expr}{to:TE}{t:TA}{apos cpos:Pos}(hK:X.K=K) (hu:X.A.units+40<cLine) (ho:PE X o to) (ha:PA X [e] t) (hbase:attributeBase o "count" X.env (eval o X.env)=eval o X.env:=by rfl)
  (hfew:((backTo cpos (starEach [e] X.env)).all (fun x=>!x.1)&&(backToKw cpos (keywordEach [] X.env)).all (fun x=>x.1.isSome)
   && decide ([e].length+([]:List Keyword).length+(if ([]:List Keyword).isEmpty then 0 else 1)<30))=true:=by rfl)
  (hline:(apos.endLine==cpos.line)=true:=by rfl) (hs:starEach [e] X.env=(false,eval e X.env) :: starEach [] X.env:=by rfl) (hplain:(backTo cpos (starEach [] X.env)).any (·.1)=false:=by rfl):PE X (.Call (.Attribute o "count" apos) [e] [] cpos) (qBM K zbd9 to t):=by
 subst hK
 exact peBM PySem.F.slot_list_count PySem.F.type_list_count (zbo0 hu) ho ha hbase hfew hline hs hplain
end
end L2
set_option maxHeartbeats 4000000
namespace L2
open PySem PySem.Spec PyProof.Rows
section
variable {prog:Program}{w:World}{A:Around}{E:Value->Shared->Prop}{h:Heap}{g:Array GenState}{d:Drawn}{t:Nat}{os:OsState}
variable {nm q:Str}{C N:Addr}{bs bm bmB:List Value}{hdct:Bool}{sn:List Str}{sub:List Value}{ab:Bool}{col:Option Bool}{dd:Option Addr}{k0 k1 k2 k3 k5:Option Value}{B newId initId:String}{K:zbz8}
end
section
variable {prog:Program}{w:World}{A:Around}{E:Value->Shared->Prop}{s:Shared}{env:Env}
variable {nm q:Str}{C N:Addr}{bs bm bmB:List Value}{hdct:Bool}{sn:List Str}{sub:List Value}{ab:Bool}{col:Option Bool}{dd:Option Addr}{k0 k1 k2 k3 k5:Option Value}{B newId initId:String}{K:zbz8}
end
section
open PySem.W
variable {prog:Program}{w:World}{A:Around}{E:Value->Shared->Prop}{s:Shared}{K:Frag}
end
end L2
set_option maxHeartbeats 4000000
namespace L2
open PySem PySem.Spec PyProof.Rows
section
variable {X:Cx}{K:zbz8}
section
variable {pins:List (Addr×Obj)}{σ:St}{H:Hp}{s:Shared}{e:Addr}{φ:Heap->Prop}
end
end
end L2
set_option maxHeartbeats 4000000
namespace L2
open PySem PySem.Spec PyProof.Rows
section
open PySem.W PySem.Calls
end
section
variable {X:Cx}{K:zbz8}{H:Hp}{Q:VK}
end
end L2
namespace L2
open PySem PySem.Spec PyProof.Rows
end L2
set_option maxHeartbeats 2000000
namespace L2
open PySem PySem.Spec PyProof.Rows
def zax6 (x0:Str) (names:List (Str×NameKind)):Prop:=names.filter (fun y=>y.2==.cell)=[(x0,.cell)]/\names.lookup x0=some .cell
theorem zax6.only {x0:Str}{names:List (Str×NameKind)}(h:zax6 x0 names):∀ y∈names,y.2=.cell->y.1=x0:=fun y hy hc=>by
 have:y∈names.filter (fun y=>y.2==.cell):=List.mem_filter.mpr ⟨hy,by rw[hc];rfl⟩
 rw[h.1] at this
 rw[zcd8.mp this]
section
variable {X:Cx}{pins:List (Addr×Obj)}{σ:St}{H:Hp}{s2:Shared}
end
end L2
set_option maxHeartbeats 1000000
namespace L2
open PySem PySem.Spec PyProof.Rows
section
variable {κ:Type}[DecidableEq κ]
def valV (kvs:List (κ×V)) (k:κ):Option V:=(kvs.find? fun kv=>decide (kv.1=k)).map (·.2)
def putK (kvs:List (κ×V)) (k:κ) (v:V):List (κ×V):=
 if (kvs.any fun kv=>decide (kv.1=k))=true then kvs.map (fun kv=>if kv.1=k then (kv.1,v) else kv) else kvs++[(k,v)]
theorem zv0 {p:κ×V}{r:List (κ×V)}{k:κ}(e:p.1=k):valV (p :: r) k=some p.2:=by simp[valV,zcf6,e]
theorem zv6 {p:κ×V}{r:List (κ×V)}{k:κ}(e:¬ p.1=k):valV (p :: r) k=valV r k:=by simp[valV,zcf6,e]
theorem zas1 (k:κ):∀ kvs:List (κ×V),(kvs.any fun kv=>decide (kv.1=k))=(valV kvs k).isSome
 | []=>rfl
 | p :: r=>by
  rw[List.any_cons]
  by_cases e:p.1=k
  ·simp only[zv0 e,decide_eq_true e,Bool.true_or,Option.isSome_some]
  ·rw[zv6 e,decide_eq_false e,Bool.false_or];exact zas1 k r
theorem zaa6 (kvs:List (κ×V)) (k:κ) (v:V):(putK kvs k v).length<=kvs.length+1:=by
 unfold putK
 split
 ·rw[zbz7];omega
 ·rw[zca7,zcd0,zcf2];omega
theorem RelO.isSome_eq {o:Option V}{u:Option Value}(r:RelO o u):o.isSome=u.isSome:=by
 cases o with
 | none=>cases u with
  | none=>rfl
  | some _=>exact (show False from r).elim
 | some _=>cases u with
  | none=>exact (show False from r).elim
  | some _=>rfl
theorem RelO.getD {o:Option V}{u:Option Value}{d:V}{d':Value}(r:RelO o u) (rd:RelV d d'):RelV (o.getD d) (u.getD d'):=by
 cases o with
 | none=>cases u with
  | none=>exact rd
  | some _=>exact (show False from r).elim
 | some _=>cases u with
  | none=>exact (show False from r).elim
  | some _=>exact r
theorem KV.val {kvs:List (κ×V)}{vs:List (κ×Value)}(r:KV kvs vs) (k:κ):RelO (valV kvs k) (valueAt vs k):=by
 unfold KV at r
 induction r with
 | nil=>exact True.intro
 | @cons p q ps qs h t ih=>
  obtain⟨h1,h2⟩:=h
  by_cases e:p.1=k
  ·have e':q.1=k:=h1.symm.trans e
   have b:valueAt (q :: qs) k=some q.2:=by simp[valueAt,zcf6,e']
   rw[zv0 e,b];exact h2
  ·have e':¬ q.1=k:=fun z=>e (h1.trans z)
   have b:valueAt (q :: qs) k=valueAt qs k:=by simp[valueAt,zcf6,e']
   rw[zv6 e,b];exact ih
theorem KV.any {kvs:List (κ×V)}{vs:List (κ×Value)}(r:KV kvs vs) (k:κ):(kvs.any fun kv=>decide (kv.1=k))=vs.any fun kv=>decide (kv.1=k):=by
 unfold KV at r
 induction r with
 | nil=>rfl
 | cons h t ih=>rw[List.any_cons,List.any_cons,ih,h.1]
theorem KV.repl {kvs:List (κ×V)}{vs:List (κ×Value)}(r:KV kvs vs) (k:κ) {y:V}{u:Value}(ry:RelV y u) :
  KV (kvs.map fun kv=>if kv.1=k then (kv.1,y) else kv) (vs.map fun kv=>if kv.1=k then (kv.1,u) else kv):=by
 unfold KV at r ⊢
 induction r with
 | nil=>exact .nil
 | @cons p q ps qs h t ih=>
  rw[zcd9,zcd9]
  refine .cons ?_ ih
  obtain⟨h1,h2⟩:=h
  by_cases e:p.1=k
  ·rw[if_pos e,if_pos (h1.symm.trans e)];exact⟨h1,ry⟩
  ·rw[if_neg e,if_neg (fun z=>e (h1.trans z))];exact⟨h1,h2⟩
theorem KV.put {kvs:List (κ×V)}{vs:List (κ×Value)}(r:KV kvs vs) (k:κ) {y:V}{u:Value}(ry:RelV y u):KV (putK kvs k y) (stored vs k u):=by
 unfold putK stored
 rw[r.any k]
 by_cases e:(vs.any fun kv=>decide (kv.1=k))=true
 ·rw[if_pos e,if_pos e];exact r.repl k ry
 ·rw[if_neg e,if_neg e];exact Paired.snoc r ⟨rfl,ry⟩
theorem KV.length {kvs:List (κ×V)}{vs:List (κ×Value)}(r:KV kvs vs):kvs.length=vs.length:=Paired.length r
end
theorem kV_is {P:Program}{w:World}{k:Key}{u:Value}(r:RelV (kV k) u):(zj6 P w).is k u=true:=by
 cases k with
 | inl i=>obtain⟨t,e⟩:=(show ∃ t,u=Value.int i t from r);subst e;exact zap7 P w i t
 | inr x=>obtain⟨t,e⟩:=(show ∃ t,u=Value.str x t from r);subst e;exact zaq5 P w x t
theorem zal4 {P:Program}{w:World}:∀ {ks:List Key}{us:List Value},Vals (ks.map kV) us->ItemsAre (zj6 P w) ks us
 | [],_,r=>by rw[List.map_nil] at r;cases r;exact .nil
 | k :: ks,_,r=>by
  rw[zcd9] at r
  cases r with
  | cons h t=>exact .cons (kV_is h) (zal4 t)
abbrev KT (H:Hp):List (List Key×V)->List (List Key×Addr×Value)->Prop:=Paired fun p q=>p.1=q.1/\H q.2.1=some (.tup (p.1.map kV))/\RelV p.2 q.2.2
theorem KT.val {H:Hp}{kvs:List (List Key×V)}{xs:List (List Key×Addr×Value)}(r:KT H kvs xs) (k:List Key):RelO (valV kvs k) ((atKey xs k).map (·.2)):=by
 induction r with
 | nil=>exact True.intro
 | @cons p q ps qs h t ih=>
  obtain⟨h1,_,h2⟩:=h
  by_cases e:p.1=k
  ·have e':q.1=k:=h1.symm.trans e
   have b:atKey (q :: qs) k=some q.2:=by simp[atKey,zcf6,e']
   rw[zv0 e,b];exact h2
  ·have e':¬ q.1=k:=fun z=>e (h1.trans z)
   have b:atKey (q :: qs) k=atKey qs k:=by simp[atKey,zcf6,e']
   rw[zv6 e,b];exact ih
theorem KT.repl {H:Hp}{kvs:List (List Key×V)}{xs:List (List Key×Addr×Value)}(r:KT H kvs xs) (k:List Key) {y:V}{u:Value}(ry:RelV y u) :
  KT H (kvs.map fun kv=>if kv.1=k then (kv.1,y) else kv) (xs.map (putAt k u)):=by
 induction r with
 | nil=>exact .nil
 | @cons p q ps qs h t ih=>
  rw[zcd9,zcd9]
  refine .cons ?_ ih
  obtain⟨h1,h2,h3⟩:=h
  unfold putAt
  by_cases e:p.1=k
  ·rw[if_pos e,if_pos (h1.symm.trans e)];exact⟨h1,h2,ry⟩
  ·rw[if_neg e,if_neg (fun z=>e (h1.trans z))];exact⟨h1,h2,h3⟩
theorem KT.put {H:Hp}{kvs:List (List Key×V)}{xs:List (List Key×Addr×Value)}(r:KT H kvs xs) (k:List Key) {b:Addr}{y:V}{u:Value}(hb:H b=some (.tup (k.map kV))) (ry:RelV y u) :
  KT H (putK kvs k y) (storedH xs k b u):=by
 have e:(kvs.any fun kv=>decide (kv.1=k))=(atKey xs k).isSome:=by
  rw[zas1,(r.val k).isSome_eq,Option.isSome_map]
 unfold putK storedH
 rw[e]
 by_cases q:(atKey xs k).isSome=true
 ·rw[if_pos q,if_pos q];exact r.repl k ry
 ·rw[if_neg q,if_neg q];exact Paired.snoc r ⟨rfl,hb,ry⟩
theorem KT.keeps {H H':Hp}{kvs:List (List Key×V)}{xs:List (List Key×Addr×Value)}(r:KT H kvs xs) (ht:∀ b ys,H b=some (.tup ys)->H' b=some (.tup ys)):KT H' kvs xs:=
 Paired.mapP r fun _ _ z=>⟨z.1,ht _ _ z.2.1,z.2.2⟩
section
variable {P:Program}{w:World}{H:Hp}{h:Heap}{a:Addr}
theorem rd_of {u:HO}(ok:HOk P w H h) (e:Rd H a u):zf7 P w H h a u:=e.ok ok
theorem zba7 {kvs:List (Key×V)}(ok:HOk P w H h) (e:Rd H a (.dK kvs)):kvs.length<=sizeLine/\(a==sysModules)=false/\∃ vs,KV kvs vs/\h.DictOf (zj6 P w) a vs:=
 show zf7 P w H h a (.dK kvs) from rd_of ok e
theorem zbe4 {kvs:List (Key×V)}(ok:HOk P w H h) (e:H a=some (.dK kvs)):kvs.length<=sizeLine/\(a==sysModules)=false/\∃ vs,KV kvs vs/\h.DictOf (zj6 P w) a vs:=zba7 ok (.inl e)
theorem zar7 {ks:List Key}(ok:HOk P w H h) (e:H a=some (.tup (ks.map kV))):(tupleKind (zj6 P w)).is h ks a:=by
 obtain⟨_,its,r,o,h1,h2,n,h3⟩:=(show zf7 P w H h a (.tup (ks.map kV)) from ok a _ e)
 exact⟨o,its.toArray,n,h1,h2,h3,by simpa using zal4 r⟩
theorem zbg2 {kvs:List (List Key×V)}(ok:HOk P w H h) (e:Rd H a (.dT kvs)):kvs.length<=sizeLine/\(a==sysModules)=false /\
  ∃ xs,KT H kvs xs/\h.DictOfH (tupleKind (zj6 P w)) a xs:=by
 obtain⟨z,y,xs,r,o,es,ep,h1,h2,h3,h4,h5⟩:=(show zf7 P w H h a (.dT kvs) from rd_of ok e)
 refine⟨z,y,xs,r,o,es,ep,h1,h2,h3,h4,fun x hx=>?_,h5⟩
 have all:∀ {l:List (List Key×V)}{m:List (List Key×Addr×Value)},KT H l m->∀ x∈m,(tupleKind (zj6 P w)).is h x.1 x.2.1:=by
  intro l m q
  induction q with
  | nil=>intro x hx;exact nomatch hx
  | @cons p q ps qs hq t ih=>
   intro x hx
   rcases zcb3.mp hx with e|hx
   ·subst e
    exact zar7 ok (by rw[← hq.1];exact hq.2.1)
   ·exact ih x hx
 exact all r x hx
theorem dt_of {kvs:List (List Key×V)}(ok:HOk P w H h) (e:H a=some (.dT kvs)):kvs.length<=sizeLine/\(a==sysModules)=false /\
  ∃ xs,KT H kvs xs/\h.DictOfH (tupleKind (zj6 P w)) a xs:=zbg2 ok (.inl e)
end
def DGet (H:Hp) (a:Addr) (y:V) (r:Option V):Prop:=
 (∃ kvs k,Rd H a (.dK kvs)/\y=kV k/\r=valV kvs k)∨∃ kvs k b,Rd H a (.dT kvs)/\y=.ref b/\H b=some (.tup (k.map kV))/\r=valV kvs k
def DPut (H:Hp) (a:Addr) (y v:V) (H':Hp):Prop:=
 (∃ kvs k,H a=some (.dK kvs)/\y=kV k/\kvs.length<sizeLine/\H'=upd H a (.dK (putK kvs k v))) ∨
 ∃ kvs k b,H a=some (.dT kvs)/\y=.ref b/\H b=some (.tup (k.map kV))/\kvs.length<sizeLine/\H'=upd H a (.dT (putK kvs k v))
theorem DGet.k {H:Hp}{a:Addr}{kvs:List (Key×V)}{k:Key}(e:H a=some (.dK kvs)):DGet H a (kV k) (valV kvs k):=.inl ⟨kvs,k,.inl e,rfl,rfl⟩
theorem DGet.t {H:Hp}{a b:Addr}{kvs:List (List Key×V)}{k:List Key}(e:H a=some (.dT kvs)) (eb:H b=some (.tup (k.map kV))):DGet H a (.ref b) (valV kvs k):=.inr ⟨kvs,k,b,.inl e,rfl,eb,rfl⟩
theorem DPut.k {H:Hp}{a:Addr}{kvs:List (Key×V)}{k:Key}{v:V}(e:H a=some (.dK kvs)) (hl:kvs.length<sizeLine):DPut H a (kV k) v (upd H a (.dK (putK kvs k v))):=.inl ⟨kvs,k,e,rfl,hl,rfl⟩
theorem DPut.t {H:Hp}{a b:Addr}{kvs:List (List Key×V)}{k:List Key}{v:V}(e:H a=some (.dT kvs)) (eb:H b=some (.tup (k.map kV))) (hl:kvs.length<sizeLine) :
  DPut H a (.ref b) v (upd H a (.dT (putK kvs k v))):=.inr ⟨kvs,k,b,e,rfl,eb,hl,rfl⟩
section
variable {X:Cx}{pins:List (Addr×Obj)}{σ:St}{H:Hp}{s:Shared}{a:Addr}{y v:V}{u r:Value}{o:Option V}{A:Around}{E:Value->Shared->Prop}
theorem Inv.big (I:Inv X pins σ H s):sysModules<s.heap.objs.size:=by
 have h:mainGlobals<s.heap.objs.size:=(I.mod.glob.keeps I.bk).lt
 exact Nat.lt_trans (by decide) h
theorem zbc9 {Q:Value->Shared->Prop}(hu:A.units+1<cLine) (I:Inv X pins σ H s) (g:DGet H a y (some v)) (ry:RelV y u) (h:∀ w' s',Inv X pins σ H s'->RelV v w'->Q w' s') :
  wpAny (model X.prog X.w) A (getItem (.ref a) u) Q E s:=by
 rcases g with ⟨kvs,k,e,ey,l⟩|⟨kvs,k,b,e,ey,eb,l⟩
 ·subst ey
  obtain⟨z,hd,vs,rel,dd⟩:=zba7 I.hok e
  obtain⟨w',hw,rw'⟩:=RelO.some_of (v:=v) (o:=valueAt vs k) (by rw[l];exact rel.val k)
  exact wpAny_getItem_of (kV_is ry) dd.mapOf hw (h w' _ (I.tok _) rw')
 ·subst ey
  cases (show u=Value.ref b from ry)
  obtain⟨z,hd,xs,rel,dd⟩:=zbg2 I.hok e
  obtain⟨w',hw,rw'⟩:=RelO.some_of (v:=v) (o:=(atKey xs k).map (·.2)) (by rw[l];exact rel.val k)
  obtain⟨p,hp,hp2⟩:=zca6.mp hw
  refine wpAny_getItem_heap (tupleKind_room_in1 hu) (zar7 I.hok eb) dd hp ?_
  rw[hp2]
  exact h w' _ (I.tok _) rw'
theorem zaw9 {h':Heap}{t':Nat}{ob:HO}(I:Inv X pins σ H s) (mu:Mut (H a)) (hs:Heap.SameBut a s.heap h') (he:∃ q,h'.get? a=some q) (new:zf7 X.prog X.w (upd H a ob) h' a ob) :
  Inv X pins σ (upd H a ob) { s with heap:=h',toks:=t' }:=
 I.write (x:=a) (e:=a) mu (.inl rfl) (fun b q hb z=>(hs.2 b hb).trans z) he new
theorem dk_new {P:Program}{w:World}{H':Hp}{h':Heap}{kvs:List (Key×V)}{vs:List (Key×Value)}(z:kvs.length<=sizeLine) (hd:(a==sysModules)=false) (rel:KV kvs vs) (dd:h'.DictOf (zj6 P w) a vs) :
  zf7 P w H' h' a (.dK kvs):=⟨z,hd,vs,rel,dd⟩
theorem zay2 {H':Hp}{Q:Unit->Shared->Prop}(hu:A.units+1<cLine) (I:Inv X pins σ H s) (g:DPut H a y v H') (ry:RelV y u) (rv:RelV v r) (h:∀ s',Inv X pins σ H' s'->Q () s') :
  wpAny (model X.prog X.w) A (setItem (.ref a) u r) Q E s:=by
 rcases g with ⟨kvs,k,e,ey,l,eH⟩|⟨kvs,k,b,e,ey,eb,l,eH⟩
 ·subst ey eH
  obtain⟨z,hd,vs,rel,dd⟩:=zbe4 I.hok e
  have hz:vs.length<=sizeLine:=by rw[← rel.length];exact z
  have hl:(putK kvs k v).length<=sizeLine:=by have:=zaa6 kvs k v;omega
  refine wpAny_setItem_pairs (hsz:=hz) (kV_is ry) dd fun h' dd' hs=>h _ ?_
  have he:∃ q,h'.get? a=some q:=let ⟨q,_,_,hq,_⟩:=dd';⟨q,hq⟩
  exact zaw9 I (by rw[e];exact True.intro) hs he (dk_new hl hd (rel.put k rv) dd')
 ·subst ey eH
  cases (show u=Value.ref b from ry)
  obtain⟨z,hd,xs,rel,dd⟩:=dt_of I.hok e
  have hz:xs.length<=sizeLine:=by rw[← Paired.length rel];exact z
  have hl:(putK kvs k v).length<=sizeLine:=by have:=zaa6 kvs k v;omega
  refine wpAny_setItem_heap (hsz:=hz) (tupleKind_room_in1 hu) (zar7 I.hok eb) dd fun h' dd' hs=>h _ ?_
  obtain⟨q,es,ep,hq,h2,h3,h4,_,h5⟩:=dd'
  refine zaw9 I (by rw[e];exact True.intro) hs ⟨q,hq⟩ ⟨hl,hd,_,(rel.put k eb rv).keeps fun c ys ec=>?_,q,es,ep,hq,h2,h3,h4,h5⟩
  rw[zd5 (ne_of ec e (fun z=>nomatch z))]
  exact ec
end
section
variable {X:Cx}{pins:List (Addr×Obj)}{σ:St}{H:Hp}{s:Shared}{a:Addr}{kvs:List (Key×V)}{k:Key}{u:Value}{A:Around}{E:Value->Shared->Prop}
end
def NoSl (i:Expr):Prop:=∀ ov iv,subscripted i false ov iv=operate [ov,iv] (getItem ov iv)
theorem zbo2 {prog:Program}{w:World}{A:Around}{E:Value->Shared->Prop}{s:Shared}{env:Env}{value slice:Expr}{pos:Pos}{T id:String}{Q:Value->Shared->Prop}
  (hl:typeLookup (.type T) "__getitem__"=pure (some (.builtin id))) (hs:NoSl slice)
  (h:wpAny (model prog w) A (eval value env) (fun o s₁=>wpAny (model prog w) A (eval slice env) (fun i s₂=>s₂.TypeIs o T/\wpAny (model prog w) A (getItem o i) Q E s₂) E s₁) E s) :
  wpAny (model prog w) A (eval (.Subscript value slice pos) env) Q E s:=by
 refine Subscript_ (wpAny_mono h (fun o s₁ h₁=>wpAny_mono h₁ (fun i s₂ h₂=>?_) fun _ _ x=>x) fun _ _ x=>x)
 obtain⟨hT,h₂⟩:=h₂
 unfold subscriptTail
 refine wpAny_bind ?_
 rw[getitemInPython_of_ne hT.not_modules]
 refine wpAny_bind (wpAny_specialOf hT hl ?_)
 have fin:wpAny (model prog w) A (subscripted slice false o i) (fun r s₃=>wpAny (model prog w) A (letTemporaryGo value o r >>= fun _=>pure r) Q E s₃) E s₂:=by
  rw[hs o i]
  exact wpAny_operating (wpAny_mono h₂ (fun r s₃ h₃=>wpAny_bind (wpAny_letTemporaryGo (wpAny_pure h₃))) fun _ _ x=>x)
 first
  | exact wpAny_pure (wpAny_bind fin)
  | exact wpAny_bind (wpAny_pure (wpAny_bind fin))
  | exact wpAny_bind fin
theorem zao3 {X:Cx}{pins:List (Addr×Obj)}{σ:St}{H:Hp}{s:Shared}{a:Addr}{y:V}{o:Option V}(I:Inv X pins σ H s) (g:DGet H a y o):s.TypeIs (.ref a) "dict":=by
 rcases g with ⟨kvs,k,e,_,_⟩|⟨kvs,k,b,e,_,_,_⟩
 ·obtain⟨_,_,vs,_,dd⟩:=zba7 I.hok e
  exact dd.typeIs
 ·obtain⟨_,_,xs,_,dd⟩:=zbg2 I.hok e
  exact dd.typeIs
def tDGet (td ty:TE):TE:=fun σ H Q=>td σ H fun x H1=>ty σ H1 fun y H2=>∃ a v,x=.ref a/\DGet H2 a y (some v)/\Q v H2
def sDPut (td ty tv:TE):TS:=fun D σ H=>tv σ H fun v H1=>td σ H1 fun x H2=>ty σ H2 fun y H3=>∃ a H4,x=.ref a/\DPut H3 a y v H4/\D.nx σ H4
section
variable {X:Cx}{o i e value:Expr}{pos pos' tpos:Pos}{td ty tv:TE}
theorem zbp8 (hu:X.A.units+1<cLine) (ho:PE X o td) (hi:PE X i ty) (hs:NoSl i):PE X (.Subscript o i pos) (tDGet td ty):=by
 intro pins s σ H Q I h
 refine zbo2 PySem.F.slot_dict_getitem.lookup hs (thn (ho pins s σ H _ I h) fun u s1 ⟨x,H1,I1,rx,q1⟩=>thn (hi pins s1 σ H1 _ I1 q1) fun iv s2 ⟨y,H2,I2,ry,a,v,ex,g,q2⟩=>?_)
 subst ex
 obtain rfl:u=Value.ref a:=rx
 exact⟨zao3 I2 g,zbc9 hu I2 g ry fun w' s3 I3 rw'=>⟨v,H2,I3,rw',q2⟩⟩
theorem zbr1 (hu:X.A.units+1<cLine) (ho:PE X o td) (hi:PE X i ty) (hv:PE X value tv) (hs:swapsWith value (some (.Subscript o i pos')) pos.line X.env=pure false) :
  PS X (.Assign [.Subscript o i pos'] value pos) (sDPut td ty tv):=by
 intro pins s σ H D I h
 refine wpAny_Assign_Subscript (thn (hv pins s σ H _ I h) fun r s1 ⟨v,H1,I1,rv,q1⟩=>thn (ho pins s1 σ H1 _ I1 q1) fun u s2 ⟨x,H2,I2,rx,q2⟩=>thn (hi pins s2 σ H2 _ I2 q2) fun iv s3 ⟨y,H3,I3,ry,a,H4,ex,g,q3⟩=>?_) hs
 subst ex
 obtain rfl:u=Value.ref a:=rx
 exact zay2 hu I3 g ry rv fun s4 I4=>⟨σ,H4,I4,q3⟩
end
theorem zbh5 {P:Program}{w:World}{H:Hp}(h:Heap) (hb:sysModules<h.objs.size):zf7 P w H (h.push { cls:=.type "dict",data:=.dict #[] }) h.objs.size (.dK []):=
 ⟨zcd6 _,beq_eq_false_iff_ne.mpr (Ne.symm (zce2 hb)),[],.nil,Heap.DictOf.new h⟩
theorem zbh1 {P:Program}{w:World}{H:Hp}(h:Heap) (hb:sysModules<h.objs.size):zf7 P w H (h.push { cls:=.type "dict",data:=.dict #[] }) h.objs.size (.dT []):=
 ⟨zcd6 _,beq_eq_false_iff_ne.mpr (Ne.symm (zce2 hb)),[],.nil,_,#[],0,zcd1 _ rfl,⟨rfl,rfl,rfl⟩,rfl,rfl,List.nodup_nil⟩
def tDNewK:TE:=fun _ H Q=>∀ p,H p=none->Q (.ref p) (upd H p (.dK []))
def tDNewT:TE:=fun _ H Q=>∀ p,H p=none->Q (.ref p) (upd H p (.dT []))
section
variable {X:Cx}{pos:Pos}
theorem zbk4:PE X (.Dict [] [] pos) tDNewK:=fun pins s σ H Q I h=>
 wpAny_Dict_empty ⟨.ref s.heap.objs.size,_,I.laid (a:=s.heap.objs.size) (o:=.dK []) (t':=s.toks) (fun _ _ q=>zca8 _ q) (zcb6 _) (zbh5 s.heap I.big),rfl,h _ (I.hok.fresh (zcb6 _))⟩
theorem zbh7:PE X (.Dict [] [] pos) tDNewT:=fun pins s σ H Q I h=>
 wpAny_Dict_empty ⟨.ref s.heap.objs.size,_,I.laid (a:=s.heap.objs.size) (o:=.dT []) (t':=s.toks) (fun _ _ q=>zca8 _ q) (zcb6 _) (zbh1 s.heap I.big),rfl,h _ (I.hok.fresh (zcb6 _))⟩
end
structure M1 (X:Cx) (o:Expr) (m:Str) (apos:Pos) (e:Expr) (cpos:Pos):Prop where
 base:attributeBase o m X.env (eval o X.env)=eval o X.env
 few:((backTo cpos (starEach [e] X.env)).all (fun x=>!x.1)&&(backToKw cpos (keywordEach [] X.env)).all (fun x=>x.1.isSome)
  && decide (([e]:List Expr).length+([]:List Keyword).length+(if ([]:List Keyword).isEmpty then 0 else 1)<30))=true
 line:(apos.endLine==cpos.line)=true
 trees:backTo cpos (starEach [e] X.env)=[(false,eval e X.env)]
structure M2 (X:Cx) (o:Expr) (m:Str) (apos:Pos) (e f:Expr) (cpos:Pos):Prop where
 base:attributeBase o m X.env (eval o X.env)=eval o X.env
 few:((backTo cpos (starEach [e,f] X.env)).all (fun x=>!x.1)&&(backToKw cpos (keywordEach [] X.env)).all (fun x=>x.1.isSome)
  && decide (([e,f]:List Expr).length+([]:List Keyword).length+(if ([]:List Keyword).isEmpty then 0 else 1)<30))=true
 line:(apos.endLine==cpos.line)=true
 trees:backTo cpos (starEach [e,f] X.env)=[(false,eval e X.env),(false,eval f X.env)]
def IsD (H:Hp) (a:Addr):Prop:=(∃ kvs,Rd H a (.dK kvs))∨∃ kvs,Rd H a (.dT kvs)
theorem isD_at {X:Cx}{pins:List (Addr×Obj)}{σ:St}{H:Hp}{s:Shared}{a:Addr}(I:Inv X pins σ H s) (d:IsD H a) :
  s.TypeIs (.ref a) "dict"/\(∀ b,Value.ref a=.ref b->∃ ob,s.heap.get? b=some ob/\ob.dict=none)/\(a==sysModules)=false:=by
 rcases d with ⟨kvs,e⟩|⟨kvs,e⟩
 ·obtain⟨_,hd,vs,_,dd⟩:=zba7 I.hok e
  refine⟨dd.typeIs,fun b q=>?_,hd⟩
  cases q
  obtain⟨ob,_,_,h1,h2,_⟩:=dd
  exact⟨ob,h1,h2.2.1⟩
 ·obtain⟨_,hd,xs,_,dd⟩:=zbg2 I.hok e
  refine⟨dd.typeIs,fun b q=>?_,hd⟩
  cases q
  obtain⟨ob,_,_,h1,h2,_⟩:=dd
  exact⟨ob,h1,h2.2.1⟩
section
variable {X:Cx}{pins:List (Addr×Obj)}{σ:St}{H:Hp}{s:Shared}{a:Addr}{y d:V}{u r:Value}{o:Option V}{A:Around}{E:Value->Shared->Prop}
theorem d_get2 {Q:Value->Shared->Prop}(hu:A.units+1<cLine) (I:Inv X pins σ H s) (g:DGet H a y o) (ry:RelV y u) (rd:RelV d r) (h:∀ w' s',Inv X pins σ H s'->RelV (o.getD d) w'->Q w' s') :
  wpAny (model X.prog X.w) A (call (.builtin "dict.get") [.ref a,u,r]) Q E s:=by
 rcases g with ⟨kvs,k,e,ey,l⟩|⟨kvs,k,b,e,ey,eb,l⟩
 ·subst ey
  obtain⟨z,hd,vs,rel,dd⟩:=zba7 I.hok e
  refine call_meetsIn PySem.F.slot_dict_get dd.typeIs PySem.F.entry_dict_get (PySem.F.args_dict_get_3 _ _ _) (meets_dict_get_default (zj6 X.prog X.w) a (kV_is ry) hd r) ⟨_,dd.mapOf,h _ _ (I.tok _) ?_⟩
  rw[l]
  exact (rel.val k).getD rd
 ·subst ey
  cases (show u=Value.ref b from ry)
  obtain⟨z,hd,xs,rel,dd⟩:=zbg2 I.hok e
  refine call_meetsIn PySem.F.slot_dict_get dd.typeIs PySem.F.entry_dict_get (PySem.F.args_dict_get_3 _ _ _) (meetsH_dict_get_default (tupleKind (zj6 X.prog X.w)) a b hd r) ⟨tupleKind_room_in1 hu,k,xs,zar7 I.hok eb,dd,h _ _ (I.tok _) ?_⟩
  rw[l]
  exact (rel.val k).getD rd
end
def zaz3 (td ty tx:TE):TE:=fun σ H Q=>td σ H fun x H1=>∃ a,x=.ref a/\IsD H1 a/\ty σ H1 fun y H2=>tx σ H2 fun z H3=>∃ o,DGet H3 a y o/\Q (o.getD z) H3
section
variable {X:Cx}{o e f:Expr}{apos cpos:Pos}{td ty tx:TE}
theorem zbj7 (hu:X.A.units+1<cLine) (ho:PE X o td) (he:PE X e ty) (hf:PE X f tx) (m:M2 X o "get" apos e f cpos):PE X (.Call (.Attribute o "get" apos) [e,f] [] cpos) (zaz3 td ty tx):=by
 intro pins s σ H Q I h
 refine wpAny_Call_method m.base m.few m.line PySem.F.plainAttrs_dict PySem.F.slot_dict_get PySem.F.type_dict_get (thn (ho pins s σ H _ I h) fun u s1 ⟨x,H1,I1,rx,a,ex,d,q1⟩=>?_)
 subst ex
 obtain rfl:u=Value.ref a:=rx
 obtain⟨t1,t2,_⟩:=isD_at I1 d
 refine⟨t1,t2,?_⟩
 rw[m.trees]
 refine Calls.callWith_builtin rfl (Calls.evalArgs_plain (Calls.spliced_cons (thn (he pins s1 σ H1 _ I1 q1) fun iv s2 ⟨y,H2,I2,ry,q2⟩=>
  Calls.spliced_cons (thn (hf pins s2 σ H2 _ I2 q2) fun fv s3 ⟨z,H3,I3,rz,ov,g,q3⟩=>Calls.spliced_nil ?_))))
 exact d_get2 hu I3 g ry rz fun w' s4 I4 rw'=>⟨_,H3,I4,rw',q3⟩
end
section
variable {X:Cx}{pins:List (Addr×Obj)}{σ:St}{H:Hp}{s:Shared}{a:Addr}{kvs:List (Key×V)}{A:Around}{E:Value->Shared->Prop}
end
section
variable {X:Cx}{pins:List (Addr×Obj)}{σ:St}{H:Hp}{s:Shared}{a:Addr}{y:V}{u:Value}{A:Around}{E:Value->Shared->Prop}
end
end L2
namespace L2
open PySem PySem.Spec PyProof.Rows
section
variable {κ:Type}[DecidableEq κ]
end
end L2
set_option maxHeartbeats 2000000
namespace L2
open PySem PySem.Spec PyProof.Rows
def RawD (h:Heap) (d:Addr) (es:Array DictEntry) (ep:Nat):Prop:=∃ o,h.get? d=some o/\o.ExactDict/\o.data=.dict es ep
theorem RawD.is {s:Shared}{d:Addr}{es:Array DictEntry}{ep:Nat}(x:RawD s.heap d es ep):s.TypeIs (.ref d) "dict":=let ⟨o,a,b,_⟩:=x;⟨o,a,b.1⟩
theorem RawD.lt {h:Heap}{d:Addr}{es:Array DictEntry}{ep:Nat}(x:RawD h d es ep):d<h.objs.size:=let ⟨_,a,_⟩:=x;zcb7 a
theorem RawD.to {h h':Heap}{d:Addr}{es:Array DictEntry}{ep:Nat}(x:RawD h d es ep) (k:∀ o,h.get? d=some o->h'.get? d=some o):RawD h' d es ep:=let ⟨o,a,r⟩:=x;⟨o,k _ a,r⟩
section
variable {prog:Program}{w:World}{A:Around}{E:Value->Shared->Prop}{s:Shared}{d it:Addr}{es:Array DictEntry}{ep:Nat}
theorem zbi1 {Q:Value->Shared->Prop}(lo:(d==sysModules)=false) (x:RawD s.heap d es ep)
  (q:Q (.ref s.heap.objs.size) { s with heap:=s.heap.push { cls:=.type "dict_keyiterator",data:=.fields #[.ref d,.int 0 0,.int es.size 0,.int ep 0] } }) :
  wpAny (model prog w) A (pyIter (.ref d)) Q E s:=by
 obtain⟨o,x1,x2,x3⟩:=id x
 have tt:=x.is
 refine wpAny_pyIter_slot tt F.slot_dict_iter (wpAny_call_entry F.slot_dict_iter tt F.entry_dict_iter ?_ (F.args_dict_iter_1 _))
 unfold Builtin.«dict.__iter__» Builtin.Dict.dictSlotNone
 refine wpAny_bind (wpAny_bind (wpAny_notOrdered_dict tt ?_))
 show wpAny (model prog w) _ (pure (Value.ref d)) _ _ s
 refine wpAny_pure (?_:_)
 show wpAny (model prog w) _ (Builtin.Dict.showsAll d >>= _) _ _ s
 unfold Builtin.Dict.showsAll
 rw[if_neg (fun z=>zca5 (lo.symm.trans z))]
 refine wpAny_bind (wpAny_pure (wpAny_bind (wpAny_dictEntries x1 x3 (wpAny_bind (wpAny_dictEpoch x1 x3 ?_)))))
 exact wpAny_bind (wpAny_newObj_type (wpAny_pure ⟨_,rfl,"dict_keyiterator",_,⟨_,zcd1 _ rfl,rfl⟩,F.slot_dict_keyiterator_next.lookup,by simpa [rawInt] using q⟩))
theorem zbg4 {i:Nat}{Q:Option Value->Shared->Prop}(y:s.heap.IsKeyIter it d i es.size ep) (x:RawD s.heap d es ep) (hi:i<es.size)
  (q:∀ h',h'.IsKeyIter it d (i+1) es.size ep->Heap.SameBut it s.heap h'->Q (some es[i].key) { s with heap:=h' }) :
  wpAny (model prog w) A (pyNext (.ref it)) Q E s:=by
 obtain⟨o,y1,y2,y3⟩:=id y
 obtain⟨od,x1,x2,x3⟩:=id x
 have own:Builtin.Dict_items.ownsTuple "dict_keyiterator"=false:=by decide
 unfold pyNext
 refine wpAny_bind (wpAny_attempt (wpAny_callSpecial?_slot (name:=Str.ofString "__next__") y.typeIs F.slot_dict_keyiterator_next (wpAny_call_entry F.slot_dict_keyiterator_next y.typeIs F.entry_dict_keyiterator_next ?_ (F.args_dict_keyiterator_next_1 _))))
 refine wpAny_bind (wpAny_pure (wpAny_bind (wpAny_bind ?_)))
 first|refine wpAny_bind (wpAny_typeNameOfWhole_keyiter y.typeIs (wpAny_pure ?_))|refine wpAny_bind (wpAny_typeNameOf_keyiter y.typeIs (wpAny_pure ?_))
 refine wpAny_bind (wpAny_fieldsOf y1 y3 ?_)
 simp only[own,zcg0,if_false]
 show wpAny (model prog w) _ (if (Value.ref d==Value.none)=true then _ else _) _ _ s
 rw[if_neg (show ¬ (Value.ref d==Value.none)=true from zca5)]
 refine wpAny_bind (wpAny_pure (wpAny_bind (wpAny_dictEntries x1 x3 ?_)))
 rw[if_neg (by simp)]
 refine wpAny_bind (wpAny_pure (wpAny_bind (wpAny_dictEpoch x1 x3 ?_)))
 rw[if_neg (by simp)]
 refine wpAny_pure (?_:_)
 simp only[show ¬ ((i:Int)<0) from by omega,if_false,zcf3,Array.getElem?_eq_getElem hi]
 refine wpAny_bind (?_:_)
 first|refine wpAny_bind (wpAny_typeNameOfWhole_keyiter y.typeIs (wpAny_pure ?_))|refine wpAny_bind (wpAny_typeNameOf_keyiter y.typeIs (wpAny_pure ?_))
 refine wpAny_bind (wpAny_isOneOf_keyiter y.typeIs ?_)
 show wpAny (model prog w) _ (setField (.ref it) 1 (rawInt ((i:Int)+1)) >>= _) _ _ s
 refine wpAny_bind (wpAny_setField y1 y3 (by simp) ?_)
 have y':(s.heap.update it (Obj.mapFields (·.setIfInBounds 1 (rawInt ((i:Int)+1))))).IsKeyIter it d (i+1) es.size ep:=
  ⟨_,zcf8 _ y1 (Obj.isFreed_of_fields (Obj.data_mapFields y3 _)),(Obj.cls_mapFields ..).trans y2,by rw[Obj.data_mapFields y3];simp[rawInt]⟩
 refine wpAny_bind (wpAny_holding (wpAny_bind (wpAny_isOneOf_keyiter (s:={ s with heap:=s.heap.update it (Obj.mapFields (·.setIfInBounds 1 (rawInt ((i:Int)+1)))) }) y'.typeIs ?_)))
 show wpAny (model prog w) _ (pure es[i].key) _ _ _
 exact wpAny_pure (wpAny_pure ⟨_,rfl,wpAny_pure (q _ y' (Heap.SameBut.update ..))⟩)
theorem zbq1 {i:Nat}{Q:Option Value->Shared->Prop}(hh:A.handled=none) (y:s.heap.IsKeyIter it d i es.size ep) (x:RawD s.heap d es ep) (hi:es.size<=i)
  (q:∀ h',Heap.ExtBut it s.heap h'->Q none { s with heap:=h' }) :
  wpAny (model prog w) A (pyNext (.ref it)) Q E s:=by
 obtain⟨o,y1,y2,y3⟩:=id y
 obtain⟨od,x1,x2,x3⟩:=id x
 have own:Builtin.Dict_items.ownsTuple "dict_keyiterator"=false:=by decide
 unfold pyNext
 refine wpAny_bind (wpAny_attempt (wpAny_callSpecial?_slot (name:=Str.ofString "__next__") y.typeIs F.slot_dict_keyiterator_next (wpAny_call_entry F.slot_dict_keyiterator_next y.typeIs F.entry_dict_keyiterator_next ?_ (F.args_dict_keyiterator_next_1 _))))
 refine wpAny_bind (wpAny_pure (wpAny_bind (wpAny_bind ?_)))
 first|refine wpAny_bind (wpAny_typeNameOfWhole_keyiter y.typeIs (wpAny_pure ?_))|refine wpAny_bind (wpAny_typeNameOf_keyiter y.typeIs (wpAny_pure ?_))
 refine wpAny_bind (wpAny_fieldsOf y1 y3 ?_)
 simp only[own,zcg0,if_false]
 show wpAny (model prog w) _ (if (Value.ref d==Value.none)=true then _ else _) _ _ s
 rw[if_neg (show ¬ (Value.ref d==Value.none)=true from zca5)]
 refine wpAny_bind (wpAny_pure (wpAny_bind (wpAny_dictEntries x1 x3 ?_)))
 rw[if_neg (by simp)]
 refine wpAny_bind (wpAny_pure (wpAny_bind (wpAny_dictEpoch x1 x3 ?_)))
 rw[if_neg (by simp)]
 refine wpAny_pure (?_:_)
 simp only[show ¬ ((i:Int)<0) from by omega,if_false,zcf3,Array.getElem?_eq_none hi]
 refine wpAny_bind (?_:_)
 first|refine wpAny_bind (wpAny_typeNameOfWhole_keyiter y.typeIs (wpAny_pure ?_))|refine wpAny_bind (wpAny_typeNameOf_keyiter y.typeIs (wpAny_pure ?_))
 show wpAny (model prog w) _ (setField (.ref it) 0 .none >>= _) _ _ s
 refine wpAny_bind (wpAny_setField y1 y3 (by simp) ?_)
 show wpAny (model prog w) _ (newExc (.type "StopIteration") [] >>= _) _ _ _
 refine wpAny_bind (?_:_)
 unfold newExc newTuple
 refine wpAny_bind (wpAny_newObj_type ?_ (zcd6 _))
 refine wpAny_bind (m:=firstArgMember _ _) (wpAny_of_eq (a:=Value.none) (by first|rfl|(unfold firstArgMember;rfl)) ?_)
 refine wpAny_newObj_type ?_ (by size_fits)
 unfold raiseNew
 refine wpAny_bind (wpAny_handled ?_)
 have hn:A.in1.handled=none:=hh
 rw[hn]
 refine wpAny_bind (wpAny_pure (wpAny_throw (?_:_)))
 refine wpAny_bind (wpAny_isInstance (b:=true) (T:="StopIteration") ⟨_,zcd1 _ rfl,rfl⟩ isSubtype_stop ?_)
 exact wpAny_pure (q _ (((Heap.SameBut.update ..).extBut.push _).push _))
theorem zbh3 (hh:A.handled=none) (I:Addr) (ne:d≠I) :
  Walks prog w A I [I,d] [I] es.size (fun i v=>∃ e,es[i]?=some e/\v=e.key) (fun i h=>h.IsKeyIter I d i es.size ep/\RawD h d es ep) where
 sub:=by intro b z;simp at z;simp[z]
 frame:=fun i h h' st k=>⟨st.1.at (k I (by simp)),st.2.to (k d (by simp))⟩
 item:=fun i s Q E hi st q=>zbg4 st.1 st.2 hi fun h' y' hs=>q _ h' s.toks ⟨es[i],by simp[hi],rfl⟩ ⟨y',st.2.to fun o e=>hs.extBut d o ne e⟩ fun b o hb e=>hs.extBut b o (fun z=>hb (by simp[z])) e
 done:=fun s Q E st q=>zbq1 hh st.1 st.2 (zcb6 _) fun h' he=>q h' s.toks fun b o hb e=>he b o (fun z=>hb (by simp[z])) e
 self:=fun i s Q E st q=>wpAny_pyIter_keyiter st.1 q
theorem zbs8 (lo:(d==sysModules)=false):PySem.W.KdlSrc prog w "dict" d d es.size (fun i v=>∃ e,es[i]?=some e/\v=e.key) (fun h=>RawD h d es ep) where
 type:=fun s x=>x.is
 there:=fun h x=>⟨x.lt,x.lt⟩
 keep:=fun h h' x k=>x.to fun o e=>k d (Or.inl rfl) o e
 notList:=rfl
 notTuple:=rfl
 hint:=fun A E s Q x q=>PySem.W.kdl_hint_dict x.is q
 iter:=fun A s hh x=>⟨_,_,(fun E Q q=>zbi1 lo x q),zbh3 hh _ (zce2 x.lt),⟨⟨_,zcd1 _ rfl,rfl,rfl⟩,x.to fun o e=>zca8 _ e⟩⟩
end
end L2
set_option maxHeartbeats 2000000
namespace L2
open PySem PySem.Spec PyProof.Rows PySem.W
section
variable {lt:Nat->Nat->Bool}{n:Nat}
def KW {α:Type}(lt:Nat->Nat->Bool) (n:Nat) (Q:α->Prop):KasT α->Prop
 | .ret a=>Q a
 | .ask i j k=>i<n/\j<n/\KW lt n Q (k (lt i j))
theorem KW.bd {α β:Type}{f:α->KasT β}{Q:β->Prop}:∀ {t:KasT α},KW lt n (fun a=>KW lt n Q (f a)) t->KW lt n Q (t.bind f)
 | .ret _,h=>h
 | .ask _ _ k,⟨h1,h2,h3⟩=>⟨h1,h2,KW.bd (t:=k _) h3⟩
theorem KW.mono {α:Type}{Q Q':α->Prop}(hq:∀ a,Q a->Q' a):∀ {t:KasT α},KW lt n Q t->KW lt n Q' t
 | .ret a,h=>hq a h
 | .ask _ _ k,⟨h1,h2,h3⟩=>⟨h1,h2,KW.mono hq (t:=k _) h3⟩
theorem KW.wp {α:Type}{cmp:Nat->Nat->(Bool->Shared->Prop)->Shared->Prop}{s:Shared}{Q:α->Prop}(hc:∀ i j C,i<n->j<n->C (lt i j) s->cmp i j C s):∀ {t:KasT α},KW lt n Q t->t.kasWp cmp (fun a s'=>s'=s/\Q a) s
 | .ret a,h=>⟨rfl,h⟩
 | .ask i j k,⟨h1,h2,h3⟩=>hc i j _ h1 h2 (KW.wp hc (t:=k _) h3)
def Pm (n:Nat) (p:Array Nat):Prop:=p.toList.Perm (List.range n)
theorem Pm.low {p:Array Nat}(h:Pm n p) (hn:0<n) (i:Nat):p.getD i 0<n:=by
 unfold Array.getD
 split
 ·rename_i hi
  exact zcf4.mp (h.mem_iff.mp (Array.getElem_mem_toList hi))
 ·exact hn
theorem Pm.rev {p:Array Nat}(h:Pm n p) (i j:Nat):Pm n (kas_rev p i j):=(Array.perm_iff_toList_perm.mp (mirror_perm p i j _)).trans h
theorem Pm.bub {p:Array Nat}(h:Pm n p) (i j:Nat):Pm n (bubble p i j):=(Array.perm_iff_toList_perm.mp (bubble_perm p i j)).trans h
end
section
variable {prog:Program}{w:World}{A:Around}{E:Value->Shared->Prop}{s:Shared}
def midH (h:Heap) (a:Addr) (vs:List Value):Heap:=((h.update a (Obj.mapSeq fun _=>#[])).push (seqObj "tuple" vs.toArray 0)).push (seqObj "list" #[] 0)
theorem zbf4 {h:Heap}{a b:Addr}{vs:List Value}{o:Obj}(ne:b≠a) (e:h.get? b=some o):(midH h a vs).get? b=some o:=
 zca8 _ (zca8 _ ((Heap.get?_update_ne _ _ _ _ ne).trans e))
theorem zae8 {h:Heap}{a b:Addr}{vs:List Value}{out:Array Value}{o:Obj}(ne:b≠a) (e:h.get? b=some o):(sortedHeap h a vs out).get? b=some o:=
 (Heap.get?_update_ne _ _ _ _ ne).trans (zbf4 ne e)
theorem zbf5 {h:Heap}{a:Addr}{vs xs:List Value}{n:Nat}(e:h.get? a=some (seqObj "list" xs.toArray n)):∃ c,(midH h a vs).get? a=some (seqObj "list" #[] c)/\(h.update a (Obj.mapSeq fun _=>#[])).get? a=some (seqObj "list" #[] c):=
 ⟨_,zca8 _ (zca8 _ (get?_update_seq e fun _=>#[])),get?_update_seq e fun _=>#[]⟩
theorem zaj3 {h:Heap}{a:Addr}{vs xs:List Value}{n:Nat}{out:Array Value}(e:h.get? a=some (seqObj "list" xs.toArray n)):∃ c,(sortedHeap h a vs out).get? a=some (seqObj "list" out c):=by
 obtain⟨c,h1,_⟩:=zbf5 (vs:=vs) e
 exact⟨_,get?_update_seq h1 fun _=>out⟩
theorem zbq0 {a:Addr}{vs:List Value}{n:Nat}{κ:SortKind}{lt:Nat->Nat->Bool}{R:Array Nat->Prop}{P:PySem.Fin->Shared->Prop}(ho:s.heap.get? a=some (seqObj "list" vs.toArray n)) (h2:2<=vs.length) (h64:vs.length<64)
  (hk:∀ Q:SortKind->Shared->Prop,Q κ { s with heap:=midH s.heap a vs }->wpAny (model prog w) A (keyKind' vs.toArray) Q E { s with heap:=midH s.heap a vs })
  (hc:∀ i j (C:Bool->Shared->Prop),i<vs.length->j<vs.length->C (lt i j) { s with heap:=midH s.heap a vs }->wpAny (model prog w) A (keyLt' κ (vs.getD i Value.none) (vs.getD j Value.none)) C (fun _ _=>False) { s with heap:=midH s.heap a vs })
  (kw:KW lt vs.length R (kas_sort vs.length))
  (h:∀ p:Array Nat,p.size=vs.length->R p->P (.done (.ret .none)) { s with heap:=sortedHeap s.heap a vs (List.toArray (p.toList.map fun i=>vs.getD i Value.none)) }) :
  wpAny (model prog w) A (Builtin.«list.sort» ⟨[.ref a],[]⟩) P E s:=by
 obtain⟨c,m1,m2⟩:=zbf5 (vs:=vs) ho
 have zs:¬ vs.toArray.size<2:=by rw[zca4];omega
 have zl:vs.length<=sizeLine:=by rw[sizeLine_eq];omega
 rw[list_sort_plain]
 refine wpAny_bind (listItems_at ho rfl (wpAny_bind (listUpdate_at ho rfl ?_ (by rw[zca4];exact zl) (zcd6 _))))
 refine wpAny_bind (seqEpoch_at m2 rfl (wpAny_bind (wpAny_newTuple ?_ zl)))
 refine wpAny_bind (wpAny_newList ?_ (zcd6 _))
 refine wpAny_holding (?_:_)
 show wpAny (model prog w) A _ P E { s with heap:=midH s.heap a vs }
 dsimp only
 rw[if_neg zs,if_neg zs]
 refine wpAny_bind (hk _ ?_)
 have run:=kat_run (prog:=prog) (w:=w) (A:=A) (E:=E) (κ:=κ) (ks:=vs) (vs:=vs) (s:={ s with heap:=midH s.heap a vs }) (Q:=fun st' s'=>s'={ s with heap:=midH s.heap a vs }/\∃ p:Array Nat,p.size=vs.length/\R p/\arrOf st'=p.map (kas_item (vs.toArray.zip vs.toArray))/\failedOf st'=none)
  rfl h2 h64 (fun p st' s' b1 b2 b3 b4=>⟨b4.1,p,b1,b4.2,b2,b3⟩) (KW.wp (cmp:=kas_ask prog w A κ vs) (fun i j C li lj hC=>hc i j C li lj hC) kw)
 refine wpAny_bind (wpAny_mono run ?_ fun _ _ e=>e)
 rintro⟨⟨⟩,st'⟩ s' ⟨rfl,p,pz,pR,har,hf⟩
 have out:=kat_snds rfl har
 dsimp only
 rw[out]
 refine wpAny_bind (seqEpoch_at m1 rfl (wpAny_bind (listUpdate_at m1 rfl ?_ (zcd6 _) ?_)))
 ·rw[hf]
  simp only[bne_self_eq_false,zcg0,if_false]
  exact wpAny_pure (h p pz pR)
 ·rw[zca4,zbz7,Array.length_toList,pz]
  omega
theorem zbi0 {a:Addr}{vs:List Value}{n:Nat}{P:PySem.Fin->Shared->Prop}(ho:s.heap.get? a=some (seqObj "list" vs.toArray n)) (h2:vs.length<2)
  (h:P (.done (.ret .none)) { s with heap:=sortedHeap s.heap a vs vs.toArray }):wpAny (model prog w) A (Builtin.«list.sort» ⟨[.ref a],[]⟩) P E s:=by
 obtain⟨c,m1,m2⟩:=zbf5 (vs:=vs) ho
 have zs:vs.toArray.size<2:=by rw[zca4];omega
 have zl:vs.length<=sizeLine:=by rw[sizeLine_eq];omega
 rw[list_sort_plain]
 refine wpAny_bind (listItems_at ho rfl (wpAny_bind (listUpdate_at ho rfl ?_ (by rw[zca4];exact zl) (zcd6 _))))
 refine wpAny_bind (seqEpoch_at m2 rfl (wpAny_bind (wpAny_newTuple ?_ zl)))
 refine wpAny_bind (wpAny_newList ?_ (zcd6 _))
 refine wpAny_holding (?_:_)
 show wpAny (model prog w) A _ P E { s with heap:=midH s.heap a vs }
 dsimp only
 rw[if_pos zs,if_pos zs]
 refine wpAny_bind (wpAny_pure (?_:_))
 rw[StateT.run_pure]
 refine wpAny_bind (wpAny_pure (?_:_))
 dsimp only
 have e:(vs.toArray.zip vs.toArray).map (·.2)=vs.toArray:=by
  apply Array.toList_inj.mp
  simp[List.map_snd_zip]
 show wpAny (model prog w) A (seqEpoch a >>= _) P E _
 refine wpAny_bind (seqEpoch_at m1 rfl (wpAny_bind (listUpdate_at m1 rfl ?_ (zcd6 _) ?_)))
 ·simp only[bne_self_eq_false,zcg0,if_false]
  show wpAny (model prog w) A (ret Value.none) P E { s with heap:=sortedHeap s.heap a vs ((vs.toArray.zip vs.toArray).map (·.2)) }
  rw[e]
  exact wpAny_pure h
 ·show ((vs.toArray.zip vs.toArray).map (·.2)).size<=_
  rw[e,zca4];omega
end
end L2
set_option maxHeartbeats 2000000
namespace L2
open PySem PySem.Spec PyProof.Rows PySem.W
def ltP (x y:Int×Int):Bool:=if (x.1==y.1)=true then (if (x.2==y.2)=true then false else decide (x.2<y.2)) else decide (x.1<y.1)
def TupI (h:Heap) (v:Value) (x:Int×Int):Prop:=∃ a o t u n,v=.ref a/\h.get? a=some o/\o.cls=.type "tuple"/\o.data=.seq #[.int x.1 t,.int x.2 u] n
theorem TupI.to {h h':Heap}{v:Value}{x:Int×Int}(z:TupI h v x) (k:∀ b o,h.get? b=some o->h'.get? b=some o):TupI h' v x:=
 let ⟨a,o,t,u,n,e,e1,r⟩:=z;⟨a,o,t,u,n,e,k _ _ e1,r⟩
section
variable {prog:Program}{w:World}{A:Around}{E:Value->Shared->Prop}{s:Shared}
theorem zbt0 {v v':Value}{x y:Int×Int}{C:Bool->Shared->Prop}(hv:TupI s.heap v x) (hv':TupI s.heap v' y) (h:C (ltP x y) s):wpAny (model prog w) A (keyLt' (tuples' true) v v') C E s:=by
 obtain⟨a,o,t,u,n,rfl,a1,a2,a3⟩:=hv
 obtain⟨b,o',t',u',n',rfl,b1,b2,b3⟩:=hv'
 refine kat_lt a1 a3 b1 b3 ?_
 show KatLex prog w A true false C [(.int x.1 t,.int y.1 t'),(.int x.2 u,.int y.2 u')] 0 s
 unfold ltP at h
 refine kat_cons (wpAny_eqBool_int (kat_go (fun e=>?_) fun e=>?_))
 ·rw[if_pos e] at h
  refine kat_yes (kat_cons (wpAny_eqBool_int (kat_go (fun e2=>?_) fun e2=>?_)))
  ·rw[if_pos e2] at h
   exact kat_yes (kat_nil h)
  ·rw[if_neg (by rw[e2];exact zca5)] at h
   exact kat_no (kat_one _ _ (wpAny_lt_int h))
 ·rw[if_neg (by rw[e];exact zca5)] at h
  exact kat_no (oneLt_int h)
theorem zbf8 {h:Heap}:∀ {vs:List Value},(∀ v∈vs,∃ x,TupI h v x)->∃ fs,KatTups h vs fs/\fs.length=vs.length/\∀ f∈fs,∃ n t,f=Value.int n t
 | [],_=>⟨[],.nil,rfl,fun _ z=>nomatch z⟩
 | v :: vs,H=>by
  obtain⟨fs,a1,a2,a3⟩:=zbf8 (vs:=vs) fun u hu=>H u (.tail _ hu)
  obtain⟨x,a,o,t,u,n,rfl,b1,b2,b3⟩:=H v (.head _)
  refine⟨.int x.1 t :: fs,KatTups.cons b1 b2 b3 rfl a1,congrArg (·+1) a2,fun f hf=>?_⟩
  rcases zcb3.mp hf with rfl|hf
  ·exact⟨_,_,rfl⟩
  ·exact a3 f hf
theorem zaz8 {vs:List Value}{Q:SortKind->Shared->Prop}(H:∀ v∈vs,∃ x,TupI s.heap v x) (h2:2<=vs.length) (h:Q (tuples' true) s):wpAny (model prog w) A (keyKind' vs.toArray) Q E s:=by
 obtain⟨fs,a1,a2,a3⟩:=zbf8 H
 refine kat_kind (T:=.type "int") a1 (by omega) (fun v hv=>?_) rfl h
 obtain⟨n,t,rfl⟩:=a3 v hv
 exact Looks.of_pure rfl
end
end L2
set_option maxHeartbeats 2000000
namespace L2
open PySem PySem.Spec PyProof.Rows PySem.W
section
variable {X:Cx}{K:zbz8}
@[irreducible] def rDG (a:Addr) (y:V) (H:Hp) (Q:VK):Prop:=∃ v,DGet H a y (some v)/\Q v H
def rDGV (x y:V) (H:Hp) (Q:VK):Prop:=match x with
 | .ref a=>rDG a y H Q
 | _=>False
def tDG (td ty:TE):TE:=fun σ H Q=>td σ H fun x H1=>ty σ H1 fun y H2=>rDGV x y H2 Q
theorem tDG_eq (td ty:TE):tDG td ty=tDGet td ty:=by
 funext σ H Q
 unfold tDG tDGet
 congr 1;funext x H1;congr 1;funext y H2
 unfold rDGV
 apply propext
 cases x<;>first
  | (simp only[V.ref.injEq];unfold rDG;exact⟨fun ⟨v,g,q⟩=>⟨_,v,rfl,g,q⟩,fun ⟨a,v,e,g,q⟩=>⟨v,e▸g,q⟩⟩)
  | exact⟨fun z=>z.elim,fun ⟨a,v,e,_⟩=>nomatch e⟩
theorem peDGet {o i:Expr}{td ty:TE}{pos:Pos}(hu:X.A.units+40<cLine) (ho:PE X o td) (hi:PE X i ty) (hs:NoSl i:=by exact fun _ _=>rfl):PE X (.Subscript o i pos) (tDG td ty):=tDG_eq td ty▸zbp8 (by omega) ho hi hs
theorem dgT_rd {a b:Addr}{H:Hp}{Q:VK}{kvs:List (List Key×V)}{k:List Key}{v:V}(e:H a=some (.dT kvs)) (eb:H b=some (.tup (k.map kV))) (ev:valV kvs k=some v) (q:Q v H):rDG a (.ref b) H Q:=by
 unfold rDG
 exact⟨v,ev▸DGet.t e eb,q⟩
@[irreducible] def rIsD (a:Addr) (H:Hp) (P:Prop):Prop:=IsD H a/\P
@[irreducible] def rDG2 (a:Addr) (y z:V) (H:Hp) (Q:VK):Prop:=∃ o,DGet H a y o/\Q (o.getD z) H
def rDG2V (x:V) (H:Hp) (P:Addr->Prop):Prop:=match x with
 | .ref a=>rIsD a H (P a)
 | _=>False
def tDG2 (td ty tx:TE):TE:=fun σ H Q=>td σ H fun x H1=>rDG2V x H1 fun a=>ty σ H1 fun y H2=>tx σ H2 fun z H3=>rDG2 a y z H3 Q
theorem zbp6 (td ty tx:TE):tDG2 td ty tx=zaz3 td ty tx:=by
 funext σ H Q
 unfold tDG2 zaz3
 congr 1;funext x H1
 unfold rDG2V rIsD rDG2
 apply propext
 cases x<;>first
  | (simp only[V.ref.injEq];exact⟨fun z=>⟨_,rfl,z⟩,fun ⟨a,e,z⟩=>e▸z⟩)
  | exact⟨fun z=>z.elim,fun ⟨a,e,_⟩=>nomatch e⟩
theorem zz1 {o e f:Expr}{td ty tx:TE}{apos cpos:Pos}(hu:X.A.units+40<cLine) (ho:PE X o td) (he:PE X e ty) (hf:PE X f tx)
  (m1:attributeBase o "get" X.env (eval o X.env)=eval o X.env:=by rfl)
  (m2:((backTo cpos (starEach [e,f] X.env)).all (fun x=>!x.1)&&(backToKw cpos (keywordEach [] X.env)).all (fun x=>x.1.isSome)&&decide (([e,f]:List Expr).length+([]:List Keyword).length+(if ([]:List Keyword).isEmpty then 0 else 1)<30))=true:=by rfl)
  (m3:(apos.endLine==cpos.line)=true:=by rfl) (m4:backTo cpos (starEach [e,f] X.env)=[(false,eval e X.env),(false,eval f X.env)]:=by rfl):PE X (.Call (.Attribute o "get" apos) [e,f] [] cpos) (tDG2 td ty tx):=
 zbp6 td ty tx▸zbj7 (by omega) ho he hf ⟨m1,m2,m3,m4⟩
theorem zbb3 {a:Addr}{H:Hp}{P:Prop}{kvs:List (List Key×V)}(e:H a=some (.dT kvs)) (p:P):rIsD a H P:=by unfold rIsD;exact⟨.inr ⟨kvs,.inl e⟩,p⟩
theorem zbc6 {a b:Addr}{z:V}{H:Hp}{Q:VK}{kvs:List (List Key×V)}{k:List Key}(e:H a=some (.dT kvs)) (eb:H b=some (.tup (k.map kV))) (q:Q ((valV kvs k).getD z) H):rDG2 a (.ref b) z H Q:=by
 unfold rDG2
 exact⟨_,DGet.t e eb,q⟩
@[irreducible] def rDP (a:Addr) (y v:V) (H:Hp) (N:Hp->Prop):Prop:=∃ H',DPut H a y v H'/\N H'
def rDPV (x y v:V) (H:Hp) (N:Hp->Prop):Prop:=match x with
 | .ref a=>rDP a y v H N
 | _=>False
def sDP (td ty tv:TE):TS:=fun D σ H=>tv σ H fun v H1=>td σ H1 fun x H2=>ty σ H2 fun y H3=>rDPV x y v H3 (D.nx σ)
theorem sDP_eq (td ty tv:TE):sDP td ty tv=sDPut td ty tv:=by
 funext D σ H
 unfold sDP sDPut
 congr 1;funext v H1;congr 1;funext x H2;congr 1;funext y H3
 unfold rDPV
 apply propext
 cases x<;>first
  | (simp only[V.ref.injEq];unfold rDP;exact⟨fun ⟨H',g,q⟩=>⟨_,H',rfl,g,q⟩,fun ⟨a,H',e,g,q⟩=>⟨H',e▸g,q⟩⟩)
  | exact⟨fun z=>z.elim,fun ⟨a,v,e,_⟩=>nomatch e⟩
theorem zas0 {o i value:Expr}{td ty tv:TE}{pos pos':Pos}(hu:X.A.units+40<cLine) (ho:PE X o td) (hi:PE X i ty) (hv:PE X value tv) (hs:swapsWith value (some (.Subscript o i pos')) pos.line X.env=pure false:=by rfl) :
  PS X (.Assign [.Subscript o i pos'] value pos) (sDP td ty tv):=sDP_eq td ty tv▸zbr1 (by omega) ho hi hv hs
theorem zbn3 {a b:Addr}{v:V}{H:Hp}{N:Hp->Prop}{kvs:List (List Key×V)}{k:List Key}(e:H a=some (.dT kvs)) (eb:H b=some (.tup (k.map kV))) (hl:kvs.length<sizeLine) (q:∀ H',Chg a H H'->H' a=some (.dT (putK kvs k v))->N H'):rDP a (.ref b) v H N:=by
 unfold rDP
 exact⟨_,DPut.t e eb hl,q _ Chg.upd zc2⟩
def pK (x:Int×Int):List Key:=[.inl x.1,.inl x.2]
theorem zak3 {α β:Type}{R:α->β->Prop}:∀ {as:List α}{bs:List β},Paired R as bs->∀ (i:Nat) (a:α) (b:β),as[i]?=some a->bs[i]?=some b->R a b:=by
 intro as bs h
 induction h with
 | nil=>intro i a b e;simp at e
 | cons h1 _ ih=>
  intro i a b e1 e2
  cases i with
  | zero=>simp at e1 e2;subst e1;subst e2;exact h1
  | succ j=>simp at e1 e2;exact ih j a b e1 e2
theorem zam4 {α β:Type}{R:α->β->Prop}:∀ {as:List α}{bs:List β},as.length=bs.length->(∀ (i:Nat) (a:α) (b:β),as[i]?=some a->bs[i]?=some b->R a b)->Paired R as bs
 | [],[],_,_=>.nil
 | a :: as,b :: bs,hl,h=>.cons (h 0 a b rfl rfl) (zam4 (Nat.succ.inj hl) fun i x y e1 e2=>h (i+1) x y (by simpa using e1) (by simpa using e2))
end
end L2
set_option maxHeartbeats 2000000
namespace L2
open PySem PySem.Spec PyProof.Rows PySem.W
structure Ord (lt:Nat->Nat->Bool):Prop where
 as:∀ i j,lt i j=true->lt j i=false
 tr:∀ i j k,lt j i=false->lt k j=false->lt k i=false
section
variable {lt:Nat->Nat->Bool}{n:Nat}
def gp (p:Array Nat) (i:Nat):Nat:=p.getD i 0
theorem zbc0 {p q:Array Nat}{i j:Nat}(h:p[i]?=q[j]?):gp p i=gp q j:=by
 unfold gp
 rw[Array.getD_eq_getD_getElem?,Array.getD_eq_getD_getElem?,h]
theorem zu2 {p:Array Nat}{i j:Nat}(hj:j<=p.size) (k:Nat):gp (kas_rev p i j) k=if i<=k/\k<j then gp p (i+j - 1 - k) else gp p k:=by
 have h:=getElem?_mirror_all (xs:=p) (i:=i) hj k
 split
 ·rename_i c;rw[if_pos c] at h;exact zbc0 h
 ·rename_i c;rw[if_neg c] at h;exact zbc0 h
theorem zbl7 {p:Array Nat}{k l:Nat}(hk:k<p.size) (hl:l<=k) (i:Nat):gp (bubble p k (k - l)) i=if i=l then gp p k else if l<i/\i<=k then gp p (i - 1) else gp p i:=by
 have h:=getElem?_bubble hk (k - l) (by omega) i
 rw[show k - (k - l)=l by omega] at h
 split
 ·rename_i c;rw[if_pos c] at h;exact zbc0 h
 ·rename_i c
  rw[if_neg c] at h
  split
  ·rename_i c2;rw[if_pos c2] at h;exact zbc0 h
  ·rename_i c2;rw[if_neg c2] at h;exact zbc0 h
def Up (lt:Nat->Nat->Bool) (p:Array Nat) (k:Nat):Prop:=∀ i j,i<=j->j<k->lt (gp p j) (gp p i)=false
def Dn (lt:Nat->Nat->Bool) (p:Array Nat) (k:Nat):Prop:=∀ i j,i<=j->j<k->lt (gp p i) (gp p j)=false
theorem Ord.rf (O:Ord lt) (i:Nat):lt i i=false:=by
 cases h:lt i i with
 | false=>rfl
 | true=>exact absurd (O.as _ _ h) (by rw[h];exact fun w=>nomatch w)
theorem Up.snoc (O:Ord lt) {p:Array Nat}{k:Nat}(u:Up lt p k) (hk:1<=k) (h:lt (gp p k) (gp p (k - 1))=false):Up lt p (k+1):=fun i j hij hj=>by
 by_cases e:j=k
 ·subst e
  by_cases e2:i=j
  ·subst e2;exact O.rf _
  ·exact O.tr _ _ _ (u i (j - 1) (by omega) (by omega)) h
 ·exact u i j hij (by omega)
theorem Dn.snoc (O:Ord lt) {p:Array Nat}{k:Nat}(u:Dn lt p k) (hk:1<=k) (h:lt (gp p (k - 1)) (gp p k)=false):Dn lt p (k+1):=fun i j hij hj=>by
 by_cases e:j=k
 ·subst e
  by_cases e2:i=j
  ·subst e2;exact O.rf _
  ·exact O.tr _ _ _ h (u i (j - 1) (by omega) (by omega))
 ·exact u i j hij (by omega)
theorem Pm.size {p:Array Nat}(h:Pm n p):p.size=n:=by have:=h.length_eq;rw[Array.length_toList,zch9] at this;exact this
theorem zbd2 (O:Ord lt) (hn:0<n) {p:Array Nat}(h:Pm n p):∀ f m,1<=m->Up lt p m->KW lt n (fun r=>m<=r/\r<=m+f/\Up lt p r/\(r<m+f->lt (gp p r) (gp p (r - 1))=true)) (kas_asc p f m)
 | 0,m,_,u=>⟨zcb6 _,zcb6 _,u,fun z=>absurd z (zch0 _)⟩
 | f+1,m,hm,u=>by
  refine⟨h.low hn _,h.low hn _,?_⟩
  dsimp only
  cases e:lt (p.getD m 0) (p.getD (m - 1) 0) with
  | true=>rw[if_pos rfl];exact⟨zcb6 _,zch2 _ _,u,fun _=>e⟩
  | false=>
   rw[if_neg (by decide)]
   exact KW.mono (fun r hr=>⟨by omega,by omega,hr.2.2.1,fun z=>hr.2.2.2 (by omega)⟩) (zbd2 O hn h f (m+1) (by omega) (u.snoc O hm e))
def Al (lt:Nat->Nat->Bool) (p:Array Nat) (m q:Nat):Prop:=∀ i j,m - (q+1)<=i->i<=j->j<m->lt (gp p j) (gp p i)=false
theorem Dn.al_rev (O:Ord lt) {p:Array Nat}{m q:Nat}(hm:m<=p.size) (hq:q+1<=m) (d:Dn lt p m) (al:Al lt p m q):Dn lt (kas_rev p (m - (q+1)) m) m:=fun i j hij hj=>by
 rw[zu2 hm,zu2 hm]
 by_cases ci:m - (q+1)<=i/\i<m
 ·rw[if_pos ci,if_pos ⟨by omega,hj⟩]
  exact al _ _ (by omega) (by omega) (by omega)
 ·rw[if_neg ci]
  split
  ·exact d i _ (by omega) (by omega)
  ·exact d i j hij hj
theorem zah1 (O:Ord lt) (hn:0<n):∀ f (p:Array Nat) m q,Pm n p->m+f<=n->q+1<=m->Dn lt p m->Al lt p m q->KW lt n (fun r=>Pm n r.1/\m<=r.2.1/\r.2.1<=m+f/\r.2.2+1<=r.2.1/\Dn lt r.1 r.2.1/\Al lt r.1 r.2.1 r.2.2) (kas_desc f p m q)
 | 0,p,m,q,h,hf,hq,d,al=>⟨h,zcb6 _,zcb6 _,hq,d,al⟩
 | f+1,p,m,q,h,hf,hq,d,al=>by
  have hz:=h.size
  refine⟨h.low hn _,h.low hn _,?_⟩
  dsimp only
  cases e:lt (p.getD m 0) (p.getD (m - 1) 0) with
  | true=>
   rw[if_pos rfl]
   have al0:∀ p':Array Nat,Al lt p' (m+1) 0:=fun p' i j h1 h2 h3=>by
    have:i=j:=by omega
    subst this;exact O.rf _
   split
   ·rename_i q0
    refine KW.mono (fun r hr=>⟨hr.1,by omega,by omega,hr.2.2.2⟩) (zah1 O hn f _ (m+1) 0 (h.rev _ _) (by omega) (by omega) ?_ (al0 _))
    refine (d.al_rev O (by omega) hq al).snoc O (by omega) ?_
    rw[zu2 (by omega),zu2 (by omega),if_pos (by omega),if_neg (by omega),show m - (q+1)+m - 1 - (m - 1)=m - (q+1) by omega]
    exact O.tr _ _ _ (O.as _ _ e) (d _ _ (by omega) (by omega))
   ·exact KW.mono (fun r hr=>⟨hr.1,by omega,by omega,hr.2.2.2⟩) (zah1 O hn f p (m+1) 0 h (by omega) (by omega) (d.snoc O (by omega) (O.as _ _ e)) (al0 _))
  | false=>
   rw[if_neg (by decide)]
   refine⟨h.low hn _,h.low hn _,?_⟩
   dsimp only
   cases e2:lt (p.getD (m - 1) 0) (p.getD m 0) with
   | true=>rw[if_pos rfl];exact⟨h,zcb6 _,zch2 _ _,hq,d,al⟩
   | false=>
    rw[if_neg (by decide)]
    refine KW.mono (fun r hr=>⟨hr.1,by omega,by omega,hr.2.2.2⟩) (zah1 O hn f p (m+1) (q+1) h (by omega) (by omega) (d.snoc O (by omega) e2) ?_)
    intro i j h1 h2 h3
    by_cases ej:j=m
    ·subst ej
     by_cases ei:i=j
     ·subst ei;exact O.rf _
     ·exact O.tr _ _ _ (al i (j - 1) (by omega) (by omega) (by omega)) e
    ·exact al i j (by omega) h2 (by omega)
theorem Dn.rev {p:Array Nat}{m:Nat}(hm:m<=p.size) (d:Dn lt p m):Up lt (kas_rev p 0 m) m:=fun i j hij hj=>by
 rw[zu2 hm,zu2 hm,if_pos (by omega),if_pos (by omega)]
 exact d _ _ (by omega) (by omega)
theorem zax7 (O:Ord lt) (hn:0<n) {m:Nat}{p:Array Nat}(h:Pm n p) (hm:m<=n) (m1:1<=m) (d:Dn lt p m):KW lt n (fun x=>Pm n x.2/\1<=x.1/\x.1<=n/\Up lt x.2 x.1) (kas_tail3 m n p):=
 KW.bd (KW.mono (fun r hr=>⟨h.rev 0 m,by omega,by omega,hr.2.2.1⟩) (zbd2 O hn (h.rev 0 m) (n - m) m m1 (d.rev (by rw[h.size];exact hm))))
theorem zba1 (O:Ord lt) (hn:0<n) {m:Nat}{p:Array Nat}(h:Pm n p) (hm:m+1<=n) (d:Dn lt p (m+1)):KW lt n (fun x=>Pm n x.2/\1<=x.1/\x.1<=n/\Up lt x.2 x.1) (kas_descPart m n p):=by
 refine KW.bd (KW.mono (fun r hr=>?_) (zah1 O hn (n - (m+1)) p (m+1) 0 h (by omega) (by omega) d fun i j h1 h2 h3=>?_))
 ·obtain⟨r1,r2,r3,r4,r5,r6⟩:=hr
  split
  ·exact zax7 O hn (r1.rev _ _) (by omega) (by omega) (r5.al_rev O (by rw[Pm.size r1];omega) r4 r6)
  ·exact zax7 O hn r1 (by omega) (by omega) r5
 ·have:i=j:=by omega
  subst this;exact O.rf _
theorem zbk0 (O:Ord lt) (hn:0<n) {p:Array Nat}(h:Pm n p):KW lt n (fun x=>Pm n x.2/\1<=x.1/\x.1<=n/\Up lt x.2 x.1) (kas_count n p):=by
 have u1:Up lt p 1:=fun i j h1 h2=>by
  have:i=j:=by omega
  subst this;exact O.rf _
 refine KW.bd (KW.mono (fun r hr=>?_) (zbd2 O hn h (n - 1) 1 (zcb6 _) u1))
 obtain⟨r1,r2,r3,r4⟩:=hr
 by_cases c:(r==n)=true
 ·rw[if_pos c]
  exact⟨h,r1,by omega,r3⟩
 ·rw[if_neg c]
  have rn:r<n:=by
   have:r≠n:=fun z=>c (by rw[z];exact beq_self_eq_true n)
   omega
  by_cases c2:r>1
  ·rw[if_pos c2]
   refine⟨h.low hn _,h.low hn _,?_⟩
   dsimp only
   cases e:lt (p.getD 0 0) (p.getD (r - 1) 0) with
   | true=>rw[if_pos rfl];exact⟨h,r1,by omega,r3⟩
   | false=>
    rw[if_neg (by decide)]
    have hz:r<=p.size:=by rw[Pm.size h];omega
    have st:=r4 (by omega)
    refine zba1 O hn (h.rev 0 r) (by omega) (Dn.snoc O (fun i j hij hj=>?_) (by omega) ?_)
    ·rw[zu2 hz,zu2 hz,if_pos (by omega),if_pos (by omega)]
     exact r3 _ _ (by omega) (by omega)
    ·rw[zu2 hz,zu2 hz,if_pos (by omega),if_neg (by omega),show 0+r - 1 - (r - 1)=0 by omega]
     exact O.tr _ _ _ (O.as _ _ st) e
  ·rw[if_neg c2]
   have r0:r=1:=by omega
   subst r0
   have st:=r4 (by omega)
   exact zba1 O hn h (by omega) (Dn.snoc O (fun i j hij hj=>by
    have:i=j:=by omega
    subst this;exact O.rf _) (zcb6 _) (O.as _ _ st))
theorem zah4 (O:Ord lt) (hn:0<n) {p:Array Nat}(h:Pm n p) (k:Nat) (u:Up lt p k):∀ f l r,l<=r->r<=k->r<=l+f->(∀ i,i<l->lt (gp p k) (gp p i)=false)->(∀ i,r<=i->i<k->lt (gp p k) (gp p i)=true) ->
  KW lt n (fun x=>x<=k/\(∀ i,i<x->lt (gp p k) (gp p i)=false)/\∀ i,x<=i->i<k->lt (gp p k) (gp p i)=true) (kas_place p k f l r)
 | 0,l,r,h1,h2,h3,a,b=>by
  have:r=l:=by omega
  subst this
  exact⟨h2,a,b⟩
 | f+1,l,r,h1,h2,h3,a,b=>by
  unfold kas_place
  by_cases c:l≥r
  ·rw[if_pos c]
   have:r=l:=by omega
   subst this
   exact⟨h2,a,b⟩
  ·rw[if_neg c]
   refine⟨h.low hn _,h.low hn _,?_⟩
   dsimp only
   cases e:lt (p.getD k 0) (p.getD ((l+r) / 2) 0) with
   | true=>
    rw[if_pos rfl]
    refine zah4 O hn h k u f l ((l+r) / 2) (by omega) (by omega) (by omega) a fun i hi hk=>?_
    cases e2:lt (gp p k) (gp p i) with
    | true=>rfl
    | false=>
     have:=O.tr _ _ _ (u ((l+r) / 2) i hi hk) (show lt (gp p k) (gp p i)=false from e2)
     rw[show lt (gp p k) (gp p ((l+r) / 2))=true from e] at this
     cases this
   | false=>
    rw[if_neg (by decide)]
    refine zah4 O hn h k u f ((l+r) / 2+1) r (by omega) h2 (by omega) (fun i hi=>?_) b
    exact O.tr _ _ _ (u i ((l+r) / 2) (by omega) (by omega)) e
theorem up_bub (O:Ord lt) {p:Array Nat}{k l:Nat}(hk:k<p.size) (u:Up lt p k) (hl:l<=k) (a:∀ i,i<l->lt (gp p k) (gp p i)=false) (b:∀ i,l<=i->i<k->lt (gp p k) (gp p i)=true):Up lt (bubble p k (k - l)) (k+1):=fun i j hij hj=>by
 rw[zbl7 hk hl,zbl7 hk hl]
 by_cases ci:i=l
 ·rw[if_pos ci]
  by_cases cj:j=l
  ·rw[if_pos cj];exact O.rf _
  ·rw[if_neg cj,if_pos (by omega)]
   exact O.as _ _ (b (j - 1) (by omega) (by omega))
 ·rw[if_neg ci]
  by_cases cj:j=l
  ·rw[if_pos cj,if_neg (by omega)]
   exact a i (by omega)
  ·rw[if_neg cj]
   by_cases di:l<i/\i<=k
   ·rw[if_pos di,if_pos (by omega)]
    exact u _ _ (by omega) (by omega)
   ·rw[if_neg di]
    by_cases dj:l<j/\j<=k
    ·rw[if_pos dj]
     exact u _ _ (by omega) (by omega)
    ·rw[if_neg dj]
     exact u _ _ hij (by omega)
theorem zbn2 (O:Ord lt) (hn:0<n):∀ f (p:Array Nat) k,Pm n p->k+f=n->Up lt p k->KW lt n (fun p'=>Pm n p'/\Up lt p' n) (kas_bin f p k)
 | 0,p,k,h,e,u=>by
  have:k=n:=by omega
  subst this
  exact⟨h,u⟩
 | f+1,p,k,h,e,u=>by
  refine KW.bd (KW.mono (fun l hl=>?_) (zah4 O hn h k u k 0 k (zcd6 _) (zcb6 _) (by omega) (fun i hi=>absurd hi (Nat.not_lt_zero _)) fun i h1 h2=>absurd h2 (by omega)))
  exact zbn2 O hn f _ (k+1) (h.bub _ _) (by omega) (up_bub O (by rw[Pm.size h];omega) u hl.1 hl.2.1 hl.2.2)
theorem zbr8 (O:Ord lt) (hn:0<n):KW lt n (fun p=>Pm n p/\Up lt p n) (kas_sort n):=by
 have h0:Pm n (List.toArray (List.range n)):=List.Perm.refl _
 refine KW.bd (KW.mono (fun r hr=>?_) (zbk0 O hn h0))
 obtain⟨r1,r2,r3,r4⟩:=hr
 by_cases c:r.1<n
 ·rw[if_pos c,show max r.1 1=r.1 by omega]
  exact zbn2 O hn _ _ _ r1 (by omega) r4
 ·rw[if_neg c]
  have e:r.1=n:=by omega
  exact⟨r1,e▸r4⟩
end
end L2
set_option maxHeartbeats 2000000
namespace L2
open PySem PySem.Spec PyProof.Rows PySem.W
theorem zu4 {x y:Int×Int}:ltP x y=true↔x.1<y.1∨(x.1=y.1/\x.2<y.2):=by
 unfold ltP
 by_cases e:x.1=y.1
 ·rw[if_pos (beq_iff_eq.mpr e)]
  by_cases e2:x.2=y.2
  ·rw[if_pos (beq_iff_eq.mpr e2)]
   exact⟨(fun h=>by cases h),fun h=>by omega⟩
  ·rw[if_neg (fun h=>e2 (beq_iff_eq.mp h)),decide_eq_true_iff]
   exact⟨fun h=>.inr ⟨e,h⟩,fun h=>by omega⟩
 ·rw[if_neg (fun h=>e (beq_iff_eq.mp h)),decide_eq_true_iff]
  exact⟨fun h=>.inl h,fun h=>by omega⟩
theorem zac5 {x y:Int×Int}:ltP x y=false↔¬ (x.1<y.1∨(x.1=y.1/\x.2<y.2)):=by
 rw[← zu4]
 cases ltP x y<;>simp
theorem ord_P (xs:Nat->Int×Int):Ord (fun i j=>ltP (xs i) (xs j)) where
 as:=fun i j h=>by
  have h:=zu4.mp h
  exact zac5.mpr (by omega)
 tr:=fun i j k h1 h2=>by
  have h1:=zac5.mp h1
  have h2:=zac5.mp h2
  exact zac5.mpr (by omega)
section
variable {prog:Program}{w:World}{A:Around}{E:Value->Shared->Prop}{s:Shared}
theorem zbb4 {D:Addr}{vs:List Value}{xs:Nat->Int×Int}{P:PySem.Fin->Shared->Prop}(ho:s.heap.get? D=some (seqObj "list" vs.toArray 0)) (h64:vs.length<64)
  (H:∀ i,i<vs.length->TupI s.heap (vs.getD i Value.none) (xs i))
  (h:∀ (p:List Nat) (c:Nat) (hF:Heap),p.Perm (List.range vs.length)->p.Pairwise (fun i j=>ltP (xs j) (xs i)=false)->(∀ b o,b≠D->s.heap.get? b=some o->hF.get? b=some o)->hF.get? D=some (seqObj "list" (List.toArray (p.map fun i=>vs.getD i Value.none)) c)->P (.done (.ret .none)) { s with heap:=hF }) :
  wpAny (model prog w) A (Builtin.«list.sort» ⟨[.ref D],[]⟩) P E s:=by
 by_cases h2:vs.length<2
 ·refine zbi0 ho h2 ?_
  obtain⟨c,hc⟩:=zaj3 (vs:=vs) (out:=vs.toArray) ho
  refine h (List.range vs.length) c _ (List.Perm.refl _) ?_ (fun b o ne e=>zae8 ne e) ?_
  ·have:vs.length=0∨vs.length=1:=by omega
   rcases this with e|e<;>rw[e]
   ·exact List.Pairwise.nil
   ·exact List.pairwise_singleton _ _
  ·rw[hc]
   have e:(List.range vs.length).map (fun i=>vs.getD i Value.none)=vs:=by
    apply zci3 (by simp)
    intro i h1 h2
    simp at h1 h2
    simp[h2]
   rw[e]
 ·have old:∀ v,v∈vs->∃ i,i<vs.length/\vs.getD i Value.none=v:=fun v hv=>by
   obtain⟨i,hi,e⟩:=zci0.mp hv
   exact⟨i,hi,by simp[hi,e]⟩
  have nD:∀ {v:Value}{x:Int×Int},TupI s.heap v x->TupI (midH s.heap D vs) v x:=fun {v x} z=>by
   obtain⟨a,o,t,u,n,e,e1,e2,e3⟩:=z
   refine⟨a,o,t,u,n,e,zbf4 (fun q=>?_) e1,e2,e3⟩
   rw[q,ho] at e1
   cases e1
   have e2':Value.type "list"=Value.type "tuple":=e2
   exact absurd e2' (by decide)
  refine zbq0 (κ:=tuples' true) (lt:=fun i j=>ltP (xs i) (xs j)) ho (by omega) h64 (fun Q q=>zaz8 (s:={ s with heap:=midH s.heap D vs }) (fun v hv=>?_) (by omega) q) (fun i j C li lj q=>zbt0 (s:={ s with heap:=midH s.heap D vs }) (nD (H i li)) (nD (H j lj)) q) (zbr8 (ord_P xs) (by omega)) fun p pz pR=>?_
  ·obtain⟨i,hi,rfl⟩:=old v hv
   exact⟨_,nD (H i hi)⟩
  ·obtain⟨c,hc⟩:=zaj3 (vs:=vs) (out:=List.toArray (p.toList.map fun i=>vs.getD i Value.none)) ho
   refine h p.toList c _ pR.1 ?_ (fun b o ne e=>zae8 ne e) hc
   rw[List.pairwise_iff_getElem]
   intro i j hi hj hij
   rw[Array.length_toList] at hi hj
   have:=pR.2 i j (Nat.le_of_lt hij) (by omega)
   unfold gp at this
   simpa [Array.getD,hi,hj] using this
theorem zao9 {d:Addr}{es:Array DictEntry}{ep:Nat}{xs:Nat->Int×Int}{Q:Value->Shared->Prop}(lo:(d==sysModules)=false) (hh:A.handled=none) (x:RawD s.heap d es ep) (h64:es.size<64)
  (H:∀ i e,es[i]?=some e->TupI s.heap e.key (xs i))
  (h:∀ (h1 hF:Heap) (tk c:Nat) (p:List Nat) (vs:List Value),(∀ b o,s.heap.get? b=some o->h1.get? b=some o)->(∀ b o,h1.get? b=some o->hF.get? b=some o)->p.Perm (List.range es.size)->p.Pairwise (fun i j=>ltP (xs j) (xs i)=false)->vs=es.toList.map (·.key) ->
   hF.get? h1.objs.size=some (seqObj "list" (List.toArray (p.map fun i=>vs.getD i Value.none)) c)->Q (.ref h1.objs.size) { s with heap:=hF,toks:=tk }) :
  wpAny (model prog w) A (call (.builtin "sorted") [.ref d]) Q E s:=by
 have zl:es.size<=sizeLine:=by rw[sizeLine_eq];omega
 refine Calls.call_function_entry kind_sorted plain_sorted entry_sorted (args_sorted1 _) ?_
 unfold Builtin.«sorted»
 refine wpAny_bind (m:=checkCount "sorted" 1 1 _) (wpAny_pure (wpAny_bind (kdu_collect (A:=A.in1) (zbs8 lo) hh x zl fun h1 tk acc k1 it=>?_)))
 have len:acc.toList.length=es.size:=by rw[Array.length_toList];exact it.1
 have ev:acc.toList=es.toList.map (·.key):=by
  apply zci3 (by rw[len,zbz7,Array.length_toList])
  intro i a1 a2
  rw[Array.length_toList] at a1
  obtain⟨e,e1,e2⟩:=it.2 i acc[i] (by simp[a1])
  simp only[Array.getElem_toList,List.getElem_map]
  rw[e2]
  obtain⟨q1,q2⟩:=Array.getElem?_eq_some_iff.mp e1
  rw[← q2]
 refine wpAny_bind (wpAny_newList ?_ (by rw[len];exact zl))
 have hD:(h1.push (seqObj "list" acc.toList.toArray 0)).get? h1.objs.size=some (seqObj "list" acc.toList.toArray 0):=zcd1 _ rfl
 show wpAny (model prog w) _ _ _ _ { s with heap:=h1.push (seqObj "list" acc.toList.toArray 0),toks:=tk }
 refine wpAny_bind (wpAny_holding (wpAny_call_entry slot_list_sort ⟨_,hD,rfl⟩ entry_list_sort (zbb4 (xs:=xs) (s:={ s with heap:=h1.push (seqObj "list" acc.toList.toArray 0),toks:=tk }) hD (by rw[len];exact h64) (fun i hi=>?_) fun p c hF pp po kF eF=>⟨_,rfl,?_⟩) (args_list_sort _)))
 ·rw[len] at hi
  have z:=(H i es[i] (by simp[hi])).to k1
  have e:acc.toList.getD i Value.none=es[i].key:=by rw[ev];simp[hi]
  rw[e]
  exact z.to fun b o q=>zca8 _ q
 ·refine wpAny_pure ⟨_,rfl,h h1 hF tk c p acc.toList k1 (fun b o e=>kF b o (zce2 (zcb7 e)) (zca8 _ e)) (by rw[← len];exact pp) po ev eF⟩
end
section
variable {X:Cx}{K:zbz8}
def OrdK (ks:List (Int×Int)):Prop:=ks.Nodup/\ks.Pairwise (fun x y=>ltP x y=true)
@[irreducible] def rSoO (a:Addr) (H:Hp) (Q:VK):Prop:=∃ kvs:List ((Int×Int)×V),H a=some (.dT (kvs.map fun z=>(pK z.1,z.2)))/\kvs.length<64 /\
 ∀ p H' (bs:List Addr) (ks:List (Int×Int)),H p=none->Same H H'->ks.Perm (kvs.map (·.1))->OrdK ks->Paired (fun b x=>H' b=some (.tup [.int x.1,.int x.2])) bs ks->H' p=some (.lst (bs.map V.ref))->Q (.ref p) H'
def rSoOM:List V->Hp->VK->Prop:=fun xs H Q=>match xs with
 | [.ref p]=>rSoO p H Q
 | _=>False
theorem soO_rd {a:Addr}{H:Hp}{Q:VK}{kvs:List ((Int×Int)×V)}(h:H a=some (.dT (kvs.map fun z=>(pK z.1,z.2)))) (hl:kvs.length<64)
  (q:∀ p H' (bs:List Addr) (ks:List (Int×Int)),H p=none->Same H H'->ks.Perm (kvs.map (·.1))->OrdK ks->Paired (fun b x=>H' b=some (.tup [.int x.1,.int x.2])) bs ks->H' p=some (.lst (bs.map V.ref))->Q (.ref p) H'):rSoO a H Q:=by unfold rSoO;exact⟨kvs,h,hl,q⟩
theorem zbo3 {ks:List (Int×Int)}(nd:ks.Nodup) (h:ks.Pairwise (fun x y=>ltP y x=false)):OrdK ks:=by
 refine⟨nd,?_⟩
 refine List.Pairwise.imp (fun {x y} z=>?_) (List.Pairwise.and nd h)
 have z2:=zac5.mp z.2
 refine zu4.mpr ?_
 have ne:¬ (x.1=y.1/\x.2=y.2):=fun w=>z.1 (Prod.ext w.1 w.2)
 omega
theorem cSortO (hc:X.calm=true):zn4 X (.builtin "sorted") rSoOM:=fun pins s σ H xs us Q I r h=>by
 unfold rSoOM at h
 split at h
 ·rename_i p
  unfold rSoO at h
  obtain⟨kvs,h1,h2,h3⟩:=h
  obtain⟨u1,rfl,rx⟩:=zae0 r
  cases rx
  obtain⟨zl,lo,ys,kt,o,es,ep,e1,e2,e3,e4,e5⟩:=dt_of I.hok h1
  have lk:ys.length=kvs.length:=by have:=Paired.length kt;rw[zbz7] at this;exact this.symm
  have le:es.size=kvs.length:=by rw[← Array.length_toList,e4,zbz7,lk]
  have at_:∀ i,(hi:i<kvs.length)->∃ b v,ys[i]?=some (pK kvs[i].1,b,v)/\H b=some (.tup [.int kvs[i].1.1,.int kvs[i].1.2]):=fun i hi=>by
   have hy:i<ys.length:=lk▸hi
   have z:=zak3 kt i (pK kvs[i].1,kvs[i].2) ys[i] (by simp[hi]) (by simp[hy])
   refine⟨ys[i].2.1,ys[i].2.2,?_,z.2.1⟩
   rw[zbz6 hy]
   have z1:pK kvs[i].1=ys[i].1:=z.1
   rw[z1]
  have ke:∀ i e,es[i]?=some e->∃ hi:i<kvs.length,∃ b v,ys[i]?=some (pK kvs[i].1,b,v)/\e.key=.ref b/\H b=some (.tup [.int kvs[i].1.1,.int kvs[i].1.2]):=fun i e q=>by
   obtain⟨q1,q2⟩:=Array.getElem?_eq_some_iff.mp q
   have hi:i<kvs.length:=le▸q1
   obtain⟨b,v,y1,y2⟩:=at_ i hi
   refine⟨hi,b,v,y1,?_,y2⟩
   rw[← Array.getElem?_toList,e4,zca1,y1] at q
   simp only[Option.map_some,Option.some.injEq] at q
   rw[← q];rfl
  refine zao9 (xs:=fun i=>((kvs.map (·.1))[i]?).getD (0,0)) lo (I.ok.hd hc) (d:=p) (es:=es) (ep:=ep) ⟨o,e1,e2,e3⟩ (by omega) (fun i e q=>?_) fun h' hF tk c pm vs k1 kF pp po ev eF=>?_
  ·obtain⟨hi,b,v,_,q2,q3⟩:=ke i e q
   obtain⟨_,its,rv,ob,b1,b2,n,b3⟩:=(show zf7 X.prog X.w H s.heap b (.tup [.int kvs[i].1.1,.int kvs[i].1.2]) from I.hok b _ q3)
   obtain⟨v1,v2,rfl,w1,w2⟩:=zbf1 rv
   obtain⟨t1,rfl⟩:=w1
   obtain⟨t2,rfl⟩:=w2
   have ex:((kvs.map (·.1))[i]?).getD (0,0)=kvs[i].1:=by simp[hi]
   rw[ex,q2]
   exact⟨b,ob,t1,t2,n,rfl,b1,b2,b3⟩
  ·have hp:p<s.heap.objs.size:=zcb7 e1
   have I1:Inv X pins σ H { s with heap:=h',toks:=tk }:=I.kept k1
   have fr:H h'.objs.size=none:=I1.fresh
   let as:List Addr:=pm.map fun i=>((ys[i]?).map (·.2.1)).getD 0
   have mem:∀ i,i∈pm->i<kvs.length:=fun i hi=>by have:=zcf4.mp (pp.mem_iff.mp hi);omega
   have vals:(pm.map fun i=>vs.getD i Value.none)=as.map Value.ref:=by
    rw[zcc8]
    refine zce1 fun i hi=>?_
    have hi':=mem i hi
    have hes:i<es.size:=by omega
    obtain⟨_,b,v,y1,y2,_⟩:=ke i es[i] (by simp[hes])
    rw[ev]
    simp[hes,y1,y2]
   have rl:Vals (as.map V.ref) (as.map Value.ref):=by
    generalize as=l
    induction l with
    | nil=>exact .nil
    | cons a l ih=>exact .cons rfl ih
   have lz:as.length<=sizeLine:=by
    show (pm.map _).length<=_
    rw[zbz7,pp.length_eq,zch9,sizeLine_eq];omega
   refine⟨.ref _,_,I1.laid (h':=hF) (t':=tk) (o:=.lst (as.map V.ref)) kF (zcb6 _) ?_,rfl,h3 _ _ as (pm.map fun i=>((kvs.map (·.1))[i]?).getD (0,0)) fr (Same.upd fr) ?_ (zbo3 ?_ ?_) ?_ zc2⟩
   ·exact⟨by rw[zbz7];exact lz,as.map Value.ref,c,rl,by rw[eF,vals]⟩
   ·have e:(List.range kvs.length).map (fun i=>((kvs.map (·.1))[i]?).getD (0,0))=kvs.map (·.1):=by
     apply zci3 (by simp)
     intro i a1 a2
     simp at a1
     simp[a1]
    have q:=(show pm.Perm (List.range kvs.length) from le▸pp).map fun i=>((kvs.map (·.1))[i]?).getD (0,0)
    rw[e] at q
    exact q
   ·have e:(List.range kvs.length).map (fun i=>((kvs.map (·.1))[i]?).getD (0,0))=kvs.map (·.1):=by
     apply zci3 (by simp)
     intro i a1 a2
     simp at a1
     simp[a1]
    have q:=(show pm.Perm (List.range kvs.length) from le▸pp).map fun i=>((kvs.map (·.1))[i]?).getD (0,0)
    rw[e] at q
    refine q.nodup_iff.mpr ?_
    have nk:((kvs.map fun z=>(pK z.1,z.2)).map (·.1)).Nodup:=by
     have:(kvs.map fun z=>(pK z.1,z.2)).map (·.1)=ys.map (·.1):=by
      apply zci3 (by rw[zbz7,zbz7,zbz7,lk])
      intro i a1 a2
      rw[zbz7,zbz7] at a1
      obtain⟨b,v,y1,_⟩:=at_ i a1
      have hy:i<ys.length:=lk▸a1
      rw[zbz6 hy] at y1
      simp only[List.getElem_map]
      rw[Option.some.inj y1]
     rw[this];exact e5.2
    rw[zcc8] at nk
    have:(kvs.map (Prod.fst∘fun z=>(pK z.1,z.2)))=(kvs.map (·.1)).map pK:=by rw[zcc8];rfl
    rw[this] at nk
    exact List.Pairwise.of_map pK (fun a b h e=>h (by rw[e])) nk
   ·rw[List.pairwise_map]
    exact po
   ·refine zam4 (by rw[zbz7,zbz7]) fun i a x q1 q2=>?_
    rw[zca1] at q1 q2
    obtain⟨j,j1,j2⟩:=zca6.mp q1
    rw[j1] at q2
    have hj:=mem j (zca0 j1)
    obtain⟨b,v,y1,y2⟩:=at_ j hj
    rw[y1] at j2
    have j3:b=a:=j2
    have ex:kvs[j].1=x:=by simpa [hj] using q2
    rw[← j3,← ex]
    exact (Same.upd fr) b _ y2
 ·exact h.elim
end
end L2
set_option maxHeartbeats 4000000
namespace L2
open PySem PySem.Spec PyProof.Rows
section
variable {X:Cx}{K:zbz8}{H:Hp}{Q:VK}
end
section
variable {X:Cx}{pins:List (Addr×Obj)}{σ:St}{H:Hp}{s:Shared}
end
end L2
set_option maxHeartbeats 4000000
namespace L2
open PySem PySem.Spec PyProof.Rows
mutual
inductive ShV (H:Hp):V->PyData->Prop
 | non:ShV H .non .none
 | bl (b:Bool):ShV H (.bl b) (.bool b)
 | int (i:Int):ShV H (.int i) (.int i)
 | str (x:Str):ShV H (.str x) (.str x)
 | lst {a:Addr}{xs:List V}{ds:List PyData}:H a=some (.lst xs)->ShL H xs ds->ShV H (.ref a) (.list ds)
 | tup {a:Addr}{xs:List V}{ds:List PyData}:H a=some (.tup xs)->ShL H xs ds->ShV H (.ref a) (.tuple ds)
inductive ShL (H:Hp):List V->List PyData->Prop
 | nil:ShL H [] []
 | cons {x:V}{d:PyData}{xs:List V}{ds:List PyData}:ShV H x d->ShL H xs ds->ShL H (x :: xs) (d :: ds)
end
section
variable {X:Cx}{pins:List (Addr×Obj)}{σ:St}{H H':Hp}{s:Shared}{Q:VK}
mutual
theorem ShV.same {v:V}{d:PyData}(h:ShV H v d) (k:Same H H'):ShV H' v d:=match h with
 | .non=>.non
 | .bl b=>.bl b
 | .int i=>.int i
 | .str x=>.str x
 | .lst e l=>.lst (k _ _ e) (l.same k)
 | .tup e l=>.tup (k _ _ e) (l.same k)
theorem ShL.same {xs:List V}{ds:List PyData}(h:ShL H xs ds) (k:Same H H'):ShL H' xs ds:=match h with
 | .nil=>.nil
 | .cons a b=>.cons (a.same k) (b.same k)
end
theorem ShL.len {xs:List V}{ds:List PyData}(h:ShL H xs ds):xs.length=ds.length:=match h with
 | .nil=>rfl
 | .cons _ b=>by rw[zcd0,zcd0,b.len]
mutual
theorem ShV.reads (I:Inv X pins σ H s) {v:V}{d:PyData}{u:Value}(h:ShV H v d) (r:RelV v u):∃ as,Reads s.heap u d as:=match h with
 | .non=>by cases (show u=Value.none from r);exact⟨_,.none⟩
 | .bl b=>by cases (show u=Value.bool b from r);exact⟨_,.bool b⟩
 | .int i=>by obtain⟨t,q⟩:=(show ∃ t,u=Value.int i t from r);cases q;exact⟨_,.int i t⟩
 | .str x=>by obtain⟨t,q⟩:=(show ∃ t,u=Value.str x t from r);cases q;exact⟨_,.str x t⟩
 | .lst (a:=a) (xs:=xs) e l=>by
  cases (show u=Value.ref a from r)
  obtain⟨_,us,n,rv,h1⟩:=(show zf7 X.prog X.w H s.heap a (.lst xs) from I.hok a _ e)
  obtain⟨as,ra⟩:=l.reads I rv
  exact⟨_,.list h1 rfl rfl (by simpa using ra)⟩
 | .tup (a:=a) (xs:=xs) e l=>by
  cases (show u=Value.ref a from r)
  obtain⟨_,us,rv,o,h1,h2,n,h3⟩:=(show zf7 X.prog X.w H s.heap a (.tup xs) from I.hok a _ e)
  obtain⟨as,ra⟩:=l.reads I rv
  exact⟨_,.tuple h1 h2 h3 (by simpa using ra)⟩
theorem ShL.reads (I:Inv X pins σ H s) {xs:List V}{ds:List PyData}{us:List Value}(h:ShL H xs ds) (r:Vals xs us):∃ as,ReadsAll s.heap us ds as:=match h,r with
 | .nil,.nil=>⟨_,.nil⟩
 | .cons a b,.cons r1 r2=>by
  obtain⟨as,ra⟩:=a.reads I r1
  obtain⟨bs,rb⟩:=b.reads I r2
  exact⟨_,.cons ra rb⟩
end
structure zp4 (d:PyData) (k m:Nat):Prop where
 ok:d.showable=true
 nd:d.hasDict=false
 dp:d.depth<=k
 ln:d.shown.length<=m
theorem zp4.up {d:PyData}{k m k' m':Nat}(h:zp4 d k m) (h1:k<=k') (h2:m<=m'):zp4 d k' m':=⟨h.ok,h.nd,zce6 h.dp h1,zce6 h.ln h2⟩
theorem zag8 {k m:Nat}:∀ {ds:List PyData},(∀ d∈ds,zp4 d k m)->PyData.showableAll ds=true/\PyData.hasDictAll ds=false/\PyData.depthAll ds<=k/\piled (PyData.shownAll ds)<=ds.length*(m+2)
 | [],_=>⟨rfl,rfl,zcd6 _,by simp[PyData.shownAll,piled]⟩
 | d :: ds,h=>by
  have h0:=h d (.head _)
  obtain⟨a1,a2,a3,a4⟩:=zag8 (ds:=ds) fun x hx=>h x (.tail _ hx)
  refine⟨by simp[PyData.showableAll,h0.ok,a1],by simp[PyData.hasDictAll,h0.nd,a2],?_,?_⟩
  ·have:=h0.dp
   simp only[PyData.depthAll]
   omega
  ·have:=h0.ln
   simp only[PyData.shownAll,piled_cons,zcd0,Nat.succ_mul]
   omega
theorem zab2:∀ (ts:List Str) (k:Nat) (acc:Str),(textFrom k acc ts).length<=acc.length+piled ts
 | [],_,acc=>by simp[textFrom,piled]
 | t :: ts,k,acc=>by
  have ih:=zab2 ts (k+1) (acc++(if k>0 then ", " else "":String)++t)
  have e:(acc++(if k>0 then ", " else "":String)++t).length=acc.length+(if k>0 then 2 else 0)+t.length:=by
   rw[strLen_append,strLen_append]
   congr 2
   split<;>rfl
  rw[piled_cons]
  show (textFrom (k+1) _ ts).length<=_
  rw[e] at ih
  have e2:(if k>0 then 2 else 0)<=2:=by split<;>omega
  omega
theorem zp4.list {ds:List PyData}{k m:Nat}(h:∀ d∈ds,zp4 d k m):zp4 (.list ds) (k+1) (ds.length*(m+2)+2):=by
 obtain⟨a1,a2,a3,a4⟩:=zag8 h
 refine⟨by simpa [PyData.showable] using a1,by simpa [PyData.hasDict] using a2,by simp only[PyData.depth];omega,?_⟩
 have:=zab2 (PyData.shownAll ds) 0 "["
 have e1:((("[":String):Str)).length=1:=rfl
 have e2:((("]":String):Str)).length=1:=rfl
 simp only[PyData.shown,listText,strLen_append]
 omega
theorem zp4.tuple {ds:List PyData}{k m:Nat}(h:∀ d∈ds,zp4 d k m):zp4 (.tuple ds) (k+1) (ds.length*(m+2)+4):=by
 obtain⟨a1,a2,a3,a4⟩:=zag8 h
 refine⟨by simpa [PyData.showable] using a1,by simpa [PyData.hasDict] using a2,by simp only[PyData.depth];omega,?_⟩
 have e1:((("(":String):Str)).length=1:=rfl
 have e3:((if (PyData.shownAll ds).length==1 then ",)" else ")":String):Str).length<=2:=by split<;>decide
 have e4:(Str.join ", " (PyData.shownAll ds)).length<=piled (PyData.shownAll ds):=by
  by_cases z:PyData.shownAll ds=[]
  ·rw[z];decide
  ·have:=join_length_add _ z;omega
 simp only[PyData.shown,tupleText,strLen_append]
 omega
theorem zp4.int {i:Int}(h:-(10 ^ 100)<=i) (h':i<=10 ^ 100):zp4 (.int i) 0 1921:=by
 have hl:i.natAbs.log2<1920:=by
  by_cases z:i.natAbs=0
  ·rw[z];decide
  ·rw[Nat.log2_lt z]
   have h1:i.natAbs<=10 ^ 100:=by omega
   exact Nat.lt_of_le_of_lt h1 (by decide +kernel)
 exact⟨by simpa [PyData.showable] using hl,rfl,by simp[PyData.depth],by simpa only [PyData.shown] using PyProof.Rows.int_text_len_1921 hl⟩
theorem zp4.non:zp4 .none 0 4:=⟨rfl,rfl,by simp[PyData.depth],by decide⟩
theorem ShL.of {xs:List V}(f:V->PyData) (h:∀ x∈xs,ShV H x (f x)):ShL H xs (xs.map f):=by
 induction xs with
 | nil=>exact .nil
 | cons x xs ih=>exact .cons (h x (.head _)) (ih fun y hy=>h y (.tail _ hy))
end
end L2
set_option maxHeartbeats 4000000
namespace L2
open PySem PySem.Spec PyProof.Rows
mutual
def sml:PyData->Bool
 | .none | .bool _ | .int _ | .str _=>true
 | .list xs | .tuple xs=>decide (xs.length<=1000)&&zaf6 xs
 | .dict _=>false
def zaf6:List PyData->Bool
 | []=>true
 | x :: xs=>sml x&&zaf6 xs
end
theorem zs6:∀ {ds:List PyData},(∀ d∈ds,sml d=true)->zaf6 ds=true
 | [],_=>rfl
 | d :: ds,h=>by simp[zaf6,h d (.head _),zs6 fun x hx=>h x (.tail _ hx)]
theorem zaf1:∀ {ds:List PyData},zaf6 ds=true->∀ d∈ds,sml d=true
 | [],_,d,h=>by cases h
 | x :: ds,h,d,hd=>by
  simp only[zaf6,zcb1] at h
  rcases zcb3.mp hd with rfl|hd
  ·exact h.1
  ·exact zaf1 h.2 d hd
section
variable {H H':Hp}{K:zbz8}{Q:VK}
theorem ShL.idx:∀ {xs:List V}{ds:List PyData},xs.length=ds.length->(∀ (i:Nat) x d,xs[i]?=some x->ds[i]?=some d->ShV H x d)->ShL H xs ds
 | [],[],_,_=>.nil
 | [],_ :: _,h,_=>by simp at h
 | _ :: _,[],h,_=>by simp at h
 | x :: xs,d :: ds,h,k=>.cons (k 0 x d rfl rfl) (ShL.idx (by simpa using h) fun i y e h1 h2=>k (i+1) y e (by simpa using h1) (by simpa using h2))
theorem ShL.get:∀ {xs:List V}{ds:List PyData}(_:ShL H xs ds) (i:Nat) (x:V),xs[i]?=some x->∃ d,ds[i]?=some d/\ShV H x d
 | _,_,.nil,i,x,e=>by simp at e
 | _,_,.cons a b,0,x,e=>by cases (show some _=some x from e);exact⟨_,rfl,a⟩
 | _,_,.cons a b,i+1,x,e=>by
  obtain⟨d,e1,e2⟩:=ShL.get b i x (by simpa using e)
  exact⟨d,by simpa using e1,e2⟩
theorem ShL.ex {P:PyData->Prop}:∀ {xs:List V},(∀ x∈xs,∃ d,ShV H x d/\P d)->∃ ds,ShL H xs ds/\∀ d∈ds,P d
 | [],_=>⟨[],.nil,fun _ h=>by cases h⟩
 | x :: xs,h=>by
  obtain⟨d,h1,h2⟩:=h x (.head _)
  obtain⟨ds,h3,h4⟩:=ShL.ex (xs:=xs) fun y hy=>h y (.tail _ hy)
  refine⟨d :: ds,.cons h1 h3,fun e he=>?_⟩
  rcases zcb3.mp he with rfl|he
  ·exact h2
  ·exact h4 e he
def Rda (H:Hp) (v:V) (k m:Nat):Prop:=∃ d,ShV H v d/\sml d=true/\zp4 d k m
theorem Rda.up {v:V}{k m k' m':Nat}(h:Rda H v k m) (h1:k<=k':=by omega) (h2:m<=m':=by omega):Rda H v k' m':=by obtain⟨d,a,b,c⟩:=h;exact⟨d,a,b,c.up h1 h2⟩
theorem Rda.int {i:Int}(h:-(10 ^ 100)<=i) (h':i<=10 ^ 100):Rda H (.int i) 0 1921:=⟨_,.int i,rfl,zp4.int h h'⟩
theorem Rda.non:Rda H .non 0 1921:=⟨_,.non,rfl,zp4.non.up (by omega) (by omega)⟩
theorem Rda.lst {a:Addr}{xs:List V}{k m:Nat}(e:H a=some (.lst xs)) (l:xs.length<=1000) (h:∀ x∈xs,Rda H x k m):Rda H (.ref a) (k+1) (xs.length*(m+2)+4):=by
 obtain⟨ds,h1,h2⟩:=ShL.ex (P:=fun d=>sml d=true/\zp4 d k m) h
 have hl:=h1.len
 refine⟨.list ds,.lst e h1,?_,?_⟩
 ·simp only[sml,zcb1,decide_eq_true_eq]
  exact⟨by omega,zs6 fun d hd=>(h2 d hd).1⟩
 ·have:=zp4.list (ds:=ds) (k:=k) (m:=m) fun d hd=>(h2 d hd).2
  rw[hl]
  exact this.up (zcb6 _) (by omega)
theorem Rda.tup {a:Addr}{xs:List V}{k m:Nat}(e:H a=some (.tup xs)) (l:xs.length<=1000) (h:∀ x∈xs,Rda H x k m):Rda H (.ref a) (k+1) (xs.length*(m+2)+4):=by
 obtain⟨ds,h1,h2⟩:=ShL.ex (P:=fun d=>sml d=true/\zp4 d k m) h
 have hl:=h1.len
 refine⟨.tuple ds,.tup e h1,?_,?_⟩
 ·simp only[sml,zcb1,decide_eq_true_eq]
  exact⟨by omega,zs6 fun d hd=>(h2 d hd).1⟩
 ·have:=zp4.tuple (ds:=ds) (k:=k) (m:=m) fun d hd=>(h2 d hd).2
  rw[hl]
  exact this
def isD (n:String):PyData->Bool
 | .none=>false
 | .bool _=>n=="bool" || n=="int"
 | .int _=>n=="int"
 | .str _=>n=="str"
 | .list _=>n=="list"
 | .tuple _=>n=="tuple"
 | .dict _=>n=="dict"
theorem zp2 {v:V}{d:PyData}{n:String}(h:ShV H v d) (hn:n="int"∨n="bool"∨n="list"∨n="tuple") (q:Q (.bl (isD n d)) H):zs3 K v (.ty n) H Q:=by
 rcases hn with rfl|rfl|rfl|rfl<;>cases h
 all_goals first
  | exact zbo5 q (by rfl)
  | exact zah2 q (by rfl)
  | exact zag1 q (by rfl)
  | exact zbt1 q (by rfl)
  | (rename_i e l;exact zah9 e q (by rfl))
  | (rename_i e l;exact zag6 e q (by rfl))
end
theorem zv9 {X:Cx}{e:Expr}{te:TE}(h:PE X e te):PEI X e te:=by unfold PEI;exact h
end L2
set_option maxHeartbeats 4000000
namespace L2
open PySem PySem.Spec PyProof.Rows
section
variable {X:Cx}{K:zbz8}{H:Hp}{Q:VK}
@[irreducible] def rInA (K:zbz8) (neg:Bool) (x:V) (p:Addr) (H:Hp) (Q:VK):Prop:=∃ xs,(SqL K H p xs∨SqT K H p xs)/\zk9 x=true/\xs.all zk9=true/\Q (.bl (if neg then !inV x xs else inV x xs)) H
def rInM (K:zbz8) (neg:Bool):R2:=fun x y H Q=>match y with
 | .ref p=>rInA K neg x p H Q
 | _=>False
theorem oInK (hK:X.K=K):OpR X (compareOp .In) (rInM K false):=by
 subst hK
 intro pins s σ H x y v u Q I rx ry h
 unfold rInM at h
 split at h
 ·unfold rInA at h
  obtain⟨xs,h1,h2,h3,h4⟩:=h
  exact zbe0 pins s σ H _ _ v u Q I rx ry ⟨_,xs,rfl,h1,h2,h3,h4⟩
 ·exact h.elim
theorem inL_rd {x:V}{p:Addr}{xs:List V}(h:SqL K H p xs) (h1:zk9 x=true) (h2:xs.all zk9=true) (q:Q (.bl (inV x xs)) H):rInA K false x p H Q:=by unfold rInA;exact⟨xs,.inl h,h1,h2,q⟩
theorem zbf7 (bs:List Bool):inV (.bl false) (bs.map V.bl)=!(bs.all id):=by
 induction bs with
 | nil=>rfl
 | cons b bs ih=>
  have:inV (.bl false) ((b :: bs).map V.bl)=(eqV (.bl b) (.bl false) || inV (.bl false) (bs.map V.bl)):=rfl
  rw[this,ih,List.all_cons]
  cases b<;>simp[eqV,id]
end
end L2
set_option maxHeartbeats 4000000
namespace L2
open PySem PySem.Spec PyProof.Rows PySem.W
section
variable {X:Cx}{K:zbz8}{H:Hp}{Q:VK}
@[irreducible] def rDNE (H:Hp) (Q:VK):Prop:=(∀ p H',H p=none->Same H H'->H' p=some (.dT [])->Q (.ref p) H')∨∀ p H',H p=none->Same H H'->H' p=some (.dK [])->Q (.ref p) H'
def tDNE:TE:=fun _ H Q=>rDNE H Q
theorem zai5 {pos:Pos}:PE X (.Dict [] [] pos) tDNE:=fun pins s σ H Q I h=>by
 unfold tDNE rDNE at h
 rcases h with h|h
 ·exact zbh7 (pos:=pos) pins s σ H Q I fun p hp=>h p _ hp (Same.upd hp) zc2
 ·exact zbk4 (pos:=pos) pins s σ H Q I fun p hp=>h p _ hp (Same.upd hp) zc2
theorem zbl8 (q:∀ p H',H p=none->Same H H'->H' p=some (.dT [])->Q (.ref p) H'):rDNE H Q:=by unfold rDNE;exact .inl q
theorem zay8 (q:∀ p H',H p=none->Same H H'->H' p=some (.dK [])->Q (.ref p) H'):rDNE H Q:=by unfold rDNE;exact .inr q
theorem zao4 {a:Addr}{P:Prop}{kvs:List (Key×V)}(e:H a=some (.dK kvs)) (p:P):rIsD a H P:=by unfold rIsD;exact⟨.inl ⟨kvs,.inl e⟩,p⟩
theorem zaq2 {a:Addr}{i:Int}{z:V}{kvs:List (Key×V)}(e:H a=some (.dK kvs)) (q:Q ((valV kvs (.inl i)).getD z) H):rDG2 a (.int i) z H Q:=by
 unfold rDG2
 exact⟨_,DGet.k (k:=.inl i) e,q⟩
theorem zaz6 {a:Addr}{i:Int}{v:V}{N:Hp->Prop}{kvs:List (Key×V)}(e:H a=some (.dK kvs)) (hl:kvs.length<sizeLine) (q:∀ H',Chg a H H'->H' a=some (.dK (putK kvs (.inl i) v))->N H'):rDP a (.int i) v H N:=by
 unfold rDP
 exact⟨_,DPut.k (k:=.inl i) e hl,q _ Chg.upd zc2⟩
def dI (kv:List (Int×Int)):List (Key×V):=kv.map fun z=>(.inl z.1,.int z.2)
def valI (kv:List (Int×Int)) (i:Int):Option Int:=(kv.find? fun z=>decide (z.1=i)).map (·.2)
theorem zba4 (i:Int):∀ kv:List (Int×Int),valV (dI kv) (.inl i)=(valI kv i).map V.int
 | []=>rfl
 | z :: kv=>by
  by_cases e:z.1=i
  ·show valV (((.inl z.1:Key),V.int z.2) :: dI kv) (.inl i)=_
   rw[zv0 (by exact congrArg Sum.inl e)]
   unfold valI
   rw[zcf6,decide_eq_true e];rfl
  ·show valV (((.inl z.1:Key),V.int z.2) :: dI kv) (.inl i)=_
   rw[zv6 (by exact fun q=>e (Sum.inl.inj q)),zba4 i kv]
   unfold valI
   rw[zcf6,decide_eq_false e]
def eqDI (ka kb:List (Int×Int)):Bool:=ka.length==kb.length&&ka.all fun z=>valI kb z.1==some z.2
theorem zaq4 {A:Around}{s:Shared}{kb:List (Int×Int)}{ws:List (Key×Value)}(rb:KV (dI kb) ws):∀ {ka:List (Int×Int)}{vs:List (Key×Value)},KV (dI ka) vs->KeqHits A s ws vs (ka.all fun z=>valI kb z.1==some z.2)
 | [],vs,r=>by
  unfold KV dI at r
  cases r
  exact .nil
 | z :: ka,vs,r=>by
  unfold KV dI at r
  rw[zcd9] at r
  cases r with
  | @cons p q ps qs h t=>
   obtain⟨h1,h2⟩:=h
   obtain⟨k,v⟩:=q
   cases (show (Sum.inl z.1:Key)=k from h1)
   have val:=rb.val (.inl z.1)
   rw[zba4] at val
   rw[List.all_cons]
   cases e:valI kb z.1 with
   | none=>
    rw[e] at val
    have:valueAt ws (.inl z.1)=none:=by
     cases w:valueAt ws (.inl z.1) with
     | none=>rfl
     | some y=>rw[w] at val;exact val.elim
    have f:((none:Option Int)==some z.2)=false:=rfl
    rw[f,Bool.false_and]
    exact .miss this
   | some n=>
    rw[e] at val
    obtain⟨y,ey,ry⟩:∃ y,valueAt ws (.inl z.1)=some y/\RelV (.int n) y:=by
     cases w:valueAt ws (.inl z.1) with
     | none=>rw[w] at val;exact val.elim
     | some y=>rw[w] at val;exact⟨y,rfl,val⟩
    have q:=zbb6 (A:=A) (s:=s) (show RelV (.int z.2) v from h2) ry rfl rfl
    have e2:eqV (.int z.2) (.int n)=(some n==some z.2):=by
     by_cases d:z.2=n
     ·subst d;simp[eqV]
     ·have d':¬ n=z.2:=fun x=>d x.symm
      show (z.2==n)=(some n==some z.2)
      rw[beq_eq_false_iff_ne.mpr d]
      exact (beq_eq_false_iff_ne.mpr fun x=>d' (Option.some.inj x)).symm
    rw[e2] at q
    exact .hit ey q (zaq4 rb t)
@[irreducible] def rEqX (K:zbz8) (x y:V) (H:Hp) (Q:VK):Prop:=
 (∃ a b n c,x=.ref a/\y=.ref b/\n<=40/\EqR K H n (.ref a) (.ref b) c/\Q (.bl c) H) ∨
 (∃ a b ka kb,x=.ref a/\y=.ref b/\H a=some (.dK (dI ka))/\H b=some (.dK (dI kb))/\Q (.bl (eqDI ka kb)) H) ∨
 ∃ d e,ShV H x d/\ShV H y e/\d.canLay0=true/\e.canLay0=true/\d.depth<=40/\Q (.bl (PyData.eqv d e)) H
def zbd7 (K:zbz8):R2:=fun x y H Q=>match x,y with
 | .int i,.int j=>Q (.bl (decide (i=j))) H
 | .bl i,.bl j=>Q (.bl (decide (i=j))) H
 | .str i,.str j=>Q (.bl (decide (i=j))) H
 | x,y=>rEqX K x y H Q
def rNeXM (K:zbz8):R2:=fun x y H Q=>zbd7 K x y H fun v H'=>match v with
 | .bl b=>Q (.bl (!b)) H'
 | _=>False
theorem oEqX (hu:X.A.units+40<cLine):OpR X (compareOp .Eq) (zbd7 X.K):=by
 intro pins s σ H x y v u Q I rx ry h
 unfold zbd7 at h
 split at h
 ·exact zan6 pins s σ H _ _ v u Q I rx ry ⟨rfl,by rw[zn3 (f:=V.int) fun a b e=>V.int.inj e];exact h⟩
 ·exact zan6 pins s σ H _ _ v u Q I rx ry ⟨rfl,by rw[zn3 (f:=V.bl) fun a b e=>V.bl.inj e];exact h⟩
 ·exact zan6 pins s σ H _ _ v u Q I rx ry ⟨rfl,by rw[zn3 (f:=V.str) fun a b e=>V.str.inj e];exact h⟩
 ·unfold rEqX at h
  rcases h with ⟨a,b,n,c,rfl,rfl,hn,h1,h2⟩|⟨a,b,ka,kb,rfl,rfl,ea,eb,h⟩|⟨d,e,hd,he,cd,ce,dd,h⟩
  ·cases rx
   cases ry
   exact EqR.rc I h1 (A:=X.A) (by omega) _ _ _ _ ⟨.bl c,H,I,rfl,h2⟩
  ·cases rx
   cases ry
   obtain⟨_,sa,vs,ra,da⟩:=zbe4 I.hok ea
   obtain⟨_,sb,ws,rb,db⟩:=zbe4 I.hok eb
   refine keq_eq sa sb da db (by omega) (fun _=>zaq4 rb ra) ⟨.bl (eqDI ka kb),H,I,?_,h⟩
   have la:vs.length=ka.length:=by rw[← ra.length];unfold dI;rw[zbz7]
   have lb:ws.length=kb.length:=by rw[← rb.length];unfold dI;rw[zbz7]
   rw[la,lb]
   rfl
  ·obtain⟨as,r1⟩:=hd.reads I rx
   obtain⟨bs,r2⟩:=he.reads I ry
   exact SeqAt.compareEq_reads r1 r2 cd ce (by have:=Nat.min_le_left d.depth e.depth;omega) ⟨.bl (PyData.eqv d e),H,I,rfl,h⟩
theorem oNeX (hu:X.A.units+40<cLine):OpR X (compareOp .NotEq) (rNeXM X.K):=by
 intro pins s σ H x y v u Q I rx ry h
 unfold rNeXM zbd7 at h
 split at h
 ·exact zap2 pins s σ H _ _ v u Q I rx ry ⟨rfl,by rw[zn3 (f:=V.int) fun a b e=>V.int.inj e];exact h⟩
 ·exact zap2 pins s σ H _ _ v u Q I rx ry ⟨rfl,by rw[zn3 (f:=V.bl) fun a b e=>V.bl.inj e];exact h⟩
 ·exact zap2 pins s σ H _ _ v u Q I rx ry ⟨rfl,by rw[zn3 (f:=V.str) fun a b e=>V.str.inj e];exact h⟩
 ·unfold rEqX at h
  rcases h with ⟨a,b,n,c,rfl,rfl,hn,h1,h2⟩|⟨a,b,ka,kb,rfl,rfl,ea,eb,h⟩|⟨d,e,hd,he,cd,ce,dd,h⟩
  ·cases rx
   cases ry
   exact EqR.rcNe I h1 (A:=X.A) (by omega) _ _ _ _ ⟨.bl (!c),H,I,rfl,h2⟩
  ·cases rx
   cases ry
   obtain⟨_,sa,vs,ra,da⟩:=zbe4 I.hok ea
   obtain⟨_,sb,ws,rb,db⟩:=zbe4 I.hok eb
   refine keq_ne sa sb da db (by omega) (fun _=>zaq4 rb ra) ⟨.bl (!eqDI ka kb),H,I,?_,h⟩
   have la:vs.length=ka.length:=by rw[← ra.length];unfold dI;rw[zbz7]
   have lb:ws.length=kb.length:=by rw[← rb.length];unfold dI;rw[zbz7]
   rw[la,lb]
   rfl
  ·obtain⟨as,r1⟩:=hd.reads I rx
   obtain⟨bs,r2⟩:=he.reads I ry
   exact SeqAt.compareNe_reads r1 r2 cd ce (by have:=Nat.min_le_left d.depth e.depth;omega) ⟨.bl (!PyData.eqv d e),H,I,rfl,h⟩
theorem zar8 {a b:Addr}{n:Nat}{c:Bool}(h:EqR K H n (.ref a) (.ref b) c) (q:Q (.bl c) H) (hn:n<=40:=by decide):rEqX K (.ref a) (.ref b) H Q:=by unfold rEqX;exact .inl ⟨a,b,n,c,rfl,rfl,hn,h,q⟩
theorem zbn0 {a b:Addr}{ka kb:List (Int×Int)}(ea:H a=some (.dK (dI ka))) (eb:H b=some (.dK (dI kb))) (q:Q (.bl (eqDI ka kb)) H):rEqX K (.ref a) (.ref b) H Q:=by unfold rEqX;exact .inr (.inl ⟨a,b,ka,kb,rfl,rfl,ea,eb,q⟩)
theorem zaj2 {x y:V}{d e:PyData}(hd:ShV H x d) (he:ShV H y e) (cd:d.canLay0=true) (ce:e.canLay0=true) (dd:d.depth<=40) (q:Q (.bl (PyData.eqv d e)) H):rEqX K x y H Q:=by unfold rEqX;exact .inr (.inr ⟨d,e,hd,he,cd,ce,dd,q⟩)
end
end L2
set_option maxHeartbeats 4000000
namespace L2
open PySem PySem.Spec PyProof.Rows PySem.W
theorem zbc2 (l b:Addr) (x y:Int×Int) (t u t' u':Tok) (n n2:Nat) (dd dd2:Option Addr) (sl sl2:Array (Option Value)) :
  Meets (Builtin.«tuple.__lt__» ⟨[.ref l,.ref b],[]⟩)
   (fun A R s=>s.heap.get? l=some { cls:=.type "tuple",dict:=dd,data:=.seq #[.int x.1 t,.int x.2 u] n,slots:=sl }/\s.heap.get? b=some { cls:=.type "tuple",dict:=dd2,data:=.seq #[.int y.1 t',.int y.2 u'] n2,slots:=sl2 } /\
    R (.ok (.ret (.bool (ltP x y)))) s):=
 .of_wp fun prog w A R s h=>by
  obtain⟨hp,g,d,tk,os⟩:=s;obtain⟨hl,hb,h⟩:=h
  have f2:=AutoSeq1.sub_tuple_tuple
  wp_walk using wpAny_loadPart' hl,wpAny_loadPart' hb,wpAny_forIn_list _ (fun rest b s'=>b.1=none/\s'=⟨hp,g,d,tk,os⟩/\(rest=[(.int x.1 t,.int y.1 t'),(.int x.2 u,.int y.2 u')]∨(x.1=y.1/\rest=[(.int x.2 u,.int y.2 u')])∨(x.1=y.1/\x.2=y.2/\rest=[]))) _
  case turn=>
   rintro⟨p,q⟩ rest b s' ⟨hb',rfl,hz⟩
   rcases hz with hz|⟨e0,hz⟩|⟨_,_,hz⟩
   ·cases hz
    refine wpAny_bind (wpAny_eqBool_int ?_)
    cases e:(x.1==y.1)
    ·have h':R (Except.ok (Flow.ret (Value.bool (decide (x.1<y.1))))) ⟨hp,g,d,tk,os⟩:=by
      unfold ltP at h
      rw[if_neg (by rw[e];exact zca5)] at h
      exact h
     simp only[Bool.not_false,if_true]
     refine wpAny_bind (wpAny_rule ?_)
     refine wpAny_bind ((lt_int (Q:=_) ?_:wpAny _ _ (compareOp .Lt _ _) _ _ _))
     wp_walk
     exact⟨_,rfl,h'⟩
    ·wp_walk
     exact⟨rfl,rfl,.inr (.inl ⟨by simpa using e,rfl⟩)⟩
   ·cases hz
    refine wpAny_bind (wpAny_eqBool_int ?_)
    cases e:(x.2==y.2)
    ·have h':R (Except.ok (Flow.ret (Value.bool (decide (x.2<y.2))))) ⟨hp,g,d,tk,os⟩:=by
      unfold ltP at h
      rw[if_pos (by rw[e0];exact beq_self_eq_true _),if_neg (by rw[e];exact zca5)] at h
      exact h
     simp only[Bool.not_false,if_true]
     refine wpAny_bind (wpAny_rule ?_)
     refine wpAny_bind ((lt_int (Q:=_) ?_:wpAny _ _ (compareOp .Lt _ _) _ _ _))
     wp_walk
     exact⟨_,rfl,h'⟩
    ·wp_walk
     exact⟨rfl,rfl,.inr (.inr ⟨e0,by simpa using e,rfl⟩)⟩
   ·cases hz
  case fin=>
   rintro⟨b1,b2⟩ s' ⟨hb',rfl,hz⟩
   simp only at hb'
   subst hb'
   rcases hz with hz|⟨e0,hz⟩|⟨e0,e1,hz⟩
   ·cases hz
   ·cases hz
   ·have h':R (Except.ok (Flow.ret (Value.bool false))) ⟨hp,g,d,tk,os⟩:=by
     unfold ltP at h
     rw[if_pos (by rw[e0];exact beq_self_eq_true _),if_pos (by rw[e1];exact beq_self_eq_true _)] at h
     exact h
    wp_walk
    exact⟨_,rfl,h'⟩
  exact⟨rfl,rfl,.inl rfl⟩
section
variable {prog:Program}{w:World}{A:Around}{E:Value->Shared->Prop}{s:Shared}
theorem zbh8 {v v':Value}{x y:Int×Int}{Q:Value->Shared->Prop}(ha:TupI s.heap v x) (hb:TupI s.heap v' y) (hu:A.units<cLine) (h:Q (.bool (ltP x y)) s):wpAny (model prog w) A (compareOp .Lt v v') Q E s:=by
 obtain⟨a,⟨cls,dd,data,sl⟩,t,u,n,rfl,ho,hc,hd⟩:=ha
 obtain⟨b,⟨cls2,dd2,data2,sl2⟩,t',u',n2,rfl,ho2,hc2,hd2⟩:=hb
 simp only at hc hd hc2 hd2
 subst hc hd hc2 hd2
 exact richCompare_meets_room (op:=.Lt) ⟨_,ho,rfl⟩ ⟨_,ho2,rfl⟩ F.slot_tuple_lt F.entry_tuple_lt (F.args_tuple_lt_2 _ _) (zbc2 a b x y t u t' u' n n2 dd dd2 sl sl2)
  ⟨ho,ho2,show Value.bool (ltP x y)≠Value.notImplemented/\Q (.bool (ltP x y)) s from ⟨(fun x=>nomatch x),h⟩⟩ hu
end
section
variable {X:Cx}{K:zbz8}{H:Hp}{Q:VK}
def pV (x:Int×Int):List V:=[.int x.1,.int x.2]
@[irreducible] def rLtA (a b:Addr) (H:Hp) (Q:VK):Prop:=∃ x y:Int×Int,H a=some (.tup (pV x))/\H b=some (.tup (pV y))/\Q (.bl (ltP x y)) H
def rLtXM:R2:=fun x y H Q=>match x,y with
 | .int i,.int j=>Q (.bl (decide (i<j))) H
 | .ref a,.ref b=>rLtA a b H Q
 | _,_=>False
theorem zai4 {pins:List (Addr×Obj)}{σ:St}{H:Hp}{s:Shared}{a:Addr}{x:Int×Int}(I:Inv X pins σ H s) (h:H a=some (.tup (pV x))):TupI s.heap (.ref a) x:=by
 obtain⟨_,its,rv,o,h1,h2,n,h3⟩:=(show zf7 X.prog X.w H s.heap a (.tup (pV x)) from I.hok a _ h)
 unfold pV at rv
 cases rv with
 | cons r1 rv=>
  cases rv with
  | cons r2 rv=>
   cases rv
   obtain⟨t,rfl⟩:=r1
   obtain⟨u,rfl⟩:=r2
   exact⟨a,o,t,u,n,rfl,h1,h2,h3⟩
theorem oLtX (hu:X.A.units+40<cLine):OpR X (compareOp .Lt) rLtXM:=by
 intro pins s σ H x y v u Q I rx ry h
 unfold rLtXM at h
 split at h
 ·exact op_lt pins s σ H _ _ v u Q I rx ry ⟨_,_,rfl,rfl,h⟩
 ·unfold rLtA at h
  obtain⟨x,y,ea,eb,h⟩:=h
  cases rx
  cases ry
  exact zbh8 (zai4 I ea) (zai4 I eb) (by omega) ⟨.bl (ltP x y),H,I,rfl,h⟩
 ·exact h.elim
theorem ltP_rd {a b:Addr}{x y:Int×Int}(ha:H a=some (.tup (pV x))) (hb:H b=some (.tup (pV y))) (q:Q (.bl (ltP x y)) H):rLtA a b H Q:=by unfold rLtA;exact⟨x,y,ha,hb,q⟩
@[irreducible] def rSlX (K:zbz8) (a:Addr) (lo hi:Option Int) (H:Hp) (Q:VK):Prop:=(∃ xs,SqL K H a xs/\∀ p H',H p=none->Same H H'->H' p=some (.lst (cutV xs lo hi))->Q (.ref p) H') ∨
 ∃ xs,SqT K H a xs/\¬ (HT.sIx xs.length 0 lo=0/\HT.sIx xs.length xs.length hi=xs.length)/\∀ p H',H p=none->Same H H'->H' p=some (.tup (cutV xs lo hi))->Q (.ref p) H'
def rSlXM (K:zbz8):V->Option Int->Option Int->Hp->VK->Prop:=fun x lo hi H Q=>match x with
 | .ref a=>rSlX K a lo hi H Q
 | _=>False
theorem slX:SlR X (rSlXM X.K):=by
 intro pins s σ H x v vl vu lo hi sl Q I rx hs pl pu h
 unfold rSlXM at h
 split at h
 ·unfold rSlX at h
  rcases h with ⟨xs,h1,q⟩|⟨xs,h1,h2,q⟩
  ·exact zbp3 pins s σ H _ v vl vu lo hi sl Q I rx hs pl pu ⟨_,xs,rfl,h1,fun p hp=>q p _ hp (Same.upd hp) zc2⟩
  ·exact sl_tup pins s σ H _ v vl vu lo hi sl Q I rx hs pl pu ⟨_,xs,rfl,h1,h2,fun p hp=>q p _ hp (Same.upd hp) zc2⟩
 ·exact h.elim
theorem zr2 {a:Addr}{xs:List V}{lo hi:Option Int}(h:SqL K H a xs) (q:∀ p H',H p=none->Same H H'->H' p=some (.lst (cutV xs lo hi))->Q (.ref p) H'):rSlX K a lo hi H Q:=by unfold rSlX;exact .inl ⟨xs,h,q⟩
theorem zat0 {a:Addr}{x y z:V}(h:H a=some (.tup [x,y,z])) (q:∀ p H',H p=none->Same H H'->H' p=some (.tup [x,y])->Q (.ref p) H'):rSlX K a none (some 2) H Q:=by
 unfold rSlX
 exact .inr ⟨[x,y,z],SqT.of h,(by decide:¬ (HT.sIx 3 0 none=0/\HT.sIx 3 3 (some 2)=3)),q⟩
theorem zs1 (hK:X.K=K) (hu:X.A.units+40<cLine):OpR X (compareOp .Eq) (zbd7 K):=by subst hK;exact oEqX hu
theorem zw4 (hK:X.K=K) (hu:X.A.units+40<cLine):OpR X (compareOp .NotEq) (rNeXM K):=by subst hK;exact oNeX hu
theorem slXK (hK:X.K=K):SlR X (rSlXM K):=by subst hK;exact slX
theorem Wk.zipN {a b:Addr}{xs ys:List V}{n:Nat}{H1:Hp}(h:SqL K H1 a xs) (h':SqL K H1 b ys) (hx:n<=xs.length) (hy:n<=ys.length) (hn:xs.length=n∨ys.length=n):Wk (Itz K a b) n H1 fun i v H=>∃ p x y,v=.ref p/\H p=some (.tup [x,y])/\xs[i]?=some x/\ys[i]?=some y:=
 ⟨fun i H s hi=>⟨xs,ys,xs[i],ys[i],s.seq h,s.seq h',by simp,by simp⟩,fun H s=>⟨xs,ys,s.seq h,s.seq h',by omega⟩,fun i H v H' s _ y=>by
  obtain⟨p,x,y,rfl,y1,y2,y3,y4,y5⟩:=y
  exact⟨y2,p,x,y,rfl,y3,y4 xs (s.seq h),y5 ys (s.seq h')⟩⟩
end
end L2
set_option maxHeartbeats 4000000
namespace L2
open PySem PySem.Spec PyProof.Rows PySem.W
section
variable {X:Cx}
end
section
variable {X:Cx}{K:zbz8}{H:Hp}{Q:VK}
end
end L2
set_option maxHeartbeats 2000000
namespace L2
open PySem PySem.Spec PyProof.Rows
section
variable {X:Cx}{K:zbz8}
@[irreducible] def rInsA (p:Addr) (v:V) (H:Hp) (Q:VK):Prop:=∃ xs,H p=some (.lst xs)/\xs.length<sizeLine/\∀ H',Chg p H H'->H' p=some (.lst (v :: xs))->Q .non H'
def rInsM:Addr->List V->Hp->VK->Prop:=fun p vs H Q=>match vs with
 | [.int i,v]=>i=0/\rInsA p v H Q
 | _=>False
@[irreducible] def zaf9 (p:Addr) (i:Int) (H:Hp) (Q:VK):Prop:=∃ (xs:List V) (k:Nat) (y:V),H p=some (.lst xs)/\i=(k:Int)/\k<2 ^ 62/\xs[k]?=some y/\∀ H',Chg p H H'->H' p=some (.lst (xs.eraseIdx k))->Q y H'
def zao7:Addr->List V->Hp->VK->Prop:=fun p vs H Q=>match vs with
 | [.int i]=>zaf9 p i H Q
 | _=>False
theorem mPopAt:MtA X "list.pop" zao7:=fun pins s σ H p xs us Q I r h=>by
 unfold zao7 at h
 split at h
 ·unfold zaf9 at h
  obtain⟨ys,k,y,h1,rfl,hk,h2,h3⟩:=h
  exact zbg7 pins s σ H (.ref p) _ (.ref p) us Q I rfl r ⟨p,ys,_,k,y,rfl,rfl,h1,by omega,by omega,by have:=(zbz9.mp h2).1;unfold seqIndex?;simp;omega,h2,h3 _ Chg.upd zc2⟩
 ·exact h.elim
theorem zba0 {o e:Expr}{to:TE}{t:TA}{apos cpos:Pos}(hK:X.K=K) (ho:PE X o to) (ha:PA X [e] t) (hbase:attributeBase o "pop" X.env (eval o X.env)=eval o X.env:=by rfl)
  (hfew:((backTo cpos (starEach [e] X.env)).all (fun x=>!x.1)&&(backToKw cpos (keywordEach [] X.env)).all (fun x=>x.1.isSome)
   && decide ([e].length+([]:List Keyword).length+(if ([]:List Keyword).isEmpty then 0 else 1)<30))=true:=by rfl)
  (hline:(apos.endLine==cpos.line)=true:=by rfl) (hs:starEach [e] X.env=(false,eval e X.env) :: starEach [] X.env:=by rfl) (hplain:(backTo cpos (starEach [] X.env)).any (·.1)=false:=by rfl):PE X (.Call (.Attribute o "pop" apos) [e] [] cpos) (qBM K zao7 to t):=by
 subst hK
 exact peBM PySem.F.slot_list_pop PySem.F.type_list_pop mPopAt ho ha hbase hfew hline hs hplain
theorem zbj0 {p:Addr}{i:Int}{H:Hp}{Q:VK}{xs:List V}{k:Nat}{y:V}(h:H p=some (.lst xs)) (hi:i=(k:Int)) (hk:k<2 ^ 62) (hy:xs[k]?=some y) (q:∀ H',Chg p H H'->H' p=some (.lst (xs.eraseIdx k))->Q y H'):zaf9 p i H Q:=by unfold zaf9;exact⟨xs,k,y,h,hi,hk,hy,q⟩
end
end L2
set_option maxHeartbeats 4000000
namespace L2
open PySem PySem.Spec PyProof.Rows PySem.W
def geP (x y:Int×Int):Bool:=if (x.1==y.1)=true then (if (x.2==y.2)=true then true else decide (x.2≥y.2)) else decide (x.1≥y.1)
theorem zbb0 (l b:Addr) (x y:Int×Int) (t u t' u':Tok) (n n2:Nat) (dd dd2:Option Addr) (sl sl2:Array (Option Value)) :
  Meets (Builtin.«tuple.__ge__» ⟨[.ref l,.ref b],[]⟩)
   (fun A R s=>s.heap.get? l=some { cls:=.type "tuple",dict:=dd,data:=.seq #[.int x.1 t,.int x.2 u] n,slots:=sl }/\s.heap.get? b=some { cls:=.type "tuple",dict:=dd2,data:=.seq #[.int y.1 t',.int y.2 u'] n2,slots:=sl2 } /\
    R (.ok (.ret (.bool (geP x y)))) s):=
 .of_wp fun prog w A R s h=>by
  obtain⟨hp,g,d,tk,os⟩:=s;obtain⟨hl,hb,h⟩:=h
  have f2:=AutoSeq1.sub_tuple_tuple
  wp_walk using wpAny_loadPart' hl,wpAny_loadPart' hb,wpAny_forIn_list _ (fun rest b s'=>b.1=none/\s'=⟨hp,g,d,tk,os⟩/\(rest=[(.int x.1 t,.int y.1 t'),(.int x.2 u,.int y.2 u')]∨(x.1=y.1/\rest=[(.int x.2 u,.int y.2 u')])∨(x.1=y.1/\x.2=y.2/\rest=[]))) _
  case turn=>
   rintro⟨p,q⟩ rest b s' ⟨hb',rfl,hz⟩
   rcases hz with hz|⟨e0,hz⟩|⟨_,_,hz⟩
   ·cases hz
    refine wpAny_bind (wpAny_eqBool_int ?_)
    cases e:(x.1==y.1)
    ·have h':R (Except.ok (Flow.ret (Value.bool (decide (x.1≥y.1))))) ⟨hp,g,d,tk,os⟩:=by
      unfold geP at h
      rw[if_neg (by rw[e];exact zca5)] at h
      exact h
     simp only[Bool.not_false,if_true]
     refine wpAny_bind (wpAny_rule ?_)
     refine wpAny_bind ((ge_int (Q:=_) ?_:wpAny _ _ (compareOp .GtE _ _) _ _ _))
     wp_walk
     exact⟨_,rfl,h'⟩
    ·wp_walk
     exact⟨rfl,rfl,.inr (.inl ⟨by simpa using e,rfl⟩)⟩
   ·cases hz
    refine wpAny_bind (wpAny_eqBool_int ?_)
    cases e:(x.2==y.2)
    ·have h':R (Except.ok (Flow.ret (Value.bool (decide (x.2≥y.2))))) ⟨hp,g,d,tk,os⟩:=by
      unfold geP at h
      rw[if_pos (by rw[e0];exact beq_self_eq_true _),if_neg (by rw[e];exact zca5)] at h
      exact h
     simp only[Bool.not_false,if_true]
     refine wpAny_bind (wpAny_rule ?_)
     refine wpAny_bind ((ge_int (Q:=_) ?_:wpAny _ _ (compareOp .GtE _ _) _ _ _))
     wp_walk
     exact⟨_,rfl,h'⟩
    ·wp_walk
     exact⟨rfl,rfl,.inr (.inr ⟨e0,by simpa using e,rfl⟩)⟩
   ·cases hz
  case fin=>
   rintro⟨b1,b2⟩ s' ⟨hb',rfl,hz⟩
   simp only at hb'
   subst hb'
   rcases hz with hz|⟨e0,hz⟩|⟨e0,e1,hz⟩
   ·cases hz
   ·cases hz
   ·have h':R (Except.ok (Flow.ret (Value.bool true))) ⟨hp,g,d,tk,os⟩:=by
     unfold geP at h
     rw[if_pos (by rw[e0];exact beq_self_eq_true _),if_pos (by rw[e1];exact beq_self_eq_true _)] at h
     exact h
    wp_walk
    exact⟨_,rfl,h'⟩
  exact⟨rfl,rfl,.inl rfl⟩
section
variable {prog:Program}{w:World}{A:Around}{E:Value->Shared->Prop}{s:Shared}
theorem zbj3 {v v':Value}{x y:Int×Int}{Q:Value->Shared->Prop}(ha:TupI s.heap v x) (hb:TupI s.heap v' y) (hu:A.units<cLine) (h:Q (.bool (geP x y)) s):wpAny (model prog w) A (compareOp .GtE v v') Q E s:=by
 obtain⟨a,⟨cls,dd,data,sl⟩,t,u,n,rfl,ho,hc,hd⟩:=ha
 obtain⟨b,⟨cls2,dd2,data2,sl2⟩,t',u',n2,rfl,ho2,hc2,hd2⟩:=hb
 simp only at hc hd hc2 hd2
 subst hc hd hc2 hd2
 exact richCompare_meets_room (op:=.GtE) ⟨_,ho,rfl⟩ ⟨_,ho2,rfl⟩ F.slot_tuple_ge F.entry_tuple_ge (F.args_tuple_ge_2 _ _) (zbb0 a b x y t u t' u' n n2 dd dd2 sl sl2)
  ⟨ho,ho2,show Value.bool (geP x y)≠Value.notImplemented/\Q (.bool (geP x y)) s from ⟨(fun x=>nomatch x),h⟩⟩ hu
end
section
variable {X:Cx}{K:zbz8}{H:Hp}{Q:VK}
@[irreducible] def rGeA (a b:Addr) (H:Hp) (Q:VK):Prop:=∃ x y:Int×Int,H a=some (.tup (pV x))/\H b=some (.tup (pV y))/\Q (.bl (geP x y)) H
def rGeXM:R2:=fun x y H Q=>match x,y with
 | .int i,.int j=>Q (.bl (decide (i≥j))) H
 | .ref a,.ref b=>rGeA a b H Q
 | _,_=>False
theorem oGeX (hu:X.A.units+40<cLine):OpR X (compareOp .GtE) rGeXM:=by
 intro pins s σ H x y v u Q I rx ry h
 unfold rGeXM at h
 split at h
 ·exact op_ge pins s σ H _ _ v u Q I rx ry ⟨_,_,rfl,rfl,h⟩
 ·unfold rGeA at h
  obtain⟨x,y,ea,eb,h⟩:=h
  cases rx
  cases ry
  exact zbj3 (zai4 I ea) (zai4 I eb) (by omega) ⟨.bl (geP x y),H,I,rfl,h⟩
 ·exact h.elim
theorem geP_rd {a b:Addr}{x y:Int×Int}(ha:H a=some (.tup (pV x))) (hb:H b=some (.tup (pV y))) (q:Q (.bl (geP x y)) H):rGeA a b H Q:=by unfold rGeA;exact⟨x,y,ha,hb,q⟩
end
end L2
namespace L2
theorem zbn8 (x y:Int×Int):geP x y=!ltP x y:=by
 have key:∀ a b:Int,decide (a≥b)=!decide (a<b):=fun a b=>by
  by_cases h:a<b
  ·rw[decide_eq_true h,decide_eq_false (by omega)];rfl
  ·rw[decide_eq_false h,decide_eq_true (by omega)];rfl
 unfold geP ltP
 cases h1:(x.1==y.1)<;>cases h2:(x.2==y.2)<;>simp only[if_true,if_false,zcg0,key,Bool.not_false]
end L2
set_option maxHeartbeats 1000000
namespace G
open PySem L2
def top (i:Nat):Stmt:=PySem.Challenge.pw_hostfields_k68_a_host_more.main.body.getD i (.Pass ⟨0,0,0,0⟩)
abbrev zo1:Stmt:=top 16
theorem zao2:zb7 ["thing"] ["thing"] (za5 zo1):=⟨rfl,rfl,rfl,by decide +kernel,rfl,by decide +kernel,by decide +kernel⟩
abbrev zq3:Stmt:=top 17
theorem zau5:zb7 ["thing","least"] ["thing","least"] (za5 zq3):=⟨rfl,rfl,rfl,by decide +kernel,rfl,by decide +kernel,by decide +kernel⟩
abbrev zk5:Stmt:=top 18
theorem zag2:zb7 ["thing","least","most"] ["thing","least","most"] (za5 zk5):=⟨rfl,rfl,rfl,by decide +kernel,rfl,by decide +kernel,by decide +kernel⟩
abbrev zq1:Stmt:=top 22
theorem zaw2:zb7 ["hosts","fields"] ["hosts","fields"] (za5 zq1):=⟨rfl,rfl,rfl,by decide +kernel,rfl,by decide +kernel,by decide +kernel⟩
abbrev zl9:Stmt:=top 24
theorem zr8:zb7 ["hosts","fields","stream","comes_full","goes_empty"] ["hosts","fields","stream"] (za5 zl9):=⟨rfl,rfl,rfl,by decide +kernel,rfl,by decide +kernel,by decide +kernel⟩
abbrev zs8:Stmt:=top 25
theorem zaz5:zb7 ["stream"] ["stream"] (za5 zs8):=⟨rfl,rfl,rfl,by decide +kernel,rfl,by decide +kernel,by decide +kernel⟩
abbrev zs9:Stmt:=top 26
theorem zbg0:zb7 ["row"] ["row"] (za5 zs9):=⟨rfl,rfl,rfl,by decide +kernel,rfl,by decide +kernel,by decide +kernel⟩
abbrev zq2:Stmt:=top 27
theorem zaw6:zb7 ["thing"] ["thing"] (za5 zq2):=⟨rfl,rfl,rfl,by decide +kernel,rfl,by decide +kernel,by decide +kernel⟩
abbrev zw5:Stmt:=top 28
theorem zau0:zb7 ["ahead","row","leaving"] ["ahead","row"] (za5 zw5):=⟨rfl,rfl,rfl,by decide +kernel,rfl,by decide +kernel,by decide +kernel⟩
abbrev zt2:Stmt:=top 29
theorem zv4:zb7 ["pairs","sums","key","amount"] ["pairs"] (za5 zt2):=⟨rfl,rfl,rfl,by decide +kernel,rfl,by decide +kernel,by decide +kernel⟩
abbrev zo2:Stmt:=top 30
theorem zao5:zb7 ["stream"] ["stream"] (za5 zo2):=⟨rfl,rfl,rfl,by decide +kernel,rfl,by decide +kernel,by decide +kernel⟩
abbrev zg8:Stmt:=top 31
theorem zy3:zb7 ["stream"] ["stream"] (za5 zg8):=⟨rfl,rfl,rfl,by decide +kernel,rfl,by decide +kernel,by decide +kernel⟩
abbrev zj0:Stmt:=top 32
theorem zae3:zb7 ["stream"] ["stream"] (za5 zj0):=⟨rfl,rfl,rfl,by decide +kernel,rfl,by decide +kernel,by decide +kernel⟩
abbrev zm2:Stmt:=top 34
theorem zr7:zb7 ["stream","field","ahead","behind"] ["stream","field"] (za5 zm2):=⟨rfl,rfl,rfl,by decide +kernel,rfl,by decide +kernel,by decide +kernel⟩
abbrev zn9:Stmt:=top 35
theorem zaq1:zb7 ["row","sent_more"] ["row","sent_more"] (za5 zn9):=⟨rfl,rfl,rfl,by decide +kernel,rfl,by decide +kernel,by decide +kernel⟩
abbrev zi2:Stmt:=top 37
theorem zs4:zb7 ["_law_number","_law_k","_law_mixed"] ["_law_number","_law_k"] (za5 zi2):=⟨rfl,rfl,rfl,by decide +kernel,rfl,by decide +kernel,by decide +kernel⟩
abbrev zj4:Stmt:=top 38
theorem zad6:zb7 ["_law_cell"] ["_law_cell"] (za5 zj4):=⟨rfl,rfl,rfl,by decide +kernel,rfl,by decide +kernel,by decide +kernel⟩
abbrev zm7:Stmt:=top 39
theorem zk7:zb7 ["_law_left","_law_base","_law_digit","_law_number","_law_turn","_law_mixed"] ["_law_left","_law_base"] (za5 zm7):=⟨rfl,rfl,rfl,by decide +kernel,rfl,by decide +kernel,by decide +kernel⟩
abbrev ze4:Stmt:=top 40
theorem zd9:zb7 ["_law_left","_law_hosts","_law_many","_law_found","_law_rest","_law_k","_law_sent"] ["_law_left","_law_hosts","_law_many"] (za5 ze4):=⟨rfl,rfl,rfl,by decide +kernel,rfl,by decide +kernel,by decide +kernel⟩
abbrev zf5:Stmt:=top 41
theorem zj2:zb7 ["_law_left","_law_hosts","_law_many","_law_most","_law_found","_law_k","_law_weight"] ["_law_left","_law_hosts","_law_many","_law_most"] (za5 zf5):=⟨rfl,rfl,rfl,by decide +kernel,rfl,by decide +kernel,by decide +kernel⟩
abbrev zh8:Stmt:=top 42
theorem ze6:zb7 ["_law_mix","_law_found","_law_k","_law_flows","_law_plan","_law_weight","_law_key"] ["_law_mix"] (za5 zh8):=⟨rfl,rfl,rfl,by decide +kernel,rfl,by decide +kernel,by decide +kernel⟩
abbrev zi1:Stmt:=top 43
theorem zo7:zb7 ["_law_left","_law_far","_law_some"] ["_law_left"] (za5 zi1):=⟨rfl,rfl,rfl,by decide +kernel,rfl,by decide +kernel,by decide +kernel⟩
abbrev zg7:Stmt:=top 44
theorem zc0:zb7 ["_law_left","_law_stream","_law_found","_law_at","_law_place","_law_come","_law_sent","_law_flow","_law_kind","_law_wrong","_law_part"] ["_law_left","_law_stream"] (za5 zg7):=⟨rfl,rfl,rfl,by decide +kernel,rfl,by decide +kernel,by decide +kernel⟩
abbrev zg6:Stmt:=top 45
theorem zy5:zb7 ["_law_one"] ["_law_one"] (za5 zg6):=⟨rfl,rfl,rfl,by decide +kernel,rfl,by decide +kernel,by decide +kernel⟩
abbrev zi9:Stmt:=top 46
theorem zu0:zb7 ["_law_row","_law_part"] ["_law_row"] (za5 zi9):=⟨rfl,rfl,rfl,by decide +kernel,rfl,by decide +kernel,by decide +kernel⟩
abbrev zi0:Stmt:=top 47
theorem zc7:zb7 ["_law_row","_law_ahead","_law_due","_law_come","_law_sent","_law_flow","_law_told"] ["_law_row","_law_ahead"] (za5 zi0):=⟨rfl,rfl,rfl,by decide +kernel,rfl,by decide +kernel,by decide +kernel⟩
abbrev zf4:Stmt:=top 48
theorem zg5:zb7 ["_law_thing","_law_row","_law_first","_law_hosts","_law_k"] ["_law_thing"] (za5 zf4):=⟨rfl,rfl,rfl,by decide +kernel,rfl,by decide +kernel,by decide +kernel⟩
abbrev zh7:Stmt:=top 49
theorem ze5:zb7 ["_law_caught","_law_some","_law_names"] ["_law_caught"] (za5 zh7):=⟨rfl,rfl,rfl,by decide +kernel,rfl,by decide +kernel,by decide +kernel⟩
abbrev zk6:Stmt:=top 50
theorem zn8:zb7 ["_law_mix","_law_field","_law_found","_law_plan","_law_weight"] ["_law_mix","_law_field"] (za5 zk6):=⟨rfl,rfl,rfl,by decide +kernel,rfl,by decide +kernel,by decide +kernel⟩
abbrev zf6:Stmt:=top 51
theorem zm6:zb7 ["_law_stream","_law_field","_law_caught","e"] ["_law_stream","_law_field"] (za5 zf6):=⟨rfl,rfl,rfl,by decide +kernel,rfl,by decide +kernel,by decide +kernel⟩
abbrev zj3:Stmt:=top 52
theorem zp6:zb7 ["_law_thing","_law_part"] ["_law_thing"] (za5 zj3):=⟨rfl,rfl,rfl,by decide +kernel,rfl,by decide +kernel,by decide +kernel⟩
abbrev zm1:Stmt:=top 53
theorem zr3:zb7 ["_law_thing","_law_part"] ["_law_thing"] (za5 zm1):=⟨rfl,rfl,rfl,by decide +kernel,rfl,by decide +kernel,by decide +kernel⟩
abbrev zai2:Stmt:=top 54
theorem zp3:zb7 ["_law_script","_law_cell","_law_left","_law_hosts","_law_mix","_law_stream","_law_handed","_law_field","_law_told","_law_due","_law_wrong","_law_bent","_law_other"] ["_law_script"] (za5 zai2):=⟨rfl,rfl,rfl,by decide +kernel,rfl,by decide +kernel,by decide +kernel⟩
theorem nb_0:(["thing"]:List Str).Nodup:=by decide +kernel
theorem nb_1:(["one","other"]:List Str).Nodup:=by decide +kernel
theorem nb_2:(["left","sent","flow"]:List Str).Nodup:=by decide +kernel
theorem nb_3:(["row"]:List Str).Nodup:=by decide +kernel
theorem nb_4:(["left","sent","flow","hosts"]:List Str).Nodup:=by decide +kernel
theorem nb_5:(["left","sent","flow"]:List Str).Nodup:=by decide +kernel
theorem nb_6:(["ahead","row"]:List Str).Nodup:=by decide +kernel
theorem nb_7:(["left","sent","flow","sent_more"]:List Str).Nodup:=by decide +kernel
theorem nb_8:(["row"]:List Str).Nodup:=by decide +kernel
theorem nb_9:(["_law_key","_law_flows"]:List Str).Nodup:=by decide +kernel
theorem nb_10:(["_law_row"]:List Str).Nodup:=by decide +kernel
theorem nb_11:(["_law_k","_law_found"]:List Str).Nodup:=by decide +kernel
theorem nb_12:(["_law_one"]:List Str).Nodup:=by decide +kernel
theorem nb_13:(["_law_one"]:List Str).Nodup:=by decide +kernel
theorem nb_14:(["_law_k","_law_row"]:List Str).Nodup:=by decide +kernel
theorem nb_15:(["_law_one","_law_hosts"]:List Str).Nodup:=by decide +kernel
theorem nb_16:(["_law_one"]:List Str).Nodup:=by decide +kernel
theorem nb_17:(["_law_row"]:List Str).Nodup:=by decide +kernel
structure Cz (K:zbz8) (mg:Str->Option Value) (base:Heap) (zbt5 zbt6 zbt3 zbu6 zbt2 zbu1 zbt9 zbt7 zbt8 zbu2 zbu3 zbu7 zbu4 zbu0:Addr):Prop where
 g_HostError:mg "HostError"=some (.ref zbt5)
 g_NoBattle:mg "NoBattle"=some (.ref zbt6)
 g_NoPlan:mg "NoPlan"=some (.ref zbt3)
 g_NoMix:mg "NoMix"=some (.ref zbu6)
 g_NoStream:mg "NoStream"=some (.ref zbt2)
 g_NoSide:mg "NoSide"=some (.ref zbu1)
 g_NoAlike:mg "NoAlike"=some (.ref zbt9)
 g_NoNumber:mg "NoNumber"=some (.ref zbt7)
 g_TooGreat:mg "TooGreat"=some (.ref zbt8)
 g_NoEven:mg "NoEven"=some (.ref zbu2)
 g_NoText:mg "NoText"=some (.ref zbu3)
 g_NoRow:mg "NoRow"=some (.ref zbu7)
 g_NoName:mg "NoName"=some (.ref zbu4)
 g_NoPlace:mg "NoPlace"=some (.ref zbu0)
 o_NoStream:PyProof.Rows.OwnCls "NoStream" zbt2 bmV newV mg base
 k_NoStream:ExcK K zbt2
 c_NoStream:(zce0 K zbt2).isSome=true
 m_NoStream:PySem.W.exmOne K (.ref zbt2) (.ref zbt5)=some true
 v_NoStream:zca3 K (.ref zbt2) (.type "ValueError")=some true
 i_NoStream_HostError:zca3 K (.ref zbt2) (.ref zbt5)=some true
 i_NoStream_NoBattle:zca3 K (.ref zbt2) (.ref zbt6)=some false
 i_NoStream_NoPlan:zca3 K (.ref zbt2) (.ref zbt3)=some false
 i_NoStream_NoMix:zca3 K (.ref zbt2) (.ref zbu6)=some false
 i_NoStream_NoStream:zca3 K (.ref zbt2) (.ref zbt2)=some true
 i_NoStream_NoSide:zca3 K (.ref zbt2) (.ref zbu1)=some false
 i_NoStream_NoAlike:zca3 K (.ref zbt2) (.ref zbt9)=some false
 i_NoStream_NoNumber:zca3 K (.ref zbt2) (.ref zbt7)=some false
 i_NoStream_TooGreat:zca3 K (.ref zbt2) (.ref zbt8)=some false
 i_NoStream_NoEven:zca3 K (.ref zbt2) (.ref zbu2)=some false
 i_NoStream_NoText:zca3 K (.ref zbt2) (.ref zbu3)=some false
 i_NoStream_NoRow:zca3 K (.ref zbt2) (.ref zbu7)=some false
 i_NoStream_NoName:zca3 K (.ref zbt2) (.ref zbu4)=some false
 i_NoStream_NoPlace:zca3 K (.ref zbt2) (.ref zbu0)=some false
 o_NoPlan:PyProof.Rows.OwnCls "NoPlan" zbt3 bmV newV mg base
 k_NoPlan:ExcK K zbt3
 c_NoPlan:(zce0 K zbt3).isSome=true
 m_NoPlan:PySem.W.exmOne K (.ref zbt3) (.ref zbt5)=some true
 v_NoPlan:zca3 K (.ref zbt3) (.type "ValueError")=some true
 i_NoPlan_HostError:zca3 K (.ref zbt3) (.ref zbt5)=some true
 i_NoPlan_NoBattle:zca3 K (.ref zbt3) (.ref zbt6)=some false
 i_NoPlan_NoPlan:zca3 K (.ref zbt3) (.ref zbt3)=some true
 i_NoPlan_NoMix:zca3 K (.ref zbt3) (.ref zbu6)=some false
 i_NoPlan_NoStream:zca3 K (.ref zbt3) (.ref zbt2)=some false
 i_NoPlan_NoSide:zca3 K (.ref zbt3) (.ref zbu1)=some false
 i_NoPlan_NoAlike:zca3 K (.ref zbt3) (.ref zbt9)=some false
 i_NoPlan_NoNumber:zca3 K (.ref zbt3) (.ref zbt7)=some false
 i_NoPlan_TooGreat:zca3 K (.ref zbt3) (.ref zbt8)=some false
 i_NoPlan_NoEven:zca3 K (.ref zbt3) (.ref zbu2)=some false
 i_NoPlan_NoText:zca3 K (.ref zbt3) (.ref zbu3)=some false
 i_NoPlan_NoRow:zca3 K (.ref zbt3) (.ref zbu7)=some false
 i_NoPlan_NoName:zca3 K (.ref zbt3) (.ref zbu4)=some false
 i_NoPlan_NoPlace:zca3 K (.ref zbt3) (.ref zbu0)=some false
 n_HostError:zca3 K (.type "NoneType") (.ref zbt5)=some false
 n_NoBattle:zca3 K (.type "NoneType") (.ref zbt6)=some false
 n_NoPlan:zca3 K (.type "NoneType") (.ref zbt3)=some false
 n_NoMix:zca3 K (.type "NoneType") (.ref zbu6)=some false
 n_NoStream:zca3 K (.type "NoneType") (.ref zbt2)=some false
 n_NoSide:zca3 K (.type "NoneType") (.ref zbu1)=some false
 n_NoAlike:zca3 K (.type "NoneType") (.ref zbt9)=some false
 n_NoNumber:zca3 K (.type "NoneType") (.ref zbt7)=some false
 n_TooGreat:zca3 K (.type "NoneType") (.ref zbt8)=some false
 n_NoEven:zca3 K (.type "NoneType") (.ref zbu2)=some false
 n_NoText:zca3 K (.type "NoneType") (.ref zbu3)=some false
 n_NoRow:zca3 K (.type "NoneType") (.ref zbu7)=some false
 n_NoName:zca3 K (.type "NoneType") (.ref zbu4)=some false
 n_NoPlace:zca3 K (.type "NoneType") (.ref zbu0)=some false
structure Nm (mg:Str->Option Value):Prop where
 ValueError_:mg "ValueError"=none
 all_:mg "all"=none
 bool_:mg "bool"=none
 int_:mg "int"=none
 isinstance_:mg "isinstance"=none
 len_:mg "len"=none
 list_:mg "list"=none
 range_:mg "range"=none
 sorted_:mg "sorted"=none
 sum_:mg "sum"=none
 tuple_:mg "tuple"=none
 zip_:mg "zip"=none
local macro_rules | `(tactic| walk_at "hp")=>`(tactic| first|assumption|(refine Same.at (H:=?H) ?s ?e;(case s=>assumption);(case e=>walk_at "hp"))|(refine Chg.at (a:=?a) (H:=?H) ?c ?e ?n;(case c=>assumption);(case n=>walk_at "ne");(case e=>walk_at "hp"))|fail "hp")
local macro_rules | `(tactic| walk_at "ne")=>`(tactic| first|assumption|(apply Ne.symm;assumption)|fail "ne")
local macro_rules | `(tactic| walk_at "wh")=>`(tactic| (conv=>whnf))
local macro_rules | `(tactic| walk_at "st")=>`(tactic| (conv=>whnf);first
 | refine zbr5 (by omega) (by omega) ?_
 | refine zbs4 (by omega) (by omega) ?_
 | refine zbo9 (by omega) (fun r h0 h1=>?_)
 | refine div_rd (by omega) (by omega) ?_
 | (refine pow_rd ⟨by decide,by decide,by decide⟩ ?_;simp only[Int.reduceToNat,Int.reducePow])
 | (refine zl4 (xs:=?xs) (v:=?v) ?hp ?ev ?_;(case hp=>walk_at "hp");(case ev=>rfl))
 | (refine zd8 (xs:=?xs) (v:=?v) ?hp ?ev ?_;(case hp=>walk_at "hp");(case ev=>rfl))
 | refine zg3 (fun p H' hf hs ha=>?_)
 | refine zb0 (fun p H' hf hs ha=>?_)
 | refine zag1 ?_
 | (refine zag6 (xs:=?xs) ?hp ?_;(case hp=>walk_at "hp"))
 | (refine zah9 (xs:=?xs) ?hp ?_;(case hp=>walk_at "hp"))
 | (refine zaq0 (xs:=?xs) ?hp ?_;(case hp=>walk_at "hp"))
 | (refine zi3 (xs:=?xs) ?hp ?_;(case hp=>walk_at "hp"))
 | refine zah2 ?_
 | refine br_T ?_
 | refine br_F ?_
 | refine zah3 (by omega) ?_
 | refine zan8 (by omega) ?_
 | fail "st")
def stp (g:Nat->Nat->Int) (c:Nat):Nat->Nat->Int
 | 0,t=>g 0 t
 | f+1,t=>g (f+1) t+if c<=t then stp g c f (t - c) else 0
def g0 (f t:Nat):Int:=if f=0/\t=0 then 1 else 0
def Wn:Nat->Nat->Nat->Int
 | 0=>g0
 | c+1=>stp (Wn c) c
def pl (ns:List Nat):List V:=ns.map fun (n:Nat)=>V.int (n:Int)
def il (ns:List Nat):List Int:=ns.map fun (n:Nat)=>(n:Int)
local macro_rules | `(tactic| walk_at "om")=>`(tactic| first|decide|omega)
section
variable {P:Program}{w:World}{K:zbz8}{mg:Str->Option Value}{base:Heap}{zbt5:Addr}{zbt6:Addr}{zbt3:Addr}{zbu6:Addr}{zbt2:Addr}{zbu1:Addr}{zbt9:Addr}{zbt7:Addr}{zbt8:Addr}{zbu2:Addr}{zbu3:Addr}{zbu7:Addr}{zbu4:Addr}{zbu0:Addr}
inductive MkV (H:Hp):Nat->V->List Addr->Prop
 | flat {n:Nat}{v:V}(f:zk9 v=true) (k:isT "mark" v=false):MkV H n v []
 | tup {n:Nat}{p:Addr}{xs:List V}{Bs:List (List Addr)}(h:H p=some (.tup xs)) (z:xs.length<=1000) (l:Bs.length=xs.length) (e:∀ (i:Nat) x B,xs[i]?=some x->Bs[i]?=some B->MkV H n x B):MkV H (n+1) (.ref p) Bs.flatten
 | lst {n:Nat}{p:Addr}{xs:List V}{Bs:List (List Addr)}(h:H p=some (.lst xs)) (z:xs.length<=1000) (l:Bs.length=xs.length) (e:∀ (i:Nat) x B,xs[i]?=some x->Bs[i]?=some B->MkV H n x B):MkV H (n+1) (.ref p) (p :: Bs.flatten)
theorem zai6 {Bs:List (List Addr)}{a:Addr}(h:a∈Bs.flatten):∃ (i:Nat) (B:List Addr),Bs[i]?=some B/\a∈B:=by
 obtain⟨B,hB,ha⟩:=List.mem_flatten.mp h
 obtain⟨i,hi,e⟩:=zci0.mp hB
 exact⟨i,B,by rw[zbz6 hi,e],ha⟩
theorem zz4 {Bs:List (List Addr)}{a:Addr}{i:Nat}{B:List Addr}(h:Bs[i]?=some B) (ha:a∈B):a∈Bs.flatten:=List.mem_flatten.mpr ⟨B,zca0 h,ha⟩
theorem bs_at {Bs:List (List Addr)}{n i:Nat}(l:Bs.length=n) (h:i<n):∃ B,Bs[i]?=some B:=⟨_,zbz6 (by walk_at "om")⟩
theorem xs_at {xs:List V}{n i:Nat}{B:List Addr}{Bs:List (List Addr)}(l:Bs.length=xs.length) (h:Bs[i]?=some B):∃ x,xs[i]?=some x:=⟨_,zbz6 (by have:=(zbz9.mp h).1;omega)⟩
theorem MkV.isl {H:Hp}{n:Nat}{v:V}{As:List Addr}(m:MkV H n v As):∀ a∈As,∃ ys,H a=some (.lst ys):=by
 induction m with
 | flat _ _=>intro a h;cases h
 | tup h z l e ih=>
  intro a ha
  obtain⟨i,B,e1,e2⟩:=zai6 ha
  obtain⟨x,ex⟩:=xs_at (n:=0) l e1
  exact ih i x B ex e1 a e2
 | @lst n p xs Bs h z l e ih=>
  intro a ha
  rcases zcb3.mp ha with rfl|ha
  ·exact⟨_,h⟩
  ·obtain⟨i,B,e1,e2⟩:=zai6 ha
   obtain⟨x,ex⟩:=xs_at (n:=0) l e1
   exact ih i x B ex e1 a e2
theorem MkV.chgS {H H':Hp}{L:List Addr}(hL:∀ a∈L,∃ ys,H a=some (.lst ys)) (c:ChgS L H H') {n:Nat}{v:V}{As:List Addr}(m:MkV H n v As):(∀ a∈As,a ∉ L)->MkV H' n v As:=by
 induction m with
 | flat f k=>intro _;exact .flat f k
 | tup h z l e ih=>
  intro hn
  refine .tup (c _ _ (fun hm=>by obtain⟨ys,q⟩:=hL _ hm;rw[h] at q;cases q) h) z l fun i x B e1 e2=>ih i x B e1 e2 fun a ha=>hn a (zz4 e2 ha)
 | lst h z l e ih=>
  intro hn
  exact .lst (c _ _ (hn _ zce8) h) z l fun i x B e1 e2=>ih i x B e1 e2 fun a ha=>hn a (zcd5 _ (zz4 e2 ha))
theorem MkV.same {H H':Hp}{n:Nat}{v:V}{As:List Addr}(m:MkV H n v As) (s:Same H H'):MkV H' n v As:=m.chgS (L:=[]) (fun _ h=>by cases h) (fun b o _ e=>s b o e) fun _ _ h=>by cases h
def Mkd (H H':Hp) (As:List Addr):Prop:=ChgS As H H'/\∀ a∈As,∀ xs,H a=some (.lst xs)->H' a=some (.lst (xs++[.str "mark"]))
theorem Mkd.same {H H' H'':Hp}{As:List Addr}(m:Mkd H H' As) (s:Same H' H''):Mkd H H'' As:=⟨m.1.same s,fun a ha xs h=>s _ _ (m.2 a ha xs h)⟩
theorem zam8 {Bs:List (List Addr)}{i:Nat}{B:List Addr}(h:Bs[i]?=some B):(Bs.take (i+1)).flatten=(Bs.take i).flatten++B:=by
 rw[zci4,h];simp
theorem zbj1 {Bs:List (List Addr)}{i:Nat}{B:List Addr}(h:Bs[i]?=some B) (nd:Bs.flatten.Nodup):B.Nodup/\∀ a∈B,a ∉ (Bs.take i).flatten:=by
 have e:Bs.flatten=(Bs.take (i+1)).flatten++(Bs.drop (i+1)).flatten:=by rw[← List.flatten_append,List.take_append_drop]
 rw[e,zam8 h] at nd
 have n1:=(zcg2.mp nd).1
 have n2:=zcg2.mp n1
 exact⟨n2.2.1,fun a ha hb=>n2.2.2 a hb a ha rfl⟩
theorem Mkd.push {H H1 H2:Hp}{Bs:List (List Addr)}{i:Nat}{B:List Addr}(h:Bs[i]?=some B) (hd:∀ a∈B,a ∉ (Bs.take i).flatten) (m:Mkd H H1 (Bs.take i).flatten) (m2:Mkd H1 H2 B):Mkd H H2 (Bs.take (i+1)).flatten:=by
 rw[zam8 h]
 refine⟨fun b o hb e=>m2.1 b o (fun z=>hb (zcd7 _ z)) (m.1 b o (fun z=>hb (List.mem_append_left _ z)) e),fun a ha xs hx=>?_⟩
 rcases zcc3.mp ha with ha|ha
 ·exact m2.1 a _ (fun z=>hd a z ha) (m.2 a ha xs hx)
 ·exact m2.2 a ha xs (m.1 a _ (hd a ha) hx)
theorem zbj4 {K:zbz8}{p:Addr}{H:Hp}{Q:VK}{ys:List V}(h:H p=some (.tup ys)) (q:∀ l H',H l=none->Same H H'->H' l=some (.lst ys)->Q (.ref l) H'):zac0 K p H Q:=by unfold zac0;exact⟨ys,.inr (SqT.of h),q⟩
def zag3:Nat->Sp
 | 0=>fun _ _ _ _=>False
 | n+1=>fun vs H Q _=>∃ (p:Addr) (As:List Addr),vs=[.ref p]/\MkV H n (.ref p) As/\As.Nodup/\∀ H',Mkd H H' As->Q .non H'
@[irreducible] def zh9:Sp:=zag3 6
theorem zay5 {H:Hp}{p:Addr}{As:List Addr}{Q:VK}{E:XK}(m:MkV H 5 (.ref p) As) (nd:As.Nodup) (q:∀ H',Mkd H H' As->Q .non H'):zh9 [.ref p] H Q E:=by unfold zh9;exact⟨p,As,rfl,m,nd,q⟩
theorem MkV.cases {H:Hp}{n:Nat}{v:V}{As:List Addr}(m:MkV H n v As):(zk9 v=true/\isT "mark" v=false/\As=[])∨∃ (n':Nat) (p:Addr) (xs:List V) (Bs:List (List Addr)),n=n'+1/\v=.ref p/\xs.length<=1000/\Bs.length=xs.length/\(∀ (i:Nat) x B,xs[i]?=some x->Bs[i]?=some B->MkV H n' x B)/\((H p=some (.tup xs)/\As=Bs.flatten)∨(H p=some (.lst xs)/\As=p :: Bs.flatten)):=by
 cases m with
 | flat f k=>exact .inl ⟨f,k,rfl⟩
 | tup h z l e=>exact .inr ⟨_,_,_,_,rfl,rfl,z,l,e,.inl ⟨h,rfl⟩⟩
 | lst h z l e=>exact .inr ⟨_,_,_,_,rfl,rfl,z,l,e,.inr ⟨h,rfl⟩⟩
theorem zbk3 {K:zbz8}{H:Hp}{Q:VK}{n:Nat}{v:V}{As:List Addr}{t:Addr}(ht:H t=some (.tup [.ty "list",.ty "tuple"])) (m:MkV H n v As) (h1:zk9 v=true->As=[]->Q (.bl false) H) (h2:∀ p,v=.ref p->Q (.bl true) H):zt9 K v (.ref t) H Q:=by
 have ht:H t=some (.tup (["list","tuple"].map V.ty)):=ht
 rcases m.cases with ⟨f,k,e⟩|⟨n',p,xs,Bs,rfl,rfl,z,l,e,⟨h,_⟩|⟨h,_⟩⟩
 ·cases v with
  | non=>exact zas5 ht (h1 f e)
  | bl b=>exact zas9 ht (h1 f e)
  | int i=>exact zat3 ht (h1 f e)
  | str x=>exact zar3 ht (h1 f e)
  | _=>exact absurd (show false=true from f) zca5
 ·exact zat7 ht h (h2 p rfl)
 ·exact zas8 ht h (h2 p rfl)
set_option maxHeartbeats 0 in
theorem zad8 {f:Addr}{fd:FuncData}(F:Fun K "_law_marked" "_law_marked" zj3 f fd) (N:Nm mg) (hgR:mg "_law_marked"=some (.ref f)) (hkR:zcb5 K (.ref f)=true) (hbR:zaj7 K fd ["_law_thing"] []):FnOk P w K mg base CX0 7 f fd ["_law_thing"] zh9:=by
 have key:∀ n,FnOk P w K mg base CX0 (n+1) f fd ["_law_thing"] (zag3 n):=by
  intro n
  induction n with
  | zero=>exact F.ok zp6 (fun vs H Q E h=>h.elim) (fun cdv A outer s H vs Q E hr h=>h.elim)
  | succ n ih=>
   have zbv3:Def P w K mg base CX0 (n+1) "_law_marked" ["_law_thing"] (zag3 n):=⟨f,fd,ih,hgR,hkR,hbR⟩
   refine F.ok zp6 (fun vs H Q E h=>by obtain⟨_,_,rfl,_⟩:=h;rfl) (fun cdv A outer s H vs Q E hr h=>?_)
   obtain⟨p,As,rfl,m,nd,q⟩:=h
   refine⟨_,(za3 (zt7 PassesOwn.never rfl (zg4 (K:=K) rfl (pT (zak5 (K:=K) rfl) N.list_ zl2 (za0 (pq 0) za1))) (za8 (i:=1) zp6.nd rfl (by first|exact Or.inl rfl|exact Or.inr rfl)) (za6 (psIf (ptV (pB (cIsiT (K:=K) rfl) N.isinstance_ za7 (za0 (pq 1) (za0 (zr0 (za0 (pTy N.list_ zl2) (za0 (pTy N.tuple_ zt4) za1))) za1)))) (za6 (zl3 (pD zbv3 hr zb8 (za0 (pq 1) za1) (hk:=by walk_at "om")))) zb5)))
   (za6 (psIf (ptV (pB (zy9 (K:=K) rfl) N.isinstance_ za7 (za0 (pq 0) (za0 (pTy N.list_ zl2) za1)))) (za6 (zl3 (zm5 (pq 0) (za0 zp8 za1)))) zb5))),?_⟩
   rcases m.cases with ⟨f,_,_⟩|⟨n',p',xs,Bs,rfl,ep,z,l,e,hc⟩
   ·exact absurd (show false=true from f) zca5
   cases ep
   have nf:Bs.flatten.Nodup:=by
    rcases hc with ⟨_,rfl⟩|⟨_,rfl⟩
    ·exact nd
    ·exact (zcf1.mp nd).2
   have isl:∀ (i:Nat) B,Bs[i]?=some B->∀ a∈B,∃ ys,H a=some (.lst ys):=fun i B hB=>by
    obtain⟨x,ex⟩:=xs_at (n:=0) l hB
    exact (e i x B ex hB).isl
   have isl2:∀ i,∀ a∈(Bs.take i).flatten,∃ ys,H a=some (.lst ys):=fun i a ha=>by
    obtain⟨B,hB,hm⟩:=List.mem_flatten.mp ha
    obtain⟨j,hj,ej⟩:=zci0.mp (zci1 hB)
    exact isl j B (by rw[zbz6 hj,ej]) a hm
   have hm:∀ (R:VK),(∀ l' H',H l'=none->Same H H'->H' l'=some (.lst xs)->R (.ref l') H')->zac0 K p H R:=fun R r=>by
    rcases hc with ⟨h,_⟩|⟨h,_⟩
    ·exact zbj4 h r
    ·exact zw0 (SqL.of h) r
   walk_at "wh"
   refine hm _ (fun q1 H1 f1 s1 h1=>?_)
   refine zc3 h1 ?_
   have nq:∀ i,q1 ∉ (Bs.take i).flatten:=fun i hi=>by obtain⟨ys,z⟩:=isl2 i q1 hi;rw[f1] at z;cases z
   refine zh5 (xs:=xs) (fun i σ H2=>∃ t:Option V,σ=[some (.ref p),t]/\Mkd H H2 (Bs.take i).flatten/\H2 q1=some (.lst xs)) ?_ ?_ ?_ ?_
   ·exact⟨_,rfl,⟨fun b o _ h=>s1 b o h,fun a ha=>by simp at ha⟩,h1⟩
   ·rintro i σ H2 _ ⟨_,_,_,h⟩
    exact SqL.of h
   ·rintro i x σ H2 hx ⟨t,rfl,m2,h2⟩
    have hi:=(zbz9.mp hx).1
    obtain⟨B,hB⟩:=bs_at l hi
    have nb:=zbj1 hB nf
    have mx:=(e i x B hx hB).chgS (isl2 i) m2.1 nb.2
    refine zg3 (fun t1 H3 f3 s3 h3=>?_)
    walk_at "wh"
    refine zbk3 h3 (mx.same s3) (fun fx eB=>?_) (fun p1 ep=>?_)
    ·subst eB
     refine br_F ?_
     walk_at "wh"
     refine⟨_,rfl,(Mkd.push hB nb.2 m2 ⟨fun b o _ h=>h,fun a ha=>by cases ha⟩).same s3,s3 _ _ h2⟩
    ·subst ep
     refine br_T ?_
     walk_at "wh"
     obtain⟨n'',rfl⟩:∃ n'',n'=n''+1:=by
      rcases mx.cases with ⟨f,_,_⟩|⟨n'',_,_,_,rfl,_⟩
      ·exact absurd (show false=true from f) zca5
      ·exact⟨_,rfl⟩
     refine⟨p1,B,rfl,mx.same s3,nb.1,fun H4 m4=>?_⟩
     walk_at "wh"
     refine⟨_,rfl,Mkd.push hB nb.2 (m2.same s3) m4,m4.1 _ _ (fun hq=>?_) (s3 _ _ h2)⟩
     obtain⟨ys,zz⟩:=isl i B hB q1 hq
     rw[f1] at zz
     cases zz
   ·rintro σ H2 ⟨t,rfl,m2,h2⟩
    have eT:Bs.take xs.length=Bs:=by rw[← l,zcf7]
    rw[eT] at m2
    walk_at "wh"
    rcases hc with ⟨h,rfl⟩|⟨h,rfl⟩
    ·have hp:=m2.1 _ _ (fun hm=>by obtain⟨i,B,e1,e2⟩:=zai6 hm;obtain⟨ys,z⟩:=isl i B e1 _ e2;rw[h] at z;cases z) h
     refine zag6 hp ?_
     refine br_F ?_
     walk_at "wh"
     exact q _ m2
    ·have np:=(zcf1.mp nd).1
     have hp:=m2.1 _ _ np h
     refine zah9 hp ?_
     refine br_T ?_
     refine zo5 hp ?_
     refine zab4 hp (by rw[sizeLine_eq];omega) (fun H3 c3 h3=>?_)
     walk_at "wh"
     refine q _ ⟨fun b o hb h=>c3 b o (fun z=>hb (z▸zce8)) (m2.1 b o (fun z=>hb (zcd5 _ z)) h),fun a ha ys hy=>?_⟩
     rcases zcb3.mp ha with rfl|ha
     ·rw[h] at hy
      cases hy
      exact h3
     ·exact c3 _ _ (fun z=>np (z▸ha)) (m2.2 a ha ys hy)
 unfold zh9
 exact key 6
inductive OnV (H:Hp):Nat->V->Prop
 | flat {n:Nat}{v:V}(f:zk9 v=true):OnV H n v
 | tup {n:Nat}{p:Addr}{xs:List V}(h:H p=some (.tup xs)) (z:xs.length<=1000) (e:∀ (i:Nat) x,xs[i]?=some x->OnV H n x):OnV H (n+1) (.ref p)
 | lst {n:Nat}{p:Addr}{xs:List V}(h:H p=some (.lst (xs++[.str "mark"]))) (z:xs.length<=1000) (c:xs.countP (isT "mark")=0) (e:∀ (i:Nat) x,xs[i]?=some x->OnV H n x):OnV H (n+1) (.ref p)
theorem zas3 {H:Hp}{n:Nat}:∀ {xs:List V}{Bs:List (List Addr)},Bs.length=xs.length->(∀ (i:Nat) x B,xs[i]?=some x->Bs[i]?=some B->MkV H n x B)->xs.countP (isT "mark")=0
 | [],_,_,_=>rfl
 | x :: xs,[],l,_=>by cases l
 | x :: xs,B :: Bs,l,e=>by
  have h0:isT "mark" x=false:=by
   rcases (e 0 x B rfl rfl).cases with ⟨_,k,_⟩|⟨_,p,_,_,_,rfl,_⟩
   ·exact k
   ·rfl
  rw[zci2,h0,zas3 (by simpa using l) fun i x B h1 h2=>e (i+1) x B h1 h2]
  rfl
theorem MkV.on {H0 H:Hp}{L:List Addr}(d:Mkd H0 H L) (hL:∀ a∈L,∃ ys,H0 a=some (.lst ys)) {n:Nat}{v:V}{As:List Addr}(m:MkV H0 n v As):(∀ a∈As,a∈L)->OnV H n v:=by
 induction m with
 | flat f _=>intro _;exact .flat f
 | tup h z l e ih=>
  intro hs
  refine .tup (d.1 _ _ (fun hm=>by obtain⟨ys,q⟩:=hL _ hm;rw[h] at q;cases q) h) z fun i x hx=>?_
  obtain⟨B,hB⟩:=bs_at l (zbz9.mp hx).1
  exact ih i x B hx hB fun a ha=>hs a (zz4 hB ha)
 | lst h z l e ih=>
  intro hs
  refine .lst (d.2 _ (hs _ zce8) _ h) z (zas3 l e) fun i x hx=>?_
  obtain⟨B,hB⟩:=bs_at l (zbz9.mp hx).1
  exact ih i x B hx hB fun a ha=>hs a (zcd5 _ (zz4 hB ha))
theorem OnV.same {H H':Hp}(s:Same H H') {n:Nat}{v:V}(m:OnV H n v):OnV H' n v:=by
 induction m with
 | flat f=>exact .flat f
 | tup h z e ih=>exact .tup (s _ _ h) z ih
 | lst h z c e ih=>exact .lst (s _ _ h) z c ih
theorem OnV.plain {H:Hp}{n:Nat}{v:V}(m:OnV H n v):zbf9 H v:=by
 cases m with
 | flat f=>exact .inl f
 | tup h _ _=>exact .inr ⟨_,rfl,.inr ⟨_,h⟩⟩
 | lst h _ _ _=>exact .inr ⟨_,rfl,.inl ⟨_,h⟩⟩
theorem zbd0 {K:zbz8}{H:Hp}{Q:VK}{v:V}{t:Addr}(ht:H t=some (.tup [.ty "list",.ty "tuple"])) (m:zbf9 H v) (h1:zk9 v=true->Q (.bl false) H) (h2:∀ p,v=.ref p->Q (.bl true) H):zt9 K v (.ref t) H Q:=by
 have ht:H t=some (.tup (["list","tuple"].map V.ty)):=ht
 rcases m with f|⟨a,rfl,⟨ys,h⟩|⟨ys,h⟩⟩
 ·cases v with
  | non=>exact zas5 ht (h1 f)
  | bl b=>exact zas9 ht (h1 f)
  | int i=>exact zat3 ht (h1 f)
  | str x=>exact zar3 ht (h1 f)
  | _=>exact absurd (show false=true from f) zca5
 ·exact zas8 ht h (h2 a rfl)
 ·exact zat7 ht h (h2 a rfl)
def zai8:Nat->Sp
 | 0=>fun _ _ _ _=>False
 | n+1=>fun vs H Q _=>∃ p:Addr,vs=[.ref p]/\OnV H n (.ref p)/\∀ H',Same H H'->Q (.bl true) H'
@[irreducible] def zk4:Sp:=zai8 6
theorem zbq3 {H0 H:Hp}{p:Addr}{As:List Addr}{Q:VK}{E:XK}(m:MkV H0 5 (.ref p) As) (d:Mkd H0 H As) (q:∀ H',Same H H'->Q (.bl true) H'):zk4 [.ref p] H Q E:=by unfold zk4;exact⟨p,rfl,m.on d m.isl fun _ h=>h,q⟩
set_option maxHeartbeats 0 in
theorem zak7 {f:Addr}{fd:FuncData}(F:Fun K "_law_once" "_law_once" zm1 f fd) (N:Nm mg) (hgR:mg "_law_once"=some (.ref f)) (hkR:zcb5 K (.ref f)=true) (hbR:zaj7 K fd ["_law_thing"] []):FnOk P w K mg base CX0 7 f fd ["_law_thing"] zk4:=by
 have key:∀ n,FnOk P w K mg base CX0 (n+1) f fd ["_law_thing"] (zai8 n):=by
  intro n
  induction n with
  | zero=>exact F.ok zr3 (fun vs H Q E h=>h.elim) (fun cdv A outer s H vs Q E hr h=>h.elim)
  | succ n ih=>
   have zbv6:Def P w K mg base CX0 (n+1) "_law_once" ["_law_thing"] (zai8 n):=⟨f,fd,ih,hgR,hkR,hbR⟩
   refine F.ok zr3 (fun vs H Q E h=>by obtain⟨_,rfl,_⟩:=h;rfl) (fun cdv A outer s H vs Q E hr h=>?_)
   obtain⟨p,rfl,m,q⟩:=h
   have hu:=hu40 hr
   refine⟨_,(za3 (psIf (ptW (pwAnd (ptV (pB (zy9 (K:=K) rfl) N.isinstance_ za7 (za0 (pq 0) (za0 (pTy N.list_ zl2) za1)))) (zao0 (ptC (oNeK (K:=K) rfl (by exact hu)) (zau9 (K:=K) rfl (by exact hu) (pq 0) (za0 zp8 za1)) za2)))) (za6 (zb1 zn1)) zb5)
   (za3 (zt7 PassesOwn.never rfl (zg4 (K:=K) rfl (pq 0)) (za8 (i:=1) zr3.nd rfl (by first|exact Or.inl rfl|exact Or.inr rfl)) (za6 (psIf (ptW (pwAnd (ptV (pB (cIsiT (K:=K) rfl) N.isinstance_ za7 (za0 (pq 1) (za0 (zr0 (za0 (pTy N.list_ zl2) (za0 (pTy N.tuple_ zt4) za1))) za1)))) (zao0 (zl8 (ptV (pD zbv6 hr zb8 (za0 (pq 1) za1) (hk:=by walk_at "om"))))))) (za6 (zb1 zn1)) zb5)))
   (za6 (zb1 zn1)))),?_⟩
   cases m with
   | flat f=>exact absurd (show false=true from f) zca5
   | @tup n' _ xs h z e=>
    refine zag6 h ?_
    refine br_F ?_
    refine br_F ?_
    refine zat6 h ?_
    refine zbi3 (xs:=xs) (fun i σ H2=>∃ t:Option V,σ=[some (.ref p),t]/\Same H H2) ?_ ?_ ?_ ?_
    ·exact⟨_,rfl,Same.refl _⟩
    ·rintro i σ H2 _ ⟨_,_,s2⟩
     exact SqT.of (s2 _ _ h)
    ·rintro i x σ H2 hx ⟨t,rfl,s2⟩
     have o:=(e i x hx).same s2
     refine zg3 (fun t1 H3 f3 s3 h3=>?_)
     walk_at "wh"
     refine zbd0 h3 (o.same s3).plain (fun fx=>?_) (fun p1 ep=>?_)
     ·walk_at "wh"
      refine br_F ?_
      refine br_F ?_
      walk_at "wh"
      exact⟨_,rfl,s2.trans s3⟩
     ·walk_at "wh"
      refine br_T ?_
      walk_at "wh"
      subst ep
      refine⟨p1,rfl,o.same s3,fun H4 s4=>?_⟩
      refine zc4 (br_T ?_)
      walk_at "wh"
      exact⟨_,rfl,(s2.trans s3).trans s4⟩
    ·rintro σ H2 ⟨t,rfl,s2⟩
     walk_at "wh"
     exact q _ s2
   | @lst n' _ xs h z c e=>
    refine zah9 h ?_
    refine br_T ?_
    refine zo5 h ?_
    refine zbr9 h (fun x hx=>?_) ?_
    ·rcases zcc3.mp hx with hx|hx
     ·obtain⟨i,hi,ei⟩:=zci0.mp hx
      exact (e i x (by rw[zbz6 hi,ei])).plain
     ·rw[zcd8.mp hx];exact .inl rfl
    rw[List.countP_append,c]
    refine zc4 (zah3 rfl ?_)
    refine zc3 h ?_
    refine zh5 (xs:=xs++[.str "mark"]) (fun i σ H2=>∃ t:Option V,σ=[some (.ref p),t]/\Same H H2) ?_ ?_ ?_ ?_
    ·exact⟨_,rfl,Same.refl _⟩
    ·rintro i σ H2 _ ⟨_,_,s2⟩
     exact SqL.of (s2 _ _ h)
    ·rintro i x σ H2 hx ⟨t,rfl,s2⟩
     have o:OnV H2 n' x:=by
      by_cases hi:i<xs.length
      ·rw[zcc4 hi] at hx
       exact (e i x hx).same s2
      ·have:=zca0 hx
       rw[zcc2 (by walk_at "om")] at hx
       have hm:=zca0 hx
       rw[zcd8.mp hm]
       exact .flat rfl
     refine zg3 (fun t1 H3 f3 s3 h3=>?_)
     walk_at "wh"
     refine zbd0 h3 (o.same s3).plain (fun fx=>?_) (fun p1 ep=>?_)
     ·walk_at "wh"
      refine br_F ?_
      refine br_F ?_
      walk_at "wh"
      exact⟨_,rfl,s2.trans s3⟩
     ·walk_at "wh"
      refine br_T ?_
      walk_at "wh"
      subst ep
      refine⟨p1,rfl,o.same s3,fun H4 s4=>?_⟩
      refine zc4 (br_T ?_)
      walk_at "wh"
      exact⟨_,rfl,(s2.trans s3).trans s4⟩
    ·rintro σ H2 ⟨t,rfl,s2⟩
     walk_at "wh"
     exact q _ s2
 unfold zk4
 exact key 6
def isW:PyData->Bool
 | .int _=>true
 | _=>false
def zq9 (l:Int):PyData->Bool
 | .int i=>decide (l<=i)
 | _=>false
def zy8 (l m:Int):PyData->Bool
 | .int i=>decide (l<=i/\i<=m)
 | _=>false
theorem zbi2 {p q:Prop}[Decidable p] [Decidable q] (h:p):decide (p/\q)=decide q:=by simp[h]
theorem zbi5 {p q:Prop}[Decidable p] [Decidable q] (h:¬ p):decide (p/\q)=false:=by simp[h]
@[irreducible] def zk1:Sp:=fun vs H Q _=>∃ (v:V) (d:PyData),vs=[v]/\ShV H v d/\Q (.bl (isW d)) H
theorem zbo8 {H:Hp}{v:V}{d:PyData}{Q:VK}{E:XK}(h:ShV H v d) (q:Q (.bl (isW d)) H):zk1 [v] H Q E:=by unfold zk1;exact⟨v,d,rfl,h,q⟩
theorem zap4 {f:Addr}{fd:FuncData}(F:Fun K "is_whole" "is_whole" zo1 f fd) (N:Nm mg):FnOk P w K mg base CX0 1 f fd ["thing"] zk1:=by
 refine F.ok zao2 (fun vs H Q E h=>by unfold zk1 at h;obtain⟨_,_,rfl,_⟩:=h;rfl) (fun cdv A outer s H vs Q E hr h=>?_)
 unfold zk1 at h
 obtain⟨v,d,rfl,h,q⟩:=h
 refine⟨_,(za6 (zb1 (zy1 (pB (zy9 (K:=K) rfl) N.isinstance_ za7 (za0 (pq 0) (za0 (pTy N.int_ zal2) za1))) (zy0 (peNot (pB (zy9 (K:=K) rfl) N.isinstance_ za7 (za0 (pq 0) (za0 (pTy N.bool_ zbf6) za1)))))))),?_⟩
 refine zp2 h (.inl rfl) ?_
 cases h
 case int i=>
  refine br_T ?_
  refine zag1 ?_
  walk_at "wh"
  exact q
 case bl b=>
  refine br_T ?_
  refine zah2 ?_
  walk_at "wh"
  exact q
 all_goals (walk_at "wh";refine br_F ?_;walk_at "wh";exact q)
@[irreducible] def zk8:Sp:=fun vs H Q _=>∃ (v:V) (d:PyData) (l:Int),vs=[v,.int l]/\ShV H v d/\Q (.bl (zq9 l d)) H
theorem zap1 {H:Hp}{v:V}{d:PyData}{l:Int}{Q:VK}{E:XK}(h:ShV H v d) (q:Q (.bl (zq9 l d)) H):zk8 [v,.int l] H Q E:=by unfold zk8;exact⟨v,d,l,rfl,h,q⟩
theorem zaw5 {f:Addr}{fd:FuncData}(F:Fun K "is_from" "is_from" zq3 f fd) (N:Nm mg) (zbx5:Def P w K mg base CX0 1 "is_whole" ["thing"] zk1):FnOk P w K mg base CX0 2 f fd ["thing","least"] zk8:=by
 refine F.ok zau5 (fun vs H Q E h=>by unfold zk8 at h;obtain⟨_,_,_,rfl,_⟩:=h;rfl) (fun cdv A outer s H vs Q E hr h=>?_)
 unfold zk8 at h
 obtain⟨v,d,l,rfl,h,q⟩:=h
 refine⟨_,(za6 (zb1 (zy1 (pD zbx5 hr zb8 (za0 (pq 0) za1)) (zy0 (peC oLe (pq 1) (pq 0)))))),?_⟩
 refine zbo8 h ?_
 cases h
 case int i=>
  refine br_T ?_
  walk_at "wh"
  exact q
 all_goals (walk_at "wh";refine br_F ?_;walk_at "wh";exact q)
@[irreducible] def zd6:Sp:=fun vs H Q _=>∃ (v:V) (d:PyData) (l m:Int),vs=[v,.int l,.int m]/\ShV H v d/\Q (.bl (zy8 l m d)) H
theorem zbc3 {H:Hp}{v:V}{d:PyData}{l m:Int}{Q:VK}{E:XK}(h:ShV H v d) (q:Q (.bl (zy8 l m d)) H):zd6 [v,.int l,.int m] H Q E:=by unfold zd6;exact⟨v,d,l,m,rfl,h,q⟩
theorem zbe6 {H:Hp}{i l m:Int}{Q:VK}{E:XK}(q:Q (.bl (decide (l<=i/\i<=m))) H):zd6 [.int i,.int l,.int m] H Q E:=zbc3 (.int i) q
theorem zai7 {f:Addr}{fd:FuncData}(F:Fun K "is_between" "is_between" zk5 f fd) (N:Nm mg) (zbv7:Def P w K mg base CX0 2 "is_from" ["thing","least"] zk8):FnOk P w K mg base CX0 3 f fd ["thing","least","most"] zd6:=by
 refine F.ok zag2 (fun vs H Q E h=>by unfold zd6 at h;obtain⟨_,_,_,_,rfl,_⟩:=h;rfl) (fun cdv A outer s H vs Q E hr h=>?_)
 unfold zd6 at h
 obtain⟨v,d,l,m,rfl,h,q⟩:=h
 refine⟨_,(za6 (zb1 (zy1 (pD zbv7 hr zb8 (za0 (pq 0) (za0 (pq 1) za1))) (zy0 (peC oLe (pq 0) (pq 2)))))),?_⟩
 refine zap1 h ?_
 cases h
 case int i=>
  have q:Q (.bl (decide (l<=i/\i<=m))) H:=q
  refine zg1 (fun h=>?_) (fun h=>?_)
  ·walk_at "wh"
   rw[zbi2 h] at q
   exact q
  ·walk_at "wh"
   rw[zbi5 h] at q
   exact q
 all_goals (walk_at "wh";refine br_F ?_;walk_at "wh";exact q)
def za9:PyData->List PyData
 | .list ds=>ds
 | _=>[]
def intD:PyData->Int
 | .int i=>i
 | _=>0
theorem zv3 {l:Int}{d:PyData}(h:zq9 l d=true):∃ i:Int,d=.int i/\l<=i:=by
 cases d with
 | int i=>exact⟨i,rfl,of_decide_eq_true h⟩
 | _=>simp[zq9] at h
theorem zo6 {ds:List PyData}(h:sml (.list ds)=true):ds.length<=1000/\∀ d∈ds,sml d=true:=by
 simp only[sml,zcb1,decide_eq_true_eq] at h
 exact⟨h.1,zaf1 h.2⟩
theorem zae7 {ds:List PyData}(g:PyData->Bool):(List.range ds.length).map (fun i=>V.bl (g (ds.getD i .none)))=(ds.map g).map V.bl:=by
 apply zcg6
 intro i
 rw[zca1,zca1,zca1]
 by_cases h:i<ds.length
 ·rw[List.getElem?_range h,zbz6 h]
  simp[h]
 ·rw[zce3 (by simp;omega),zce3 (by walk_at "om")]
  rfl
theorem zas7 {ds:List PyData}(g:PyData->Bool):(ds.map g).all id=ds.all g:=by rw[List.all_map];rfl
theorem zbp5 {H:Hp}{xs:List V}{ds:List PyData}(l:ShL H xs ds) (e:xs.length=2):∃ x y a b,xs=[x,y]/\ds=[a,b]/\ShV H x a/\ShV H y b:=by
 cases l with
 | nil=>simp at e
 | cons h1 l=>
  cases l with
  | nil=>simp at e
  | cons h2 l=>
   cases l with
   | nil=>exact⟨_,_,_,_,rfl,rfl,h1,h2⟩
   | cons _ _=>simp at e
def zx3 (h f:Int):Bool:=decide (0<=h/\h<=40)&&decide (1<=f/\f<=8)
@[irreducible] def zm3:Sp:=fun vs H Q _=>∃ i l:Int,vs=[.int i,.int l]/\Q (.bl (zx3 i l)) H
theorem zbi7 {H:Hp}{i l:Int}{Q:VK}{E:XK}(q:Q (.bl (zx3 i l)) H):zm3 [.int i,.int l] H Q E:=by unfold zm3;exact⟨i,l,rfl,q⟩
theorem zau1 {f:Addr}{fd:FuncData}(F:Fun K "is_size" "is_size" zq1 f fd) (N:Nm mg) {zbw2:Tok}(c_MOST_FIELDS:mg "MOST_FIELDS"=some (.int 8 zbw2)) {zbw6:Tok}(c_MOST_HOSTS:mg "MOST_HOSTS"=some (.int 40 zbw6)) (zbu5:Def P w K mg base CX0 3 "is_between" ["thing","least","most"] zd6):FnOk P w K mg base CX0 4 f fd ["hosts","fields"] zm3:=by
 refine F.ok zaw2 (fun vs H Q E h=>by unfold zm3 at h;obtain⟨_,_,rfl,_⟩:=h;rfl) (fun cdv A outer s H vs Q E hr h=>?_)
 unfold zm3 at h
 obtain⟨i,l,rfl,q⟩:=h
 refine⟨_,(za6 (zb1 (zy1 (pD zbu5 hr zb8 (za0 (pq 0) (za0 za2 (za0 (zj5 (v:=.int 40) rfl c_MOST_HOSTS ⟨_,rfl⟩) za1)))) (zy0 (pD zbu5 hr zb8 (za0 (pq 1) (za0 za2 (za0 (zj5 (v:=.int 8) rfl c_MOST_FIELDS ⟨_,rfl⟩) za1)))))))),?_⟩
 refine zbe6 ?_
 walk_at "wh"
 unfold zx3 at q
 refine zg1 (fun h=>?_) (fun h=>?_)
 ·rw[decide_eq_true h,zce5] at q
  refine zbe6 ?_
  walk_at "wh"
  exact q
 ·rw[decide_eq_false h,Bool.false_and] at q
  walk_at "wh"
  exact q
theorem getD_some {ds:List PyData}{i:Nat}{d:PyData}(h:ds[i]?=some d):ds.getD i .none=d:=by rw[zca2,h];rfl
structure zl5 (H:Hp) (m:Addr) (ts:List (Addr×Addr)) (ms:List (List Int×Int)):Prop where
 out:H m=some (.lst (ts.map fun t=>V.ref t.1))
 len:ts.length=ms.length
 part:∀ (i:Nat) t x,ts[i]?=some t->ms[i]?=some x->H t.1=some (.tup [.ref t.2,.int x.2])/\H t.2=some (.lst (x.1.map V.int))
abbrev OkM (h f:Int) (ms:List (List Int×Int)):Prop:=1<=ms.length/\ms.length<=100/\((0<=h/\h<=40)/\1<=f/\f<=8)/\∀ x∈ms,(∀ n∈x.1,0<=n)/\(x.1.length:Int)=f/\x.1.sum=h/\1<=x.2
theorem zl5.same {H H':Hp}{m:Addr}{ts:List (Addr×Addr)}{ms:List (List Int×Int)}(M:zl5 H m ts ms) (s:Same H H'):zl5 H' m ts ms:=⟨s _ _ M.out,M.len,fun i t x h1 h2=>⟨s _ _ (M.part i t x h1 h2).1,s _ _ (M.part i t x h1 h2).2⟩⟩
theorem zl5.get {H:Hp}{m:Addr}{ts:List (Addr×Addr)}{ms:List (List Int×Int)}(M:zl5 H m ts ms) {i:Nat}(hi:i<ms.length):∃ t x,ts[i]?=some t/\ms[i]?=some x/\H t.1=some (.tup [.ref t.2,.int x.2])/\H t.2=some (.lst (x.1.map V.int)):=
 ⟨_,_,zbz6 (by have:=M.len;omega),zbz6 hi,M.part i _ _ (zbz6 (by have:=M.len;omega)) (zbz6 hi)⟩
theorem zl5.elt {H:Hp}{m:Addr}{ts:List (Addr×Addr)}{ms:List (List Int×Int)}(M:zl5 H m ts ms) {i:Nat}{v:V}(e:(ts.map fun t=>V.ref t.1)[i]?=some v):∃ t x,v=.ref t.1/\ts[i]?=some t/\ms[i]?=some x/\H t.1=some (.tup [.ref t.2,.int x.2])/\H t.2=some (.lst (x.1.map V.int)):=by
 rw[zca1] at e
 obtain⟨t,et,rfl⟩:=zca6.mp e
 obtain⟨t',x,h1,h2,h3⟩:=M.get (i:=i) (by have:=(zbz9.mp et).1;have:=M.len;omega)
 rw[et] at h1
 cases h1
 exact⟨t,x,rfl,et,h2,h3⟩
theorem zl5.ix {H:Hp}{m:Addr}{ts:List (Addr×Addr)}{ms:List (List Int×Int)}(M:zl5 H m ts ms) {k:Nat}{x:List Int×Int}(e:ms[k]?=some x):∃ t,ts[k]?=some t/\atI (ts.map fun t=>V.ref t.1) (k:Int)=some (.ref t.1)/\H t.1=some (.tup [.ref t.2,.int x.2])/\H t.2=some (.lst (x.1.map V.int)):=by
 obtain⟨t,x',h1,h2,h3⟩:=M.get (i:=k) ((zbz9.mp e).1)
 rw[e] at h2
 cases h2
 exact⟨t,h1,zi4 (by rw[zca1,h1];rfl),h3⟩
def rm (p:Addr) (H:Hp):Hp:=fun b=>if b=p then none else H b
def nw (H H':Hp):Hp:=fun b=>match H b with
 | none=>H' b
 | some _=>none
theorem zh6 {p b:Addr}{H:Hp}{o:HO}(n:b≠p) (h:H b=some o):rm p H b=some o:=by unfold rm;rw[if_neg n];exact h
theorem zh4 {p b:Addr}{H:Hp}{o:HO}(h:rm p H b=some o):b≠p/\H b=some o:=by
 unfold rm at h
 by_cases e:b=p
 ·rw[if_pos e] at h;cases h
 ·rw[if_neg e] at h;exact⟨e,h⟩
theorem zal0 {b:Addr}{H H':Hp}{o:HO}(n:H b=none) (h:H' b=some o):nw H H' b=some o:=by unfold nw;rw[n];exact h
theorem zu3 {b:Addr}{H H':Hp}{o:HO}(h:nw H H' b=some o):H b=none/\H' b=some o:=by
 unfold nw at h
 cases e:H b with
 | none=>rw[e] at h;exact⟨rfl,h⟩
 | some v=>rw[e] at h;cases h
theorem zp5 (p:Addr) (H:Hp):Same (rm p H) H:=fun b o h=>(zh4 h).2
theorem zab0 (H H':Hp):Same (nw H H') H':=fun b o h=>(zu3 h).2
theorem Same.rm {p:Addr}{H H':Hp}(s:Same H H'):Same (rm p H) (G.rm p H'):=fun b o h=>zh6 (zh4 h).1 (s _ _ (zh4 h).2)
theorem Chg.rm {p:Addr}{H H':Hp}(s:Chg p H H'):Same (rm p H) (G.rm p H'):=fun b o h=>zh6 (zh4 h).1 (s _ _ (zh4 h).1 (zh4 h).2)
theorem nw_up {H H' H'':Hp}(s:Same H' H''):Same (nw H H') (nw H H''):=fun b o h=>zal0 (zu3 h).1 (s _ _ (zu3 h).2)
theorem nw_rm {p:Addr}{o:HO}{H H':Hp}(hp:H p=some o):Same (nw H H') (rm p H'):=fun b o h=>zh6 (fun z=>by have:=(zu3 h).1;rw[z,hp] at this;cases this) (zu3 h).2
def zm0:PyData->Bool
 | .tuple [a,b,c]=>zq9 0 a&&zy8 0 (intD a) b&&zq9 1 c
 | _=>false
theorem zz2 {ds:List PyData}(h:ds.length≠3):zm0 (.tuple ds)=false:=by
 match ds,h with
 | [],_=>rfl
 | [_],_=>rfl
 | [_,_],_=>rfl
 | [_,_,_],h=>simp at h
 | _ :: _ :: _ :: _ :: _,_=>rfl
theorem zab3 {H:Hp}{xs:List V}{ds:List PyData}(l:ShL H xs ds) (e:xs.length=3):∃ x y z a b c,xs=[x,y,z]/\ds=[a,b,c]/\ShV H x a/\ShV H y b/\ShV H z c:=by
 cases l with
 | nil=>simp at e
 | cons h1 l=>
  obtain⟨y,z,b,c,rfl,rfl,h2,h3⟩:=zbp5 l (by simpa using e)
  exact⟨_,_,_,_,_,_,rfl,rfl,h1,h2,h3⟩
@[irreducible] def zm4:Sp:=fun vs H Q _=>∃ (v:V) (d:PyData),vs=[v]/\ShV H v d/\Q (.bl (zm0 d)) H
theorem zbk5 {H:Hp}{v:V}{d:PyData}{Q:VK}{E:XK}(h:ShV H v d) (q:Q (.bl (zm0 d)) H):zm4 [v] H Q E:=by unfold zm4;exact⟨v,d,rfl,h,q⟩
theorem zau4 {f:Addr}{fd:FuncData}(F:Fun K "is_flow" "is_flow" zq2 f fd) (N:Nm mg) (zbu5:Def P w K mg base CX0 3 "is_between" ["thing","least","most"] zd6) (zbv7:Def P w K mg base CX0 2 "is_from" ["thing","least"] zk8):FnOk P w K mg base CX0 4 f fd ["thing"] zm4:=by
 refine F.ok zaw6 (fun vs H Q E h=>by unfold zm4 at h;obtain⟨_,_,rfl,_⟩:=h;rfl) (fun cdv A outer s H vs Q E hr h=>?_)
 unfold zm4 at h
 obtain⟨v,d,rfl,h,q⟩:=h
 have hu:=hu40 hr
 refine⟨_,(za3 (psIf (ptW (pwOr (zl8 (ptV (pB (zy9 (K:=K) rfl) N.isinstance_ za7 (za0 (pq 0) (za0 (pTy N.tuple_ zt4) za1))))) (zr5 (ptC (zw4 (K:=K) rfl (by exact hu)) (pB (zq5 (K:=K) rfl) N.len_ zl1 (za0 (pq 0) za1)) za2)))) (za6 (zb1 zn1)) zb5)
   (za6 (zb1 (zy1 (pD zbv7 hr zb8 (za0 (zc5 (K:=K) rfl (pq 0) za2) (za0 za2 za1))) (zy1 (pD zbu5 hr zb8 (za0 (zc5 (K:=K) rfl (pq 0) za2) (za0 za2 (za0 (zc5 (K:=K) rfl (pq 0) za2) za1)))) (zy0 (pD zbv7 hr zb8 (za0 (zc5 (K:=K) rfl (pq 0) za2) (za0 za2 za1))))))))),?_⟩
 refine zp2 h (.inr (.inr (.inr rfl))) ?_
 cases h
 case tup t xs ds e l=>
  have ll:=l.len
  refine zc4 (br_T ?_)
  refine zaq0 e ?_
  refine zc4 (zg1 (fun h3=>?_) (fun h3=>?_))
  ·obtain⟨x,y,z,a,b,c,rfl,rfl,ha,hb,hc⟩:=zab3 l (by walk_at "om")
   have q:Q (.bl (zq9 0 a&&zy8 0 (intD a) b&&zq9 1 c)) H:=q
   refine zl4 (v:=x) e rfl ?_
   refine zap1 ha ?_
   cases e1:zq9 0 a
   ·rw[e1] at q
    refine br_F ?_
    walk_at "wh"
    exact q
   ·rw[e1,zce5] at q
    obtain⟨i,rfl,hi⟩:=zv3 e1
    cases ha
    refine br_T ?_
    refine zl4 (v:=y) e rfl ?_
    refine zl4 (v:=.int i) e rfl ?_
    refine zbc3 hb ?_
    have q:Q (.bl (zy8 0 i b&&zq9 1 c)) H:=q
    cases e2:zy8 0 i b
    ·rw[e2] at q
     refine br_F ?_
     walk_at "wh"
     exact q
    ·rw[e2,zce5] at q
     refine br_T ?_
     refine zl4 (v:=z) e rfl ?_
     refine zap1 hc ?_
     walk_at "wh"
     exact q
  ·rw[zz2 (by walk_at "om")] at q
   walk_at "wh"
   exact q
 all_goals (walk_at "wh";refine zc4 (br_F ?_);walk_at "wh";refine br_T ?_;walk_at "wh";exact q)
theorem zay9 {l m:Int}{d:PyData}(h:zy8 l m d=true):∃ i,d=.int i/\l<=i/\i<=m:=by
 cases d with
 | int i=>have:=of_decide_eq_true h;exact⟨i,rfl,this⟩
 | _=>simp[zy8] at h
theorem zad3 {H:Hp}{v:V}{d:PyData}(h:ShV H v d) (e:zm0 d=true):∃ (t:Addr) (i j w:Int),v=.ref t/\H t=some (.tup [.int i,.int j,.int w])/\d=.tuple [.int i,.int j,.int w]/\0<=j/\j<=i/\1<=w:=by
 cases h
 case tup t xs ds e1 l=>
  have l3:ds.length=3:=Classical.byContradiction fun z=>by rw[zz2 z] at e;cases e
  obtain⟨x,y,z,a,b,c,rfl,rfl,ha,hb,hc⟩:=zab3 l (by rw[l.len];exact l3)
  have e:(zq9 0 a&&zy8 0 (intD a) b&&zq9 1 c)=true:=e
  rw[zcb1,zcb1] at e
  obtain⟨i,rfl,hi⟩:=zv3 e.1.1
  obtain⟨j,rfl,hj1,hj2⟩:=zay9 e.1.2
  obtain⟨w,rfl,hw⟩:=zv3 e.2
  cases ha
  cases hb
  cases hc
  exact⟨t,i,j,w,rfl,e1,rfl,hj1,hj2,hw⟩
 all_goals simp[zm0] at e
def keyD:PyData->Int×Int
 | .tuple (a :: b :: _)=>(intD a,intD b)
 | _=>(0,0)
def incD (ds:List PyData):Bool:=(List.range (ds.length - 1)).all fun i=>ltP (keyD (ds.getD i .none)) (keyD (ds.getD (i+1) .none))
def rowD:PyData->Bool
 | .list ds=>ds.all zm0&&incD ds
 | _=>false
@[irreducible] def zn0:Sp:=fun vs H Q _=>∃ (v:V) (d:PyData),vs=[v]/\ShV H v d/\sml d=true/\∀ H',Same H H'->Q (.bl (rowD d)) H'
theorem zaz7 {H:Hp}{v:V}{d:PyData}{Q:VK}{E:XK}(h:ShV H v d) (hs:sml d=true) (q:∀ H',Same H H'->Q (.bl (rowD d)) H'):zn0 [v] H Q E:=by unfold zn0;exact⟨v,d,rfl,h,hs,q⟩
theorem zbd5 {f:Addr}{fd:FuncData}(F:Fun K "is_row" "is_row" zs9 f fd) (N:Nm mg) (zbx7:Def P w K mg base CX0 4 "is_flow" ["thing"] zm4):FnOk P w K mg base CX0 5 f fd ["row"] zn0:=by
 refine F.ok zbg0 (fun vs H Q E h=>by unfold zn0 at h;obtain⟨_,_,rfl,_⟩:=h;rfl) (fun cdv A outer s H vs Q E hr h=>?_)
 unfold zn0 at h
 obtain⟨v,d,rfl,h,hs,q⟩:=h
 have hu:=hu40 hr
 refine⟨_,(za3 (psIf (ptW (pwOr (zl8 (ptV (pB (zy9 (K:=K) rfl) N.isinstance_ za7 (za0 (pq 0) (za0 (pTy N.list_ zl2) za1))))) (zr5 (zl8 (ptV (pB (zaw3 (K:=K) rfl rfl) N.all_ zaf0 (za0 (zm9 (N:=["thing"]) (ks:=[none]) (zg4 (K:=K) rfl (pq 0)) (fun cl C s3 H3 fp=>(za8 (i:=0) nb_0 rfl (by first|exact Or.inl rfl|exact Or.inr rfl))) (fun cl C s3 H3 fp=>zi7) (fun cl C s3 H3 fp=>(pD zbx7 hr zb8 (za0 (pq 0) za1))) (.skip .nil)) za1))))))) (za6 (zb1 zn1)) zb5)
   (za6 (zb1 (pB (zaw3 (K:=K) rfl rfl) N.all_ zaf0 (za0 (zm9 (N:=["one","other"]) (ks:=[none,none]) (zbm4 (K:=K) rfl N.zip_ (za0 (pq 0) (za0 (zh3 (slXK (K:=K) rfl) (pq 0) (zo3 za2) zj9) za1))) (fun cl C s3 H3 fp=>(zp9 (K:=K) (n:=2) rfl rfl (zc1 (za8 (i:=0) nb_1 rfl (by first|exact Or.inl rfl|exact Or.inr rfl)) (zc1 (za8 (i:=1) nb_1 rfl (by first|exact Or.inl rfl|exact Or.inr rfl)) zp7)))) (fun cl C s3 H3 fp=>zi7) (fun cl C s3 H3 fp=>(peC (oLtX (by exact hu)) (zh3 (slXK (K:=K) rfl) (pq 0) zj9 (zo3 za2)) (zh3 (slXK (K:=K) rfl) (pq 1) zj9 (zo3 za2)))) (.skip (.skip .nil))) za1))))),?_⟩
 refine zp2 h (.inr (.inr (.inl rfl))) ?_
 cases h
 case lst a xs ds e l=>
  have ll:=l.len
  obtain⟨dl,dm⟩:=zo6 hs
  refine zc4 (br_T ?_)
  refine zc3 e ?_
  refine zs7 (Wk.list (SqL.of e)) (by rw[sizeLine_eq];omega) (fun i=>.bl (zm0 (ds.getD i .none))) (fun _=>true) (fun j σ=>∃ t:Option V,σ=[t]) ⟨none,rfl⟩ ?_ ?_
  ·rintro j x σ H1 R S hj s1 hx ⟨t,rfl⟩ k _
   obtain⟨d,ed,hd⟩:=l.get j x hx
   refine br_T ?_
   refine zbk5 (hd.same s1) ?_
   walk_at "wh"
   rw[← getD_some ed]
   exact k rfl _ _ (Same.refl _) ⟨_,rfl⟩
  intro acc H1 f1 s1 h1
  rw[zp1,ll,zae7 zm0] at h1
  refine zae9 h1 ?_
  rw[zas7]
  cases ea:ds.all zm0
  ·walk_at "wh"
   refine zc4 (br_F ?_)
   walk_at "wh"
   have q:Q (.bl (ds.all zm0&&incD ds)) H1:=q _ s1
   rw[ea] at q
   exact q
  have ea':∀ d∈ds,zm0 d=true:=zcc0.mp ea
  refine zc4 (br_T ?_)
  have e1:=s1 _ _ e
  refine zr2 (SqL.of e1) (fun p2 H2 f2 s2 h2=>?_)
  rw[zt1 (by walk_at "om")] at h2
  refine zbm2 (SqL.of (s2 _ _ e1)) (SqL.of h2) ?_
  refine zs7 (Wk.zipN (n:=ds.length - 1) (SqL.of (s2 _ _ e1)) (SqL.of h2) (by walk_at "om") (by rw[zcd2];show _<=_ - 1;omega) (.inr (by rw[zcd2,ll];rfl))) (by rw[sizeLine_eq];omega) (fun i=>.bl (ltP (keyD (ds.getD i .none)) (keyD (ds.getD (i+1) .none)))) (fun _=>true) (fun j σ=>∃ t u:Option V,σ=[t,u]) ⟨none,none,rfl⟩ ?_ ?_
  ·rintro j v σ H3 R S hj s3 ⟨p,x,y,rfl,hp,hx,hy⟩ ⟨t,u,rfl⟩ k _
   rw[zcg1,show (1:Int).toNat+j=j+1 by show 1+j=j+1;omega] at hy
   obtain⟨d,ed,hd⟩:=l.get j x hx
   obtain⟨d',ed',hd'⟩:=l.get (j+1) y hy
   have s03:=(s1.trans s2).trans s3
   obtain⟨t1,i1,j1,w1,rfl,ht1,rfl,_⟩:=zad3 (hd.same s03) (ea' d (zca0 ed))
   obtain⟨t2,i2,j2,w2,rfl,ht2,rfl,_⟩:=zad3 (hd'.same s03) (ea' d' (zca0 ed'))
   rw[getD_some ed,getD_some ed'] at k
   refine zl0 hp ?_
   refine br_T ?_
   refine zat0 ht1 (fun p4 H4 f4 s4 h4=>?_)
   refine zat0 (s4 _ _ ht2) (fun p5 H5 f5 s5 h5=>?_)
   refine ltP_rd (x:=(i1,j1)) (y:=(i2,j2)) (s5 _ _ h4) h5 ?_
   walk_at "wh"
   exact k rfl _ _ (s4.trans s5) ⟨_,_,rfl⟩
  intro acc2 H3 f3 s3 h3
  rw[zp1] at h3
  have h3:H3 acc2=some (.lst (((List.range (ds.length - 1)).map fun i=>ltP (keyD (ds.getD i .none)) (keyD (ds.getD (i+1) .none))).map V.bl)):=by rw[h3,zcc8];rfl
  refine zae9 h3 ?_
  have q:Q (.bl (ds.all zm0&&incD ds)) H3:=q _ ((s1.trans s2).trans s3)
  rw[ea,zce5] at q
  rw[List.all_map]
  exact q
 all_goals (walk_at "wh";refine zc4 (br_F ?_);walk_at "wh";refine br_T ?_;walk_at "wh";exact q _ (Same.refl _))
def valG {κ:Type}[DecidableEq κ] (kv:List (κ×Int)) (k:κ):Option Int:=(kv.find? fun z=>decide (z.1=k)).map (·.2)
def putG {κ:Type}[DecidableEq κ] (kv:List (κ×Int)) (k:κ) (n:Int):List (κ×Int):=if (kv.any fun z=>decide (z.1=k))=true then kv.map (fun z=>if z.1=k then (z.1,n) else z) else kv++[(k,n)]
def addG {κ:Type}[DecidableEq κ] (s:List (κ×Int)) (z:κ×Int):List (κ×Int):=putG s z.1 ((valG s z.1).getD 0+z.2)
def sumG {κ:Type}[DecidableEq κ] (zs:List (κ×Int)):List (κ×Int):=zs.foldl addG []
def dF {κ κ':Type}(f:κ->κ') (kv:List (κ×Int)):List (κ'×V):=kv.map fun z=>(f z.1,V.int z.2)
section
variable {κ κ':Type}[DecidableEq κ] [DecidableEq κ']
theorem zn6 {z:κ×Int}{kv:List (κ×Int)}{k:κ}(e:z.1=k):valG (z :: kv) k=some z.2:=by unfold valG;rw[zcf6,decide_eq_true e];rfl
theorem zn5 {z:κ×Int}{kv:List (κ×Int)}{k:κ}(e:¬ z.1=k):valG (z :: kv) k=valG kv k:=by unfold valG;rw[zcf6,decide_eq_false e]
theorem zu7 {f:κ->κ'}(hf:∀ a b,f a=f b->a=b) (k:κ):∀ kv:List (κ×Int),valV (dF f kv) (f k)=(valG kv k).map V.int
 | []=>rfl
 | z :: kv=>by
  show valV ((f z.1,V.int z.2) :: dF f kv) (f k)=_
  by_cases e:z.1=k
  ·rw[zv0 (p:=(f z.1,V.int z.2)) (congrArg f e),zn6 e];rfl
  ·rw[zv6 (p:=(f z.1,V.int z.2)) (fun q=>e (hf _ _ q)),zu7 hf k kv,zn5 e]
theorem zaa1 {f:κ->κ'}(hf:∀ a b,f a=f b->a=b) (kv:List (κ×Int)) (k:κ) (n:Int):putK (dF f kv) (f k) (.int n)=dF f (putG kv k n):=by
 unfold putK putG dF
 have e1:((kv.map fun z=>(f z.1,V.int z.2)).any fun kv=>decide (kv.1=f k))=kv.any fun z=>decide (z.1=k):=by
  rw[List.any_map]
  congr 1;funext z
  exact decide_eq_decide.mpr ⟨hf _ _,congrArg f⟩
 rw[e1]
 split
 ·rw[zcc8,zcc8]
  refine zce1 fun z _=>?_
  show (if f z.1=f k then (f z.1,V.int n) else (f z.1,V.int z.2))=(f (if z.1=k then (z.1,n) else z).1,V.int (if z.1=k then (z.1,n) else z).2)
  by_cases e:z.1=k
  ·rw[if_pos (congrArg f e),if_pos e]
  ·rw[if_neg (fun q=>e (hf _ _ q)),if_neg e]
 ·rw[zcc6];rfl
theorem zbj8 (kv:List (κ×Int)) (k:κ) (n:Int):(putG kv k n).length<=kv.length+1:=by
 unfold putG
 split
 ·rw[zbz7];omega
 ·rw[zca7];exact zcb6 _
theorem zad1 (zs:List (κ×Int)) (z:κ×Int):sumG (zs++[z])=addG (sumG zs) z:=by unfold sumG;rw[List.foldl_append];rfl
theorem zq7 (zs:List (κ×Int)):(sumG zs).length<=zs.length:=by
 have:∀ (zs s:List (κ×Int)),(zs.foldl addG s).length<=s.length+zs.length:=fun zs=>by
  induction zs with
  | nil=>exact fun s=>zcb6 _
  | cons z zs ih=>
   intro s
   have h1:=ih (addG s z)
   have h2:(addG s z).length<=s.length+1:=zbj8 _ _ _
   rw[List.foldl_cons,zcd0]
   omega
 have:=this zs []
 unfold sumG
 simpa using this
theorem zr4 {zs:List (κ×Int)}{i:Nat}{z:κ×Int}(h:zs[i]?=some z):sumG (zs.take (i+1))=addG (sumG (zs.take i)) z:=by
 rw[zci4,h];exact zad1 _ _
end
theorem zt5 (a b:Int) (h:(Sum.inl a:Key)=Sum.inl b):a=b:=Sum.inl.inj h
theorem zaa4 (a b:Int×Int) (h:pK a=pK b):a=b:=by
 unfold pK at h
 simp only[List.cons.injEq,Sum.inl.injEq,and_true] at h
 exact Prod.ext h.1 h.2
@[irreducible] def zo8:Sp:=fun vs H Q _=>
 (∃ (p:Addr) (ts:List Addr) (zs:List (Int×Int)),vs=[.ref p]/\H p=some (.lst (ts.map V.ref))/\ts.length=zs.length/\zs.length<=2000/\(∀ (i:Nat) t z,ts[i]?=some t->zs[i]?=some z->H t=some (.tup [.int z.1,.int z.2]))/\∀ r H',H r=none->Same H H'->H' r=some (.dK (dF Sum.inl (sumG zs)))->Q (.ref r) H') ∨
 ∃ (p:Addr) (ts:List (Addr×Addr)) (zs:List ((Int×Int)×Int)),vs=[.ref p]/\H p=some (.lst (ts.map fun t=>V.ref t.1))/\ts.length=zs.length/\zs.length<=2000/\(∀ (i:Nat) t z,ts[i]?=some t->zs[i]?=some z->H t.1=some (.tup [.ref t.2,.int z.2])/\H t.2=some (.tup (pV z.1)))/\∀ r H',H r=none->Same H H'->H' r=some (.dT (dF pK (sumG zs)))->Q (.ref r) H'
theorem zaf8 {H:Hp}{p:Addr}{ts:List Addr}{zs:List (Int×Int)}{Q:VK}{E:XK}(hp:H p=some (.lst (ts.map V.ref))) (hl:ts.length=zs.length) (hz:zs.length<=2000) (ht:∀ (i:Nat) t z,ts[i]?=some t->zs[i]?=some z->H t=some (.tup [.int z.1,.int z.2])) (q:∀ r H',H r=none->Same H H'->H' r=some (.dK (dF Sum.inl (sumG zs)))->Q (.ref r) H'):zo8 [.ref p] H Q E:=by
 unfold zo8;exact .inl ⟨p,ts,zs,rfl,hp,hl,hz,ht,q⟩
theorem zax8 {f:Addr}{fd:FuncData}(F:Fun K "summed" "summed" zt2 f fd) (N:Nm mg):FnOk P w K mg base CX0 1 f fd ["pairs"] zo8:=by
 refine F.ok zv4 (fun vs H Q E h=>by unfold zo8 at h;rcases h with ⟨_,_,_,rfl,_⟩|⟨_,_,_,rfl,_⟩<;>rfl) (fun cdv A outer s H vs Q E hr h=>?_)
 unfold zo8 at h
 have hu:=hu40 hr
 refine⟨_,(za3 (psS (i:=1) zv4.nd zai5)
   (za3 (zt7 PassesOwn.never rfl (zg4 (K:=K) rfl (pq 0)) (zp9 (K:=K) (n:=2) rfl rfl (zc1 (za8 (i:=2) zv4.nd rfl (by first|exact Or.inl rfl|exact Or.inr rfl)) (zc1 (za8 (i:=3) zv4.nd rfl (by first|exact Or.inl rfl|exact Or.inr rfl)) zp7))) (za6 (zas0 (by exact hu) (pq 1) (pq 2) (zb4 oAdd (zz1 (by exact hu) (pq 1) (pq 2) za2) (pq 3)))))
   (za6 (zb1 (pq 1))))),?_⟩
 rcases h with ⟨p,ts,zs,rfl,hp,hl,hz,ht,q⟩|⟨p,ts,zs,rfl,hp,hl,hz,ht,q⟩
 ·walk_at "wh"
  refine zay8 (fun r H1 f1 s1 h1=>?_)
  have npr:p≠r:=za4 hp f1
  refine zc3 (s1 _ _ hp) ?_
  refine zh5 (xs:=ts.map V.ref) (fun i σ I=>∃ t u:Option V,σ=[some (.ref p),some (.ref r),t,u]/\Chg r H1 I/\I r=some (.dK (dF Sum.inl (sumG (zs.take i))))) ?_ ?_ ?_ ?_
  ·exact⟨_,_,rfl,Chg.refl _ _,h1⟩
  ·rintro i σ I _ ⟨_,_,_,c,_⟩
   exact SqL.of (c _ _ npr (s1 _ _ hp))
  ·rintro i v σ I hi ⟨t',u',rfl,c,hr'⟩
   rw[zca1] at hi
   obtain⟨t,et,rfl⟩:=zca6.mp hi
   obtain⟨z,ez⟩:∃ z,zs[i]?=some z:=⟨_,zbz6 (by have:=(zbz9.mp et).1;omega)⟩
   have e0:=ht i t z et ez
   have e1:=c _ _ (za4 e0 f1) (s1 _ _ e0)
   refine zl0 e1 ?_
   refine zao4 hr' ?_
   refine zaq2 hr' ?_
   have ev:(valV (dF Sum.inl (sumG (zs.take i))) (Sum.inl z.1:Key)).getD (V.int 0)=.int ((valG (sumG (zs.take i)) z.1).getD 0):=by
    rw[zu7 zt5]
    cases valG (sumG (zs.take i)) z.1<;>rfl
   rw[ev]
   refine zaz6 hr' (by unfold dF;rw[zbz7,sizeLine_eq];have:=zq7 (zs.take i);rw[zcb8] at this;omega) (fun I2 c2 h2=>?_)
   rw[zaa1 zt5] at h2
   walk_at "wh"
   exact⟨_,_,rfl,c.trans c2,by rw[zr4 ez];exact h2⟩
  ·rintro σ I ⟨t',u',rfl,c,hr'⟩
   rw[zbz7,hl,zcf7] at hr'
   walk_at "wh"
   exact q r I f1 (s1.chg f1 c) hr'
 ·walk_at "wh"
  refine zbl8 (fun r H1 f1 s1 h1=>?_)
  have npr:p≠r:=za4 hp f1
  refine zc3 (s1 _ _ hp) ?_
  refine zh5 (xs:=ts.map fun t=>V.ref t.1) (fun i σ I=>∃ t u:Option V,σ=[some (.ref p),some (.ref r),t,u]/\Chg r H1 I/\I r=some (.dT (dF pK (sumG (zs.take i))))) ?_ ?_ ?_ ?_
  ·exact⟨_,_,rfl,Chg.refl _ _,h1⟩
  ·rintro i σ I _ ⟨_,_,_,c,_⟩
   exact SqL.of (c _ _ npr (s1 _ _ hp))
  ·rintro i v σ I hi ⟨t',u',rfl,c,hr'⟩
   rw[zca1] at hi
   obtain⟨t,et,rfl⟩:=zca6.mp hi
   obtain⟨z,ez⟩:∃ z,zs[i]?=some z:=⟨_,zbz6 (by have:=(zbz9.mp et).1;omega)⟩
   obtain⟨e0,e0'⟩:=ht i t z et ez
   have e1:=c _ _ (za4 e0 f1) (s1 _ _ e0)
   have e2:=c _ _ (za4 e0' f1) (s1 _ _ e0')
   refine zl0 e1 ?_
   refine zbb3 hr' ?_
   refine zbc6 hr' (k:=pK z.1) e2 ?_
   have ev:(valV (dF pK (sumG (zs.take i))) (pK z.1)).getD (V.int 0)=.int ((valG (sumG (zs.take i)) z.1).getD 0):=by
    rw[zu7 zaa4]
    cases valG (sumG (zs.take i)) z.1<;>rfl
   rw[ev]
   refine zbn3 hr' (k:=pK z.1) e2 (by unfold dF;rw[zbz7,sizeLine_eq];have:=zq7 (zs.take i);rw[zcb8] at this;omega) (fun I2 c2 h2=>?_)
   rw[zaa1 zaa4] at h2
   walk_at "wh"
   exact⟨_,_,rfl,c.trans c2,by rw[zr4 ez];exact h2⟩
  ·rintro σ I ⟨t',u',rfl,c,hr'⟩
   rw[zbz7,hl,zcf7] at hr'
   walk_at "wh"
   exact q r I f1 (s1.chg f1 c) hr'
def triD:PyData->Int×Int×Int
 | .tuple [a,b,c]=>(intD a,intD b,intD c)
 | _=>(0,0,0)
def rowF (d:PyData):List (Int×Int×Int):=(za9 d).map triD
def zj7:PyData->Bool
 | .list ds=>decide (0<ds.length)&&rowD (ds.getD 0 .none)&&decide (0<(za9 (ds.getD 0 .none)).length)
 | _=>false
theorem zv7 {H:Hp}{v:V}{d:PyData}(h:ShV H v d) (e:rowD d=true):∃ (a:Addr) (ts:List Addr) (ds:List PyData),v=.ref a/\d=.list ds/\H a=some (.lst (ts.map V.ref))/\ts.length=ds.length/\(∀ (i:Nat) t x,ts[i]?=some t->(rowF d)[i]?=some x->H t=some (.tup [.int x.1,.int x.2.1,.int x.2.2]))/\∀ x∈rowF d,0<=x.2.1/\x.2.1<=x.1/\1<=x.2.2:=by
 cases h
 case lst a xs ds e1 l=>
  have e:(ds.all zm0&&incD ds)=true:=e
  have ea:=zcc0.mp (Bool.and_eq_true_iff.mp e).1
  have key:∀ {xs:List V}{ds:List PyData},ShL H xs ds->(∀ d∈ds,zm0 d=true)->∃ ts:List Addr,xs=ts.map V.ref/\(∀ (i:Nat) t x,ts[i]?=some t->(ds.map triD)[i]?=some x->H t=some (.tup [.int x.1,.int x.2.1,.int x.2.2]))/\∀ x∈ds.map triD,0<=x.2.1/\x.2.1<=x.1/\1<=x.2.2:=fun {xs ds} l ea=>by
   induction ds generalizing xs with
   | nil=>cases l;exact⟨[],rfl,fun i t x h=>by simp at h,fun x h=>by cases h⟩
   | cons d ds ih=>
    cases l with
    | cons h1 l=>
     obtain⟨ts,rfl,k1,k2⟩:=ih l fun d hd=>ea d (.tail _ hd)
     obtain⟨t,i,j,w,rfl,ht,rfl,hj1,hj2,hw⟩:=zad3 h1 (ea _ (.head _))
     refine⟨t :: ts,rfl,fun n t' x g1 g2=>?_,fun x hx=>?_⟩
     ·match n with
      | 0=>cases g1;cases g2;exact ht
      | n+1=>exact k1 n t' x g1 g2
     ·rcases zcb3.mp hx with rfl|hx
      ·exact⟨hj1,hj2,hw⟩
      ·exact k2 x hx
  obtain⟨ts,rfl,k1,k2⟩:=key l ea
  exact⟨a,ts,ds,rfl,rfl,e1,by have:=l.len;rwa [zbz7] at this,k1,k2⟩
 all_goals simp[rowD] at e
theorem zf2 (ds:List PyData):(rowF (.list ds)).length=ds.length:=by unfold rowF;rw[zbz7];rfl
@[irreducible] def zn2:Sp:=fun vs H Q _=>∃ (v:V) (d:PyData),vs=[v]/\ShV H v d/\sml d=true/\∀ H',Same H H'->Q (.bl (zj7 d)) H'
theorem zaf7 {H:Hp}{v:V}{d:PyData}{Q:VK}{E:XK}(h:ShV H v d) (hs:sml d=true) (q:∀ H',Same H H'->Q (.bl (zj7 d)) H'):zn2 [v] H Q E:=by unfold zn2;exact⟨v,d,rfl,h,hs,q⟩
theorem zba3 {f:Addr}{fd:FuncData}(F:Fun K "begins" "begins" zs8 f fd) (N:Nm mg) (zbx0:Def P w K mg base CX0 5 "is_row" ["row"] zn0):FnOk P w K mg base CX0 6 f fd ["stream"] zn2:=by
 refine F.ok zaz5 (fun vs H Q E h=>by unfold zn2 at h;obtain⟨_,_,rfl,_⟩:=h;rfl) (fun cdv A outer s H vs Q E hr h=>?_)
 unfold zn2 at h
 obtain⟨v,d,rfl,h,hs,q⟩:=h
 have hu:=hu40 hr
 refine⟨_,(za6 (zb1 (zy1 (pB (zy9 (K:=K) rfl) N.isinstance_ za7 (za0 (pq 0) (za0 (pTy N.list_ zl2) za1))) (zy1 (peC oGt (pB (zq5 (K:=K) rfl) N.len_ zl1 (za0 (pq 0) za1)) za2) (zy1 (pD zbx0 hr zb8 (za0 (zc5 (K:=K) rfl (pq 0) za2) za1)) (zy0 (peC oGt (pB (zq5 (K:=K) rfl) N.len_ zl1 (za0 (zc5 (K:=K) rfl (pq 0) za2) za1)) za2))))))),?_⟩
 refine zp2 h (.inr (.inr (.inl rfl))) ?_
 cases h
 case lst a xs ds e l=>
  have ll:=l.len
  obtain⟨dl,dm⟩:=zo6 hs
  have q:∀ H',Same H H'->Q (.bl (decide (0<ds.length)&&rowD (ds.getD 0 .none)&&decide (0<(za9 (ds.getD 0 .none)).length))) H':=q
  refine br_T ?_
  refine zi3 e ?_
  rw[ll]
  refine zg1 (fun h0=>?_) (fun h0=>?_)
  ·rw[decide_eq_true (show 0<ds.length by walk_at "om"),zce5] at q
   obtain⟨x0,ex0⟩:∃ x,xs[0]?=some x:=⟨_,zbz6 (by walk_at "om")⟩
   obtain⟨d0,ed0,hd0⟩:=l.get 0 x0 ex0
   rw[getD_some ed0] at q
   have at0:atI xs 0=some x0:=zi4 (j:=0) ex0
   refine zd8 (v:=x0) e at0 ?_
   refine zaz7 hd0 (dm d0 (zca0 ed0)) (fun H1 s1=>?_)
   cases er:rowD d0
   ·have q:=q _ s1
    rw[er] at q
    refine br_F ?_
    walk_at "wh"
    exact q
   ·have q:=q _ s1
    rw[er,zce5] at q
    obtain⟨b,ts,es,rfl,rfl,hb,hl,_⟩:=zv7 hd0 er
    refine br_T ?_
    refine zd8 (v:=.ref b) (s1 _ _ e) at0 ?_
    refine zi3 (s1 _ _ hb) ?_
    rw[zbz7,hl]
    walk_at "wh"
    have ed:decide ((es.length:Int)>0)=decide (0<(za9 (.list es)).length):=decide_eq_decide.mpr (by show (es.length:Int)>0↔0<es.length;omega)
    first|(rw[← ed] at q;exact q)|exact q
  ·have q:=q _ (Same.refl _)
   rw[decide_eq_false (show ¬ 0<ds.length by walk_at "om")] at q
   walk_at "wh"
   exact q
 all_goals (walk_at "wh";refine br_F ?_;walk_at "wh";exact q _ (Same.refl _))
def zp0 (a b:PyData):Bool:=eqDI (sumG ((rowF a).map fun z=>(z.1 - z.2.1,z.2.2))) (sumG ((rowF b).map fun z=>(z.1,z.2.2)))
@[irreducible] def zq6:Sp:=fun vs H Q _=>∃ (v u:V) (d e:PyData),vs=[v,u]/\ShV H v d/\ShV H u e/\rowD d=true/\rowD e=true/\(za9 d).length<=1000/\(za9 e).length<=1000/\∀ H',Same H H'->Q (.bl (zp0 d e)) H'
theorem zbf3 {H:Hp}{v u:V}{d e:PyData}{Q:VK}{E:XK}(hv:ShV H v d) (hu:ShV H u e) (rd:rowD d=true) (re:rowD e=true) (ld:(za9 d).length<=1000) (le:(za9 e).length<=1000) (q:∀ H',Same H H'->Q (.bl (zp0 d e)) H'):zq6 [v,u] H Q E:=by unfold zq6;exact⟨v,u,d,e,rfl,hv,hu,rd,re,ld,le,q⟩
theorem zbh9 {f:Addr}{fd:FuncData}(F:Fun K "meets" "meets" zw5 f fd) (N:Nm mg) (zbx6:Def P w K mg base CX0 1 "summed" ["pairs"] zo8):FnOk P w K mg base CX0 2 f fd ["ahead","row"] zq6:=by
 refine F.ok zau0 (fun vs H Q E h=>by unfold zq6 at h;obtain⟨_,_,_,_,rfl,_⟩:=h;rfl) (fun cdv A outer s H vs Q E hr h=>?_)
 unfold zq6 at h
 obtain⟨v,u,d,e,rfl,hv,hu',rd,re,ld,le,q⟩:=h
 have hu:=hu40 hr
 obtain⟨a,ts,ds,rfl,rfl,ha,hl,hp,_⟩:=zv7 hv rd
 obtain⟨b,us,es,rfl,rfl,hb,hl',hp',_⟩:=zv7 hu' re
 have ld:ds.length<=1000:=ld
 have le:es.length<=1000:=le
 refine⟨_,(za3 (psS (i:=2) zau0.nd (pD zbx6 hr zb8 (za0 (zm9 (N:=["left","sent","flow"]) (ks:=[none,none,none]) (zg4 (K:=K) rfl (pq 0)) (fun cl C s3 H3 fp=>(zp9 (K:=K) (n:=3) rfl rfl (zc1 (za8 (i:=0) nb_2 rfl (by first|exact Or.inl rfl|exact Or.inr rfl)) (zc1 (za8 (i:=1) nb_2 rfl (by first|exact Or.inl rfl|exact Or.inr rfl)) (zc1 (za8 (i:=2) nb_2 rfl (by first|exact Or.inl rfl|exact Or.inr rfl)) zp7))))) (fun cl C s3 H3 fp=>zi7) (fun cl C s3 H3 fp=>(zr0 (za0 (zb4 oSub (pq 0) (pq 1)) (za0 (pq 2) za1)))) (.skip (.skip (.skip .nil)))) za1)))
   (za6 (zb1 (peC (zs1 (K:=K) rfl (by exact hu)) (pq 2) (pD zbx6 hr zb8 (za0 (zm9 (N:=["left","sent","flow"]) (ks:=[none,none,none]) (zg4 (K:=K) rfl (pq 1)) (fun cl C s3 H3 fp=>(zp9 (K:=K) (n:=3) rfl rfl (zc1 (za8 (i:=0) nb_2 rfl (by first|exact Or.inl rfl|exact Or.inr rfl)) (zc1 (za8 (i:=1) nb_2 rfl (by first|exact Or.inl rfl|exact Or.inr rfl)) (zc1 (za8 (i:=2) nb_2 rfl (by first|exact Or.inl rfl|exact Or.inr rfl)) zp7))))) (fun cl C s3 H3 fp=>zi7) (fun cl C s3 H3 fp=>(zr0 (za0 (pq 0) (za0 (pq 2) za1)))) (.skip (.skip (.skip .nil)))) za1)))))),?_⟩
 refine zc3 ha ?_
 refine zab6 (Wk.list (SqL.of ha)) (by rw[zbz7,sizeLine_eq];omega) (fun i=>.tup [.int (((rowF (.list ds)).getD i (0,0,0)).1 - ((rowF (.list ds)).getD i (0,0,0)).2.1),.int ((rowF (.list ds)).getD i (0,0,0)).2.2]) (fun j σ=>∃ t u w:Option V,σ=[t,u,w]) ⟨none,none,none,rfl⟩ ?_ ?_
 ·rintro i x σ I R S hi s1 hx ⟨_,_,_,rfl⟩ k
  rw[zbz7] at hi
  rw[zca1] at hx
  obtain⟨t,et,rfl⟩:=zca6.mp hx
  obtain⟨z,ez⟩:∃ z,(rowF (.list ds))[i]?=some z:=⟨_,zbz6 (by rw[zf2];omega)⟩
  rw[show (rowF (.list ds)).getD i (0,0,0)=z by rw[zca2,ez];rfl] at k
  refine zl0 (s1 _ _ (hp i t z et ez)) ?_
  refine br_T ?_
  refine zg3 (fun p I1 f1 r1 k1=>?_)
  walk_at "wh"
  exact k _ _ _ f1 r1 k1 ⟨_,_,_,rfl⟩
 rintro l1 ps1 H1 F1
 rw[zbz7] at F1
 refine zaf8 (zs:=(rowF (.list ds)).map fun z=>(z.1 - z.2.1,z.2.2)) F1.out (by rw[F1.len,zbz7,zf2];exact hl) (by rw[zbz7,zf2];omega) (fun i t z g1 g2=>?_) (fun r2 H2 f2 s2 h2=>?_)
 ·rw[zca1] at g2
  obtain⟨y,ey,rfl⟩:=zca6.mp g2
  have:=(F1.row i t g1).2
  rw[show (rowF (.list ds)).getD i (0,0,0)=y by rw[zca2,ey];rfl] at this
  exact this
 have hb2:=s2 _ _ (F1.same _ _ hb)
 refine zc3 hb2 ?_
 refine zab6 (Wk.list (SqL.of hb2)) (by rw[zbz7,sizeLine_eq];omega) (fun i=>.tup [.int ((rowF (.list es)).getD i (0,0,0)).1,.int ((rowF (.list es)).getD i (0,0,0)).2.2]) (fun j σ=>∃ t u w:Option V,σ=[t,u,w]) ⟨none,none,none,rfl⟩ ?_ ?_
 ·rintro i x σ I R S hi s1 hx ⟨_,_,_,rfl⟩ k
  rw[zbz7] at hi
  rw[zca1] at hx
  obtain⟨t,et,rfl⟩:=zca6.mp hx
  obtain⟨z,ez⟩:∃ z,(rowF (.list es))[i]?=some z:=⟨_,zbz6 (by rw[zf2];omega)⟩
  rw[show (rowF (.list es)).getD i (0,0,0)=z by rw[zca2,ez];rfl] at k
  refine zl0 (s1 _ _ (s2 _ _ (F1.same _ _ (hp' i t z et ez)))) ?_
  refine br_T ?_
  refine zg3 (fun p I1 f1 r1 k1=>?_)
  walk_at "wh"
  exact k _ _ _ f1 r1 k1 ⟨_,_,_,rfl⟩
 rintro l3 ps3 H3 F3
 rw[zbz7] at F3
 refine zaf8 (zs:=(rowF (.list es)).map fun z=>(z.1,z.2.2)) F3.out (by rw[F3.len,zbz7,zf2];exact hl') (by rw[zbz7,zf2];omega) (fun i t z g1 g2=>?_) (fun r4 H4 f4 s4 h4=>?_)
 ·rw[zca1] at g2
  obtain⟨y,ey,rfl⟩:=zca6.mp g2
  have:=(F3.row i t g1).2
  rw[show (rowF (.list es)).getD i (0,0,0)=y by rw[zca2,ey];rfl] at this
  exact this
 refine zbn0 (s4 _ _ (F3.same _ _ h2)) h4 ?_
 walk_at "wh"
 exact q _ (((F1.same.trans s2).trans F3.same).trans s4)
def zai0 (h:Int) (d:PyData):Bool:=(rowF d).all fun z=>decide (z.1=h)
def zap9 (d:PyData):Bool:=(rowF d).all fun z=>decide (z.1=z.2.1)
def zm8 (ds:List PyData):Bool:=(List.range (ds.length - 1)).all fun i=>zp0 (ds.getD i .none) (ds.getD (i+1) .none)
def zo4 (h f:Int) (d:PyData):Bool:=zj7 d&&(decide (((za9 d).length:Int)=f)&&((za9 d).all rowD&&(zai0 h ((za9 d).getD 0 .none)&&(zap9 ((za9 d).getD ((za9 d).length - 1) .none)&&zm8 (za9 d)))))
theorem zt6 {α:Type}(g:α->Bool) (xs:List α):(xs.map g).all id=xs.all g:=by rw[List.all_map];rfl
theorem zak2 {xs:List (Int×Int×Int)}(g:Int×Int×Int->Bool):(List.range xs.length).map (fun i=>V.bl (g (xs.getD i (0,0,0))))=(xs.map g).map V.bl:=by
 apply zcg6
 intro i
 rw[zca1,zca1,zca1]
 by_cases h:i<xs.length
 ·rw[List.getElem?_range h,zbz6 h]
  simp[h]
 ·rw[zce3 (by simp;omega),zce3 (by walk_at "om")]
  rfl
@[irreducible] def zi8:Sp:=fun vs H Q _=>∃ (h f:Int) (v:V) (d:PyData),vs=[.int h,.int f,v]/\ShV H v d/\sml d=true/\∀ H',Same H H'->Q (.bl (zo4 h f d)) H'
theorem zaw7 {H:Hp}{h f:Int}{v:V}{d:PyData}{Q:VK}{E:XK}(hv:ShV H v d) (hs:sml d=true) (q:∀ H',Same H H'->Q (.bl (zo4 h f d)) H'):zi8 [.int h,.int f,v] H Q E:=by unfold zi8;exact⟨h,f,v,d,rfl,hv,hs,q⟩
set_option maxHeartbeats 0 in
theorem zak4 {f:Addr}{fd:FuncData}(F:Fun K "is_stream" "is_stream" zl9 f fd) (N:Nm mg) (zbx1:Def P w K mg base CX0 6 "begins" ["stream"] zn2) (zbx0:Def P w K mg base CX0 5 "is_row" ["row"] zn0) (zby2:Def P w K mg base CX0 2 "meets" ["ahead","row"] zq6):FnOk P w K mg base CX0 7 f fd ["hosts","fields","stream"] zi8:=by
 refine F.ok zr8 (fun vs H Q E h=>by unfold zi8 at h;obtain⟨_,_,_,_,rfl,_⟩:=h;rfl) (fun cdv A outer s H vs Q E hr h=>?_)
 unfold zi8 at h
 obtain⟨h,f,v,d,rfl,hv,hs,q⟩:=h
 have hu:=hu40 hr
 refine⟨_,(za3 (psIf (ptW (pwOr (zl8 (ptV (pD zbx1 hr zb8 (za0 (pq 2) za1)))) (pwOr (ptC (zw4 (K:=K) rfl (by exact hu)) (pB (zq5 (K:=K) rfl) N.len_ zl1 (za0 (pq 2) za1)) (pq 1)) (zr5 (zl8 (ptV (pB (zaw3 (K:=K) rfl rfl) N.all_ zaf0 (za0 (zm9 (N:=["row"]) (ks:=[none]) (zg4 (K:=K) rfl (pq 2)) (fun cl C s3 H3 fp=>(za8 (i:=0) nb_3 rfl (by first|exact Or.inl rfl|exact Or.inr rfl))) (fun cl C s3 H3 fp=>zi7) (fun cl C s3 H3 fp=>(pD zbx0 hr zb8 (za0 (pq 0) za1))) (.skip .nil)) za1)))))))) (za6 (zb1 zn1)) zb5)
   (za3 (psS (i:=3) zr8.nd (pB (zaw3 (K:=K) rfl rfl) N.all_ zaf0 (za0 (zm9 (N:=["left","sent","flow","hosts"]) (ks:=[none,none,none,some 0]) (zg4 (K:=K) rfl (zc5 (K:=K) rfl (pq 2) za2)) (fun cl C s3 H3 fp=>(zp9 (K:=K) (n:=3) rfl rfl (zc1 (za8 (i:=0) nb_4 rfl (by first|exact Or.inl rfl|exact Or.inr rfl)) (zc1 (za8 (i:=1) nb_4 rfl (by first|exact Or.inl rfl|exact Or.inr rfl)) (zc1 (za8 (i:=2) nb_4 rfl (by first|exact Or.inl rfl|exact Or.inr rfl)) zp7))))) (fun cl C s3 H3 fp=>zi7) (fun cl C s3 H3 fp=>(peC (zs1 (K:=K) rfl (by exact hu)) (pq 0) (pq 3))) (.skip (.skip (.skip (.take rfl rfl (by first|exact Or.inl rfl|exact Or.inr rfl) .nil))))) za1)))
   (za3 (psS (i:=4) zr8.nd (pB (zaw3 (K:=K) rfl rfl) N.all_ zaf0 (za0 (zm9 (N:=["left","sent","flow"]) (ks:=[none,none,none]) (zg4 (K:=K) rfl (zc5 (K:=K) rfl (pq 2) (zaw0 uNeg za2))) (fun cl C s3 H3 fp=>(zp9 (K:=K) (n:=3) rfl rfl (zc1 (za8 (i:=0) nb_5 rfl (by first|exact Or.inl rfl|exact Or.inr rfl)) (zc1 (za8 (i:=1) nb_5 rfl (by first|exact Or.inl rfl|exact Or.inr rfl)) (zc1 (za8 (i:=2) nb_5 rfl (by first|exact Or.inl rfl|exact Or.inr rfl)) zp7))))) (fun cl C s3 H3 fp=>zi7) (fun cl C s3 H3 fp=>(peC (zs1 (K:=K) rfl (by exact hu)) (pq 0) (pq 1))) (.skip (.skip (.skip .nil)))) za1)))
   (za6 (zb1 (zy1 (pq 3) (zy1 (pq 4) (zy0 (pB (zaw3 (K:=K) rfl rfl) N.all_ zaf0 (za0 (zm9 (N:=["ahead","row"]) (ks:=[none,none]) (zbm4 (K:=K) rfl N.zip_ (za0 (pq 2) (za0 (zh3 (slXK (K:=K) rfl) (pq 2) (zo3 za2) zj9) za1))) (fun cl C s3 H3 fp=>(zp9 (K:=K) (n:=2) rfl rfl (zc1 (za8 (i:=0) nb_6 rfl (by first|exact Or.inl rfl|exact Or.inr rfl)) (zc1 (za8 (i:=1) nb_6 rfl (by first|exact Or.inl rfl|exact Or.inr rfl)) zp7)))) (fun cl C s3 H3 fp=>zi7) (fun cl C s3 H3 fp=>(pD zby2 hr zb8 (za0 (pq 0) (za0 (pq 1) za1)))) (.skip (.skip .nil))) za1)))))))))),?_⟩
 refine zaf7 hv hs (fun H1 s1=>?_)
 unfold zo4 at q
 cases eb:zj7 d
 ·have q:=q _ s1
  rw[eb] at q
  refine zc4 (br_F ?_)
  refine br_T ?_
  walk_at "wh"
  exact q
 cases hv
 case lst a xs ds e l=>
  have q:∀ H',Same H H'->Q (.bl (true&&(decide ((ds.length:Int)=f)&&(ds.all rowD&&(zai0 h (ds.getD 0 .none)&&(zap9 (ds.getD (ds.length - 1) .none)&&zm8 ds)))))) H':=fun H' s'=>by
   have q:=q H' s'
   rw[eb] at q
   exact q
  have ll:=l.len
  obtain⟨dl,dm⟩:=zo6 hs
  have d0:0<ds.length:=by
   have eb:(decide (0<ds.length)&&rowD (ds.getD 0 .none)&&decide (0<(za9 (ds.getD 0 .none)).length))=true:=eb
   rw[zcb1,zcb1] at eb
   exact of_decide_eq_true eb.1.1
  have e1:=s1 _ _ e
  refine zc4 (br_T ?_)
  refine zi3 e1 ?_
  rw[ll]
  refine zc4 (zg1 (fun hf=>?_) (fun hf=>?_))
  ·rw[decide_eq_true hf,zce5,zce5] at q
   refine zc3 e1 ?_
   refine zs7 (Wk.list (SqL.of e1)) (by rw[sizeLine_eq];omega) (fun i=>.bl (rowD (ds.getD i .none))) (fun _=>true) (fun j σ=>∃ t:Option V,σ=[t]) ⟨none,rfl⟩ ?_ ?_
   ·rintro j x σ H2 R S hj s2 hx ⟨t,rfl⟩ k _
    obtain⟨d,ed,hd⟩:=l.get j x hx
    refine br_T ?_
    refine zaz7 (hd.same (s1.trans s2)) (dm d (zca0 ed)) (fun H3 s3=>?_)
    walk_at "wh"
    rw[← getD_some ed]
    exact k rfl _ _ s3 ⟨_,rfl⟩
   intro acc H2 f2 s2 h2
   rw[zp1,ll,zae7 rowD] at h2
   have s02:=s1.trans s2
   refine zae9 h2 ?_
   rw[zas7]
   cases ea:ds.all rowD
   ·have q:=q _ s02
    rw[ea] at q
    refine zc4 (br_F ?_)
    walk_at "wh"
    exact q
   have ea':∀ d∈ds,rowD d=true:=zcc0.mp ea
   rw[ea,zce5] at q
   refine zc4 (br_T ?_)
   obtain⟨x0,ex0⟩:∃ x,xs[0]?=some x:=⟨_,zbz6 (by walk_at "om")⟩
   obtain⟨d0',ed0,hd0⟩:=l.get 0 x0 ex0
   have m0:=dm d0' (zca0 ed0)
   obtain⟨r0,ts0,es0,rfl,rfl,hr0,hl0,hp0,_⟩:=zv7 hd0 (ea' d0' (zca0 ed0))
   have b0:=(zo6 m0).1
   rw[getD_some ed0] at q
   have e2:=s2 _ _ e1
   refine zd8 (v:=.ref r0) e2 (zi4 (j:=0) ex0) ?_
   refine zc3 (s02 _ _ hr0) ?_
   refine zs7 (Wk.list (SqL.of (s02 _ _ hr0))) (by rw[zbz7,sizeLine_eq];omega) (fun i=>.bl (decide (((rowF (.list es0)).getD i (0,0,0)).1=h))) (fun _=>true) (fun j σ=>∃ t u w:Option V,σ=[t,u,w,some (.int h)]) ⟨none,none,none,rfl⟩ ?_ ?_
   ·rintro i x σ I R S hi s3 hx ⟨_,_,_,rfl⟩ k _
    rw[zbz7] at hi
    rw[zca1] at hx
    obtain⟨t,et,rfl⟩:=zca6.mp hx
    obtain⟨z,ez⟩:∃ z,(rowF (.list es0))[i]?=some z:=⟨_,zbz6 (by rw[zf2];omega)⟩
    rw[show (rowF (.list es0)).getD i (0,0,0)=z by rw[zca2,ez];rfl] at k
    refine zl0 (s3 _ _ (s02 _ _ (hp0 i t z et ez))) ?_
    refine br_T ?_
    walk_at "wh"
    exact k rfl _ _ (Same.refl _) ⟨_,_,_,rfl⟩
   intro acc3 H3 f3 s3 h3
   rw[zp1,zbz7,hl0,← zf2 es0,zak2 fun z=>decide (z.1=h)] at h3
   refine zae9 h3 ?_
   rw[zt6]
   obtain⟨x1,ex1⟩:∃ x,xs[ds.length - 1]?=some x:=⟨_,zbz6 (by walk_at "om")⟩
   obtain⟨d1',ed1,hd1⟩:=l.get _ x1 ex1
   have m1:=dm d1' (zca0 ed1)
   obtain⟨r1,ts1,es1,rfl,rfl,hr1,hl1,hp1,_⟩:=zv7 hd1 (ea' d1' (zca0 ed1))
   have b1:=(zo6 m1).1
   rw[getD_some ed1] at q
   have s03:=s02.trans s3
   have e3:=s3 _ _ e2
   refine zd8 (v:=.ref r1) e3 (zbd6 (n:=ds.length - 1) (by walk_at "om") ex1) ?_
   refine zc3 (s03 _ _ hr1) ?_
   refine zs7 (Wk.list (SqL.of (s03 _ _ hr1))) (by rw[zbz7,sizeLine_eq];omega) (fun i=>.bl (decide (((rowF (.list es1)).getD i (0,0,0)).1=((rowF (.list es1)).getD i (0,0,0)).2.1))) (fun _=>true) (fun j σ=>∃ t u w:Option V,σ=[t,u,w]) ⟨none,none,none,rfl⟩ ?_ ?_
   ·rintro i x σ I R S hi s4 hx ⟨_,_,_,rfl⟩ k _
    rw[zbz7] at hi
    rw[zca1] at hx
    obtain⟨t,et,rfl⟩:=zca6.mp hx
    obtain⟨z,ez⟩:∃ z,(rowF (.list es1))[i]?=some z:=⟨_,zbz6 (by rw[zf2];omega)⟩
    rw[show (rowF (.list es1)).getD i (0,0,0)=z by rw[zca2,ez];rfl] at k
    refine zl0 (s4 _ _ (s03 _ _ (hp1 i t z et ez))) ?_
    refine br_T ?_
    walk_at "wh"
    exact k rfl _ _ (Same.refl _) ⟨_,_,_,rfl⟩
   intro acc4 H4 f4 s4 h4
   rw[zp1,zbz7,hl1,← zf2 es1,zak2 fun z=>decide (z.1=z.2.1)] at h4
   refine zae9 h4 ?_
   rw[zt6]
   have s04:=s03.trans s4
   have e4:=s4 _ _ e3
   have q:∀ H',Same H H'->Q (.bl ((rowF (.list es0)).all (fun z=>decide (z.1=h))&&((rowF (.list es1)).all (fun z=>decide (z.1=z.2.1))&&zm8 ds))) H':=q
   walk_at "wh"
   cases e5:(rowF (.list es0)).all (fun z=>decide (z.1=h))
   ·have q:=q _ s04
    rw[e5] at q
    refine br_F ?_
    walk_at "wh"
    exact q
   rw[e5,zce5] at q
   refine br_T ?_
   walk_at "wh"
   cases e6:(rowF (.list es1)).all (fun z=>decide (z.1=z.2.1))
   ·have q:=q _ s04
    rw[e6] at q
    refine br_F ?_
    walk_at "wh"
    exact q
   rw[e6,zce5] at q
   refine br_T ?_
   refine zr2 (SqL.of e4) (fun p5 H5 f5 s5 h5=>?_)
   rw[zt1 (by walk_at "om")] at h5
   have s05:=s04.trans s5
   refine zbm2 (SqL.of (s5 _ _ e4)) (SqL.of h5) ?_
   refine zs7 (Wk.zipN (n:=ds.length - 1) (SqL.of (s5 _ _ e4)) (SqL.of h5) (by walk_at "om") (by rw[zcd2];show _<=_ - 1;omega) (.inr (by rw[zcd2,ll];rfl))) (by rw[sizeLine_eq];omega) (fun i=>.bl (zp0 (ds.getD i .none) (ds.getD (i+1) .none))) (fun _=>true) (fun j σ=>∃ t u:Option V,σ=[t,u]) ⟨none,none,rfl⟩ ?_ ?_
   ·rintro j v σ H6 R S hj s6 ⟨p,x,y,rfl,hp,hx,hy⟩ ⟨t,u,rfl⟩ k _
    rw[zcg1,show (1:Int).toNat+j=j+1 by show 1+j=j+1;omega] at hy
    obtain⟨d,ed,hd⟩:=l.get j x hx
    obtain⟨d',ed',hd'⟩:=l.get (j+1) y hy
    have s06:=s05.trans s6
    rw[getD_some ed,getD_some ed'] at k
    have il:∀ {d:PyData},sml d=true->rowD d=true->(za9 d).length<=1000:=fun {d} m r=>by
     cases d with
     | list es=>exact (zo6 m).1
     | _=>simp[rowD] at r
    have rd:=ea' d (zca0 ed)
    have rd':=ea' d' (zca0 ed')
    refine zl0 hp ?_
    refine br_T ?_
    refine zbf3 (hd.same s06) (hd'.same s06) rd rd' (il (dm d (zca0 ed)) rd) (il (dm d' (zca0 ed')) rd') (fun H7 s7=>?_)
    walk_at "wh"
    exact k rfl _ _ s7 ⟨_,_,rfl⟩
   intro acc6 H6 f6 s6 h6
   rw[zp1] at h6
   have h6:H6 acc6=some (.lst (((List.range (ds.length - 1)).map fun i=>zp0 (ds.getD i .none) (ds.getD (i+1) .none)).map V.bl)):=by rw[h6,zcc8];rfl
   refine zae9 h6 ?_
   rw[List.all_map]
   exact q _ (s05.trans s6)
  ·have q:=q _ s1
   rw[decide_eq_false hf] at q
   refine br_T ?_
   walk_at "wh"
   exact q
 all_goals simp[zj7] at eb
structure RwAt (H:Hp) (p:Addr) (bs:List Addr) (xs:List (Int×Int×Int)):Prop where
 out:H p=some (.lst (bs.map V.ref))
 len:bs.length=xs.length
 row:∀ (i:Nat) b x,bs[i]?=some b->xs[i]?=some x->H b=some (.tup [.int x.1,.int x.2.1,.int x.2.2])
theorem RwAt.same {H H':Hp}{p:Addr}{bs:List Addr}{xs:List (Int×Int×Int)}(R:RwAt H p bs xs) (s:Same H H'):RwAt H' p bs xs:=⟨s _ _ R.out,R.len,fun i b x e1 e2=>s _ _ (R.row i b x e1 e2)⟩
def flw (ms:List (List Int×Int)) (i:Nat):List ((Int×Int)×Int):=ms.map fun x=>(((x.1.drop i).sum,x.1.getD i 0),x.2)
def keyT (z:Int×Int×Int):Int×Int:=(z.1,z.2.1)
def zt8 (ms:List (List Int×Int)) (i:Nat) (xs:List (Int×Int×Int)):Prop:=OrdK (xs.map keyT)/\(∀ k,k∈xs.map keyT↔k∈(sumG (flw ms i)).map (·.1))/\∀ z∈xs,valG (sumG (flw ms i)) (keyT z)=some z.2.2
theorem zar4 {κ:Type}[DecidableEq κ] {k:κ}:∀ {kv:List (κ×Int)},k∈kv.map (·.1)->∃ n,valG kv k=some n
 | [],h=>by cases h
 | z :: kv,h=>by
  by_cases e:z.1=k
  ·exact⟨z.2,zn6 e⟩
  ·rw[zn5 e]
   rw[zcd9] at h
   rcases zcb3.mp h with h|h
   ·exact absurd h.symm e
   ·exact zar4 h
structure StAt (H:Hp) (p:Addr) (rs:List (Addr×List Addr)) (xss:List (List (Int×Int×Int))):Prop where
 out:H p=some (.lst (rs.map fun r=>V.ref r.1))
 len:rs.length=xss.length
 row:∀ (i:Nat) r xs,rs[i]?=some r->xss[i]?=some xs->RwAt (rm p H) r.1 r.2 xs
 nd:(rs.map (·.1)).Nodup
theorem StAt.same {H H':Hp}{p:Addr}{rs:List (Addr×List Addr)}{xss:List (List (Int×Int×Int))}(R:StAt H p rs xss) (s:Same H H'):StAt H' p rs xss:=⟨s _ _ R.out,R.len,fun i r xs e1 e2=>(R.row i r xs e1 e2).same (Same.rm s),R.nd⟩
def zaa2 (ms:List (List Int×Int)) (f:Nat) (xss:List (List (Int×Int×Int))):Prop:=xss.length=f/\∀ (i:Nat) xs,xss[i]?=some xs->zt8 ms i xs/\xs.length<=ms.length
theorem zn7 {α:Type}{as:List α}{a b:α}{i:Nat}(h:(as++[a])[i]?=some b):(i<as.length/\as[i]?=some b)∨(i=as.length/\b=a):=by
 by_cases hi:i<as.length
 ·rw[zcc4 hi] at h
  exact .inl ⟨hi,h⟩
 ·rw[zcc2 (by walk_at "om")] at h
  have:i - as.length=0:=by
   have:=(zbz9.mp h).1
   simp at this;omega
  rw[this] at h
  cases h
  exact .inr ⟨by walk_at "om",rfl⟩
theorem zbp4 {H1 I I1:Hp}{acc r:Addr}{rs:List (Addr×List Addr)}{xss:List (List (Int×Int×Int))}{bs:List Addr}(nd:(rs.map (·.1)).Nodup) (hl:rs.length=xss.length) (rp:∀ (i:Nat) r xs,rs[i]?=some r->xss[i]?=some xs->RwAt (rm acc (nw H1 I)) r.1 r.2 xs) (hr:I r=none):((rs++[(r,bs)]).map (·.1)).Nodup:=by
 rw[zcc6,zcg2]
 refine⟨nd,by simp,fun a ha b hb=>?_⟩
 obtain⟨r',hr',rfl⟩:=zcb4.mp ha
 obtain⟨i,ei⟩:=zcc5 hr'
 obtain⟨xs,ex⟩:∃ xs,xss[i]?=some xs:=⟨_,zbz6 (by have:=(zbz9.mp ei).1;omega)⟩
 have o:=zab0 _ _ _ _ (zp5 _ _ _ _ (rp i r' xs ei ex).out)
 rw[show b=r by simpa using hb]
 exact za4 o hr
theorem zab5 {d:PyData}:∀ {ds:List PyData},d∈ds->d.depth<=PyData.depthAll ds
 | [],h=>by cases h
 | e :: ds,h=>by
  rw[show PyData.depthAll (e :: ds)=max e.depth (PyData.depthAll ds) from rfl]
  rcases zcb3.mp h with rfl|h
  ·exact Nat.le_max_left _ _
  ·exact zce6 (zab5 h) (Nat.le_max_right _ _)
def okD (n:Nat) (d:PyData):Prop:=sml d=true/\d.canLay0=true/\d.depth<=n
def Rd (H:Hp) (v:V) (n:Nat):Prop:=∃ d,ShV H v d/\okD n d/\(za9 d).length<60
theorem Rd.same {H H':Hp}{v:V}{n:Nat}(h:Rd H v n) (s:Same H H'):Rd H' v n:=by obtain⟨d,h1,h2⟩:=h;exact⟨d,h1.same s,h2⟩
theorem okD.up {n m:Nat}{d:PyData}(h:okD n d) (l:n<=m):okD m d:=⟨h.1,h.2.1,zce6 h.2.2 l⟩
theorem Rd.up {H:Hp}{v:V}{n m:Nat}(h:Rd H v n) (l:n<=m:=by decide):Rd H v m:=by obtain⟨d,h1,h2⟩:=h;exact⟨d,h1,h2.1.up l,h2.2⟩
theorem Rd.int {H:Hp}(i:Int) (n:Nat):Rd H (.int i) n:=⟨.int i,.int i,⟨rfl,rfl,zcd6 _⟩,by show (0:Nat)<60;decide⟩
theorem Rd.bl {H:Hp}(b:Bool) (n:Nat):Rd H (.bl b) n:=⟨.bool b,.bl b,⟨rfl,rfl,zcd6 _⟩,by show (0:Nat)<60;decide⟩
theorem Rd.non {H:Hp}(n:Nat):Rd H .non n:=⟨.none,.non,⟨rfl,rfl,zcd6 _⟩,by show (0:Nat)<60;decide⟩
theorem Rd.str {H:Hp}{x:Str}(n:Nat) (h:PyData.strOk x=true):Rd H (.str x) n:=⟨.str x,.str x,⟨rfl,h,zcd6 _⟩,by show (0:Nat)<60;decide⟩
theorem zbl6 {ds:List PyData}(h:∀ d∈ds,d.canLay0=true):PyData.canLayAll0 ds=true:=by
 induction ds with
 | nil=>rfl
 | cons d ds ih=>
  show (d.canLay0&&PyData.canLayAll0 ds)=true
  rw[h d (.head _),ih fun x hx=>h x (.tail _ hx)];rfl
theorem zw6:∀ {ds:List PyData},PyData.canLayAll0 ds=true->∀ d∈ds,d.canLay0=true
 | [],_,d,h=>by cases h
 | e :: ds,h,d,hd=>by
  have h:(e.canLay0&&PyData.canLayAll0 ds)=true:=h
  rw[zcb1] at h
  rcases zcb3.mp hd with rfl|hd
  ·exact h.1
  ·exact zw6 h.2 d hd
theorem zbl3 {ds:List PyData}{n:Nat}(h:∀ d∈ds,d.depth<=n):PyData.depthAll ds<=n:=by
 induction ds with
 | nil=>exact zcd6 _
 | cons d ds ih=>
  rw[show PyData.depthAll (d :: ds)=max d.depth (PyData.depthAll ds) from rfl]
  exact Nat.max_le.mpr ⟨h d (.head _),ih fun x hx=>h x (.tail _ hx)⟩
theorem okD.list {n:Nat}{ds:List PyData}(l:ds.length<=1000) (h:∀ d∈ds,okD n d):okD (n+1) (.list ds):=
 ⟨by simp only[sml,zcb1,decide_eq_true_eq];exact⟨by walk_at "om",zs6 fun d hd=>(h d hd).1⟩,zbl6 fun d hd=>(h d hd).2.1,Nat.succ_le_succ (zbl3 fun d hd=>(h d hd).2.2)⟩
theorem okD.tuple {n:Nat}{ds:List PyData}(l:ds.length<=1000) (h:∀ d∈ds,okD n d):okD (n+1) (.tuple ds):=
 ⟨by simp only[sml,zcb1,decide_eq_true_eq];exact⟨by walk_at "om",zs6 fun d hd=>(h d hd).1⟩,zbl6 fun d hd=>(h d hd).2.1,Nat.succ_le_succ (zbl3 fun d hd=>(h d hd).2.2)⟩
theorem Rd.lst {H:Hp}{a:Addr}{xs:List V}{n:Nat}(e:H a=some (.lst xs)) (l:xs.length<60) (h:∀ x∈xs,Rd H x n):Rd H (.ref a) (n+1):=by
 obtain⟨ds,h1,h2⟩:=ShL.ex (P:=fun d=>okD n d) fun x hx=>by obtain⟨d,h1,h2,_⟩:=h x hx;exact⟨d,h1,h2⟩
 exact⟨.list ds,.lst e h1,okD.list (by rw[← h1.len];omega) h2,by show ds.length<60;rw[← h1.len];exact l⟩
theorem Rd.tup {H:Hp}{a:Addr}{xs:List V}{n:Nat}(e:H a=some (.tup xs)) (l:xs.length<60) (h:∀ x∈xs,Rd H x n):Rd H (.ref a) (n+1):=by
 obtain⟨ds,h1,h2⟩:=ShL.ex (P:=fun d=>okD n d) fun x hx=>by obtain⟨d,h1,h2,_⟩:=h x hx;exact⟨d,h1,h2⟩
 exact⟨.tuple ds,.tup e h1,okD.tuple (by rw[← h1.len];omega) h2,by show (0:Nat)<60;decide⟩
theorem zai3:∀ {n:Nat}{d:PyData},d.depth<=n->d.canLay0=true->d.eqv d=true
 | _,.none,_,_=>rfl
 | _,.bool b,_,_=>by show (b==b)=true;exact beq_self_eq_true _
 | _,.int i,_,_=>by show (i==i)=true;exact beq_self_eq_true _
 | _,.str x,_,_=>by show (x==x)=true;exact beq_self_eq_true _
 | 0,.list ds,h,_=>by have h:PyData.depthAll ds+1<=0:=h;omega
 | 0,.tuple ds,h,_=>by have h:PyData.depthAll ds+1<=0:=h;omega
 | n+1,.list ds,h,c=>by
  have h:PyData.depthAll ds+1<=n+1:=h
  have c:PyData.canLayAll0 ds=true:=c
  show PyData.eqvAll ds ds=true
  exact all ds (fun d hd=>zai3 (n:=n) (zce6 (zab5 hd) (by walk_at "om")) (zw6 c d hd))
 | n+1,.tuple ds,h,c=>by
  have h:PyData.depthAll ds+1<=n+1:=h
  have c:PyData.canLayAll0 ds=true:=c
  show PyData.eqvAll ds ds=true
  exact all ds (fun d hd=>zai3 (n:=n) (zce6 (zab5 hd) (by walk_at "om")) (zw6 c d hd))
 | _,.dict _,_,c=>by cases (show false=true from c)
where all:∀ ds:List PyData,(∀ d∈ds,d.eqv d=true)->PyData.eqvAll ds ds=true
 | [],_=>rfl
 | d :: ds,h=>by
  show (d.eqv d&&PyData.eqvAll ds ds)=true
  rw[h d (.head _),all ds fun x hx=>h x (.tail _ hx)];rfl
theorem okD.eqv {n:Nat}{d:PyData}(h:okD n d):d.eqv d=true:=zai3 h.2.2 h.2.1
theorem zac7:∀ {ns:List Int},(∀ x∈ns,0<=x)->(∀ x∈ns,x<=ns.sum)/\0<=ns.sum
 | [],_=>⟨fun x h=>by (cases h),Int.le_refl _⟩
 | n :: ns,h=>by
  have h0:=h n (.head _)
  obtain⟨i1,i2⟩:=zac7 (ns:=ns) fun y hy=>h y (.tail _ hy)
  rw[List.sum_cons]
  refine⟨fun x hx=>?_,by walk_at "om"⟩
  rcases zcb3.mp hx with rfl|hx
  ·omega
  ·have:=i1 x hx;omega
section
variable {κ μ:Type}[DecidableEq κ] [DecidableEq μ]
def atG (zs:List (κ×Int)) (k:κ):Int:=((zs.filter fun z=>decide (z.1=k)).map (·.2)).sum
theorem zu9 {kv:List (κ×Int)}{k:κ}:k ∉ kv.map (·.1)->valG kv k=none:=by
 induction kv with
 | nil=>intro _;rfl
 | cons z kv ih=>
  intro h
  rw[zcd9,zcb3,not_or] at h
  rw[zn5 (fun e=>h.1 e.symm),ih h.2]
theorem zbk1 (kv:List (κ×Int)) (k j:κ) (n:Int):valG (kv.map fun z=>if z.1=k then (z.1,n) else z) j=if j=k then (if j∈kv.map (·.1) then some n else none) else valG kv j:=by
 induction kv with
 | nil=>by_cases e:j=k<;>simp[e,valG]
 | cons z kv ih=>
  rw[zcd9]
  by_cases ez:z.1=j
  ·subst ez
   by_cases ek:z.1=k
   ·rw[if_pos ek,if_pos ek,zn6 (z:=(z.1,n)) rfl,if_pos (by simp)]
   ·rw[if_neg ek,if_neg ek,zn6 rfl,zn6 rfl]
  ·have:¬ (if z.1=k then (z.1,n) else z).1=j:=by split<;>exact ez
   rw[zn5 this,ih,zn5 ez]
   by_cases ek:j=k
   ·rw[if_pos ek,if_pos ek]
    have:(j∈(z :: kv).map (·.1))↔j∈kv.map (·.1):=by
     rw[zcd9,zcb3]
     exact⟨fun h=>h.resolve_left fun e=>ez e.symm,.inr⟩
    by_cases h:j∈kv.map (·.1)
    ·rw[if_pos h,if_pos (this.mpr h)]
    ·rw[if_neg h,if_neg fun z=>h (this.mp z)]
   ·rw[if_neg ek,if_neg ek]
theorem zag4 (kv:List (κ×Int)) (k:κ):(kv.any fun z=>decide (z.1=k))=true↔k∈kv.map (·.1):=by
 rw[List.any_eq_true,zcb4]
 exact⟨fun ⟨z,h1,h2⟩=>⟨z,h1,of_decide_eq_true h2⟩,fun ⟨z,h1,h2⟩=>⟨z,h1,decide_eq_true h2⟩⟩
theorem zbk7 (kv:List (κ×Int)) (z:κ×Int) (j:κ):valG (kv++[z]) j=match valG kv j with|some n=>some n|none=>if z.1=j then some z.2 else none:=by
 induction kv with
 | nil=>
  by_cases e:z.1=j
  ·show valG [z] j=if z.1=j then some z.2 else none;rw[zn6 e,if_pos e]
  ·show valG [z] j=if z.1=j then some z.2 else none;rw[zn5 e,if_neg e];rfl
 | cons y kv ih=>
  rw[List.cons_append]
  by_cases e:y.1=j
  ·rw[zn6 e,zn6 e]
  ·rw[zn5 e,zn5 e,ih]
theorem zbh6 (kv:List (κ×Int)) (k j:κ) (n:Int):valG (putG kv k n) j=if j=k then some n else valG kv j:=by
 unfold putG
 by_cases h:(kv.any fun z=>decide (z.1=k))=true
 ·rw[if_pos h,zbk1]
  by_cases e:j=k
  ·rw[if_pos e,if_pos e,if_pos (by rw[e];exact (zag4 kv k).mp h)]
  ·rw[if_neg e,if_neg e]
 ·rw[if_neg h,zbk7]
  have hk:k ∉ kv.map (·.1):=fun z=>h ((zag4 kv k).mpr z)
  by_cases e:j=k
  ·subst e
   rw[zu9 hk,if_pos rfl]
   first|done|exact if_pos rfl
  ·rw[if_neg e]
   cases valG kv j with
   | none=>exact if_neg fun z=>e z.symm
   | some m=>rfl
theorem zbj5 (zs:List (κ×Int)) (z:κ×Int) (k:κ):atG (zs++[z]) k=atG zs k+if z.1=k then z.2 else 0:=by
 unfold atG
 rw[List.filter_append,zcc6,zch7]
 by_cases e:z.1=k
 ·rw[if_pos e,zch3,if_pos (decide_eq_true e)];simp
 ·rw[if_neg e,zch3,if_neg (by rw[decide_eq_false e];exact zca5)];simp
theorem zz5 (zs:List (κ×Int)) (z:κ×Int) (k:κ):atG (z :: zs) k=(if z.1=k then z.2 else 0)+atG zs k:=by
 unfold atG
 by_cases e:z.1=k
 ·rw[if_pos e,zch3,if_pos (decide_eq_true e)];simp
 ·rw[if_neg e,zch3,if_neg (by rw[decide_eq_false e];exact zca5)];simp
theorem zaq9 {α:Type}{P:List α->Prop}(h0:P []) (hs:∀ xs x,P xs->P (xs++[x])) (xs:List α):P xs:=by
 have:∀ n (xs:List α),xs.length=n->P xs:=fun n=>by
  induction n with
  | zero=>intro xs h;rw[List.length_eq_zero_iff.mp h];exact h0
  | succ n ih=>
   intro xs h
   have hn:xs≠[]:=fun z=>by rw[z] at h;simp at h
   rw[← List.dropLast_concat_getLast hn]
   exact hs _ _ (ih _ (by rw[List.length_dropLast];omega))
 exact this _ xs rfl
theorem zu5 (zs:List (κ×Int)) (k:κ):valG (sumG zs) k=if k∈zs.map (·.1) then some (atG zs k) else none:=by
 induction zs using zaq9 with
 | h0=>rfl
 | hs zs z ih=>
  rw[zad1]
  unfold addG
  rw[zbh6,zbj5]
  have mm:k∈(zs++[z]).map (·.1)↔(k∈zs.map (·.1)∨k∈[z].map (·.1)):=by rw[zcc6,zcc3]
  by_cases e:k=z.1
  ·subst e
   rw[if_pos rfl,if_pos (mm.mpr (.inr (by simp))),if_pos rfl,ih]
   by_cases h:z.1∈zs.map (·.1)
   ·rw[if_pos h];rfl
   ·rw[if_neg h]
    have:atG zs z.1=0:=by
     unfold atG
     rw[List.filter_eq_nil_iff.mpr fun y hy hd=>h (zcb4.mpr ⟨y,hy,of_decide_eq_true hd⟩)];rfl
    rw[this];rfl
  ·have z0:(if z.1=k then z.2 else 0)=0:=if_neg fun q=>e q.symm
   rw[if_neg e,ih,z0,Int.add_zero]
   have:(k∈zs.map (·.1)∨k∈[z].map (·.1))↔k∈zs.map (·.1):=⟨fun h=>h.resolve_right fun q=>e (by simpa using q),.inl⟩
   by_cases h:k∈zs.map (·.1)
   ·rw[if_pos h,if_pos (mm.mpr (.inl h))]
   ·rw[if_neg h,if_neg fun q=>h (this.mp (mm.mp q))]
theorem zbg6 (kv:List (κ×Int)) (k:κ) (n:Int):(putG kv k n).map (·.1)=if k∈kv.map (·.1) then kv.map (·.1) else kv.map (·.1)++[k]:=by
 unfold putG
 by_cases h:(kv.any fun z=>decide (z.1=k))=true
 ·rw[if_pos h,if_pos ((zag4 kv k).mp h),zcc8]
  refine zce1 fun z _=>?_
  show (if z.1=k then (z.1,n) else z).1=z.1
  split<;>rfl
 ·rw[if_neg h,if_neg fun z=>h ((zag4 kv k).mpr z),zcc6];rfl
theorem zg2 (zs:List (κ×Int)):((sumG zs).map (·.1)).Nodup/\∀ k,k∈(sumG zs).map (·.1)↔k∈zs.map (·.1):=by
 induction zs using zaq9 with
 | h0=>exact⟨List.nodup_nil,fun k=>Iff.rfl⟩
 | hs zs z ih=>
  rw[zad1]
  unfold addG
  rw[zbg6]
  by_cases h:z.1∈(sumG zs).map (·.1)
  ·rw[if_pos h]
   refine⟨ih.1,fun k=>?_⟩
   rw[ih.2,zcc6,zcc3]
   exact⟨.inl,fun q=>q.elim id fun q=>by rw[show k=z.1 by simpa using q];exact (ih.2 _).mp h⟩
  ·rw[if_neg h]
   refine⟨?_,fun k=>?_⟩
   ·rw[zcg2]
    refine⟨ih.1,by simp,fun a ha b hb=>?_⟩
    rw[show b=z.1 by simpa using hb]
    exact fun q=>h (q▸ha)
   ·rw[zcc3,ih.2,zcc6,zcc3];rfl
theorem zas6 {kv:List (κ×Int)}(nd:(kv.map (·.1)).Nodup) {z:κ×Int}(h:z∈kv):valG kv z.1=some z.2:=by
 induction kv with
 | nil=>cases h
 | cons y kv ih=>
  rw[zcd9,zcf1] at nd
  rcases zcb3.mp h with rfl|h
  ·exact zn6 rfl
  ·rw[zn5 (fun e=>nd.1 (e▸zcb4.mpr ⟨z,h,rfl⟩))]
   exact ih nd.2 h
theorem atG_ge {zs:List (κ×Int)}(h1:∀ z∈zs,1<=z.2):∀ {k:κ},(0<=atG zs k)/\(k∈zs.map (·.1)->1<=atG zs k):=by
 induction zs with
 | nil=>exact fun {k}=>⟨Int.le_refl _,fun h=>by cases h⟩
 | cons z zs ih=>
  intro k
  obtain⟨i1,i2⟩:=ih (fun y hy=>h1 y (.tail _ hy)) (k:=k)
  have z1:=h1 z (.head _)
  rw[zz5]
  by_cases e:z.1=k
  ·rw[if_pos e]
   exact⟨by walk_at "om",fun _=>by walk_at "om"⟩
  ·rw[if_neg e]
   refine⟨by walk_at "om",fun h=>?_⟩
   rw[zcd9,zcb3] at h
   have:=i2 (h.resolve_left fun q=>e q.symm)
   omega
theorem zbf0 {p:κ->Bool}{a:κ}{c:Int}:∀ {ks:List κ},ks.Nodup->((ks.filter p).map fun k=>if a=k then c else 0).sum=if a∈ks/\p a=true then c else 0
 | [],_=>by simp
 | k :: ks,nd=>by
  rw[zcf1] at nd
  have ih:=zbf0 (p:=p) (a:=a) (c:=c) nd.2
  rw[zch3]
  by_cases e:a=k
  ·subst e
   have:¬ (a∈ks/\p a=true):=fun h=>nd.1 h.1
   rw[if_neg this] at ih
   by_cases hp:p a=true
   ·rw[if_pos hp,zcd9,List.sum_cons,ih,if_pos rfl,if_pos ⟨.head _,hp⟩];omega
   ·rw[if_neg hp,ih,if_neg fun h=>hp h.2]
  ·have:(a∈k :: ks/\p a=true)↔(a∈ks/\p a=true):=by rw[zcb3];exact⟨fun h=>⟨h.1.resolve_left e,h.2⟩,fun h=>⟨.inr h.1,h.2⟩⟩
   have st:∀ b,(if b=true then k :: ks.filter p else ks.filter p).map (fun k=>if a=k then c else 0)=if b=true then 0 :: (ks.filter p).map (fun k=>if a=k then c else 0) else (ks.filter p).map fun k=>if a=k then c else 0:=fun b=>by
    cases b
    ·rfl
    ·show (if a=k then c else 0) :: _=_
     rw[if_neg e];rfl
   rw[st]
   have s0:(if p k=true then (0:Int) :: (ks.filter p).map (fun k=>if a=k then c else 0) else (ks.filter p).map fun k=>if a=k then c else 0).sum=((ks.filter p).map fun k=>if a=k then c else 0).sum:=by
    split
    ·rw[List.sum_cons,Int.zero_add]
    ·rfl
   rw[s0,ih]
   by_cases h:a∈ks/\p a=true
   ·rw[if_pos h,if_pos (this.mpr h)]
   ·rw[if_neg h,if_neg fun q=>h (this.mp q)]
theorem zar1 {α:Type}(f g:α->Int):∀ xs:List α,(xs.map fun x=>f x+g x).sum=(xs.map f).sum+(xs.map g).sum
 | []=>rfl
 | x :: xs=>by
  have:=zar1 f g xs
  simp only[zcd9,List.sum_cons]
  omega
theorem zbc4 {p:κ->Bool}{ks:List κ}(nd:ks.Nodup):∀ {zs:List (κ×Int)},(∀ z∈zs,z.1∈ks)->((ks.filter p).map (atG zs)).sum=((zs.filter fun z=>p z.1).map (·.2)).sum
 | [],_=>by
  have:((ks.filter p).map (atG ([]:List (κ×Int)))).sum=0:=by
   induction (ks.filter p) with
   | nil=>rfl
   | cons k l ih=>rw[zcd9,List.sum_cons,ih];rfl
  rw[this];rfl
 | z :: zs,h=>by
  have ih:=zbc4 (p:=p) nd (zs:=zs) fun y hy=>h y (.tail _ hy)
  have e:(ks.filter p).map (atG (z :: zs))=(ks.filter p).map fun k=>(if z.1=k then z.2 else 0)+atG zs k:=zce1 fun k _=>zz5 zs z k
  rw[e,zar1,zbf0 nd,ih,zch3]
  by_cases hp:p z.1=true
  ·rw[if_pos ⟨h z (.head _),hp⟩,if_pos hp];rfl
  ·rw[if_neg fun q=>hp q.2,if_neg hp,Int.zero_add]
end
theorem zan5 {za zb:List (Int×Int)}(h:∀ k,valG (sumG za) k=valG (sumG zb) k):eqDI (sumG za) (sumG zb)=true:=by
 obtain⟨na,ma⟩:=zg2 za
 obtain⟨nb,mb⟩:=zg2 zb
 have keys:∀ k,k∈(sumG za).map (·.1)↔k∈(sumG zb).map (·.1):=fun k=>by
  rw[ma,mb]
  have:=h k
  rw[zu5,zu5] at this
  by_cases h1:k∈za.map (·.1)<;>by_cases h2:k∈zb.map (·.1)<;>simp[h1,h2] at this ⊢
 have len:=((List.perm_ext_iff_of_nodup na nb).mpr keys).length_eq
 rw[zbz7,zbz7] at len
 unfold eqDI
 rw[len,beq_self_eq_true,zce5,zcc0]
 intro z hz
 have e:valI (sumG zb) z.1=valG (sumG zb) z.1:=rfl
 rw[e,← h,zas6 na hz]
 exact beq_self_eq_true _
theorem zu4 {x y:Int×Int}:ltP x y=true↔x.1<y.1∨(x.1=y.1/\x.2<y.2):=by
 unfold ltP
 by_cases e:x.1=y.1
 ·rw[if_pos (by simpa using e)]
  by_cases e2:x.2=y.2
  ·rw[if_pos (by simpa using e2)]
   exact⟨fun h=>by (cases h),fun h=>by walk_at "om"⟩
  ·rw[if_neg (by simpa using e2),decide_eq_true_iff];omega
 ·rw[if_neg (by simpa using e),decide_eq_true_iff];omega
theorem zaf4:∀ {ks ls:List (Int×Int)},OrdK ks->OrdK ls->(∀ k,k∈ks↔k∈ls)->ks=ls
 | [],[],_,_,_=>rfl
 | [],l :: ls,_,_,h=>absurd ((h l).mpr (.head _)) (by simp)
 | k :: ks,[],_,_,h=>absurd ((h k).mp (.head _)) (by simp)
 | k :: ks,l :: ls,o1,o2,h=>by
  obtain⟨n1,p1⟩:=o1
  obtain⟨n2,p2⟩:=o2
  rw[zcf1] at n1 n2
  rw[List.pairwise_cons] at p1 p2
  have e:k=l:=by
   rcases zcb3.mp ((h k).mp (.head _)) with e|e
   ·exact e
   ·rcases zcb3.mp ((h l).mpr (.head _)) with e' | e'
    ·exact e'.symm
    ·have a:=zu4.mp (p2.1 k e)
     have b:=zu4.mp (p1.1 l e')
     omega
  subst e
  rw[zaf4 ⟨n1.2,p1.2⟩ ⟨n2.2,p2.2⟩ fun z=>⟨fun hz=>?_,fun hz=>?_⟩]
  ·rcases zcb3.mp ((h z).mp (.tail _ hz)) with e|e
   ·exact absurd (e▸hz) n1.1
   ·exact e
  ·rcases zcb3.mp ((h z).mpr (.tail _ hz)) with e|e
   ·exact absurd (e▸hz) n2.1
   ·exact e
theorem zt8.unique {ms:List (List Int×Int)}{i:Nat}{xs ys:List (Int×Int×Int)}(h1:zt8 ms i xs) (h2:zt8 ms i ys):xs=ys:=by
 obtain⟨o1,k1,v1⟩:=h1
 obtain⟨o2,k2,v2⟩:=h2
 have e:=zaf4 o1 o2 fun k=>(k1 k).trans (k2 k).symm
 apply zcg6
 intro j
 have ej:(xs.map keyT)[j]?=(ys.map keyT)[j]?:=by rw[e]
 rw[zca1,zca1] at ej
 cases ex:xs[j]? with
 | none=>
  rw[ex] at ej
  cases ey:ys[j]? with
  | none=>rfl
  | some y=>rw[ey] at ej;cases ej
 | some x=>
  rw[ex] at ej
  cases ey:ys[j]? with
  | none=>rw[ey] at ej;cases ej
  | some y=>
   rw[ey] at ej
   have ek:keyT x=keyT y:=Option.some.inj ej
   have a:=v1 x (zca0 ex)
   have b:=v2 y (zca0 ey)
   rw[ek,b] at a
   obtain⟨x1,x2,x3⟩:=x
   obtain⟨y1,y2,y3⟩:=y
   unfold keyT at ek
   cases ek
   have:y3=x3:=Option.some.inj a
   rw[this]
theorem zaa2.unique {ms:List (List Int×Int)}{f:Nat}{xss yss:List (List (Int×Int×Int))}(h1:zaa2 ms f xss) (h2:zaa2 ms f yss):xss=yss:=by
 apply zcg6
 intro i
 by_cases hi:i<f
 ·have e1:xss[i]?=some (xss[i]'(by rw[h1.1];exact hi)):=zbz6 _
  have e2:yss[i]?=some (yss[i]'(by rw[h2.1];exact hi)):=zbz6 _
  rw[e1,e2,(h1.2 i _ e1).1.unique (h2.2 i _ e2).1]
 ·rw[zce3 (by rw[h1.1];omega),zce3 (by rw[h2.1];omega)]
def zv8 (z:Int×Int×Int):PyData:=.tuple [.int z.1,.int z.2.1,.int z.2.2]
def zh0 (xs:List (Int×Int×Int)):PyData:=.list (xs.map zv8)
def stmD (xss:List (List (Int×Int×Int))):PyData:=.list (xss.map zh0)
theorem zv1 (xs:List (Int×Int×Int)):rowF (zh0 xs)=xs:=by
 unfold rowF zh0
 show (xs.map zv8).map triD=xs
 rw[zcc8]
 exact (zce1 fun x _=>rfl).trans (List.map_id _)
theorem zu8 {ns:List Int}(nn:∀ n∈ns,0<=n) {i:Nat}(hi:i<ns.length):0<=ns.getD i 0/\ns.getD i 0<=(ns.drop i).sum/\(ns.drop i).sum - ns.getD i 0=(ns.drop (i+1)).sum:=by
 have e:ns.drop i=ns[i] :: ns.drop (i+1):=List.drop_eq_getElem_cons hi
 have g:ns.getD i 0=ns[i]:=by rw[zca2,zbz6 hi];rfl
 have z:=(zac7 (ns:=ns.drop (i+1)) fun n hn=>nn n (List.mem_of_mem_drop hn)).2
 rw[g,e,List.sum_cons]
 exact⟨nn _ (List.getElem_mem hi),by walk_at "om",by walk_at "om"⟩
structure OkS (ms:List (List Int×Int)) (h:Int) (f:Nat):Prop where
 ne:1<=ms.length
 f1:1<=f
 all:∀ x∈ms,(∀ n∈x.1,0<=n)/\x.1.length=f/\x.1.sum=h/\1<=x.2
theorem zap0 {ms:List (List Int×Int)}{i:Nat}{xs:List (Int×Int×Int)}(R:zt8 ms i xs) {z:Int×Int×Int}(hz:z∈xs):∃ x∈ms,z.1=(x.1.drop i).sum/\z.2.1=x.1.getD i 0:=by
 have:keyT z∈(sumG (flw ms i)).map (·.1):=(R.2.1 _).mp (zcb4.mpr ⟨z,hz,rfl⟩)
 rw[(zg2 _).2,zcb4] at this
 obtain⟨y,hy,ey⟩:=this
 unfold flw at hy
 obtain⟨x,hx,rfl⟩:=zcb4.mp hy
 have ey:((x.1.drop i).sum,x.1.getD i 0)=(z.1,z.2.1):=ey
 exact⟨x,hx,(congrArg Prod.fst ey).symm,(congrArg Prod.snd ey).symm⟩
theorem zah8 {ms:List (List Int×Int)}{h:Int}{f i:Nat}{xs:List (Int×Int×Int)}(O:OkS ms h f) (hi:i<f) (R:zt8 ms i xs) {z:Int×Int×Int}(hz:z∈xs):0<=z.2.1/\z.2.1<=z.1/\z.2.2=atG (flw ms i) (keyT z)/\1<=z.2.2:=by
 obtain⟨x,hx,e1,e2⟩:=zap0 R hz
 obtain⟨nn,xl,_,_⟩:=O.all x hx
 obtain⟨a,b,_⟩:=zu8 nn (i:=i) (by walk_at "om")
 have v:=R.2.2 z hz
 rw[zu5] at v
 have km:keyT z∈(flw ms i).map (·.1):=(zg2 _).2 _ |>.mp ((R.2.1 _).mp (zcb4.mpr ⟨z,hz,rfl⟩))
 rw[if_pos km] at v
 have v:=Option.some.inj v
 have w:∀ y∈flw ms i,1<=y.2:=fun y hy=>by
  unfold flw at hy
  obtain⟨x,hx,rfl⟩:=zcb4.mp hy
  exact (O.all x hx).2.2.2
 have g:=(atG_ge w (k:=keyT z)).2 km
 exact⟨by walk_at "om",by walk_at "om",v.symm,by walk_at "om"⟩
theorem zbl5 {ms:List (List Int×Int)}{h:Int}{f i:Nat}{xs:List (Int×Int×Int)}(O:OkS ms h f) (hi:i<f) (R:zt8 ms i xs):rowD (zh0 xs)=true:=by
 show ((xs.map zv8).all zm0&&incD (xs.map zv8))=true
 rw[zcb1]
 constructor
 ·rw[List.all_map,zcc0]
  intro z hz
  obtain⟨a,b,_,c⟩:=zah8 O hi R hz
  show (decide ((0:Int)<=z.1)&&decide ((0:Int)<=z.2.1/\z.2.1<=z.1)&&decide ((1:Int)<=z.2.2))=true
  rw[decide_eq_true (show (0:Int)<=z.1 by walk_at "om"),decide_eq_true (show (0:Int)<=z.2.1/\z.2.1<=z.1 from ⟨a,b⟩),decide_eq_true c];rfl
 ·unfold incD
  rw[zbz7,zcc0]
  intro j hj
  have hj:=zcf4.mp hj
  have p:=List.pairwise_iff_getElem.mp R.1.2 j (j+1) (by rw[zbz7];omega) (by rw[zbz7];omega) (by walk_at "om")
  have g:∀ (j:Nat) (hj:j<xs.length),keyD ((xs.map zv8).getD j .none)=(xs.map keyT)[j]'(by rw[zbz7];exact hj):=fun j hj=>by
   rw[zca2,zca1,zbz6 hj,List.getElem_map];rfl
  rw[g j (by walk_at "om"),g (j+1) (by walk_at "om")]
  exact p
theorem zak9 {ms:List (List Int×Int)}{i:Nat}{xs:List (Int×Int×Int)}(R:zt8 ms i xs) (hv:∀ z∈xs,z.2.2=atG (flw ms i) (keyT z)) (g:Int×Int->Int) (k:Int):valG (sumG (xs.map fun z=>(g (keyT z),z.2.2))) k=valG (sumG ((flw ms i).map fun z=>(g z.1,z.2))) k:=by
 rw[zu5,zu5]
 have mem:k∈(xs.map fun z=>(g (keyT z),z.2.2)).map (·.1)↔k∈((flw ms i).map fun z=>(g z.1,z.2)).map (·.1):=by
  rw[zcc8,zcc8,zcb4,zcb4]
  constructor
  ·rintro⟨z,hz,rfl⟩
   have:=(zg2 _).2 _ |>.mp ((R.2.1 _).mp (zcb4.mpr ⟨z,hz,rfl⟩))
   obtain⟨y,hy,ey⟩:=zcb4.mp this
   exact⟨y,hy,congrArg g ey⟩
  ·rintro⟨y,hy,rfl⟩
   have:y.1∈xs.map keyT:=(R.2.1 _).mpr ((zg2 _).2 _ |>.mpr (zcb4.mpr ⟨y,hy,rfl⟩))
   obtain⟨z,hz,ez⟩:=zcb4.mp this
   exact⟨z,hz,congrArg g ez⟩
 have at1:atG (xs.map fun z=>(g (keyT z),z.2.2)) k=(((xs.map keyT).filter fun q=>decide (g q=k)).map (atG (flw ms i))).sum:=by
  unfold atG
  rw[List.filter_map,List.filter_map,zcc8,zcc8]
  refine congrArg List.sum (zce1 fun z hz=>?_)
  exact hv z (List.mem_filter.mp hz).1
 have at2:atG ((flw ms i).map fun z=>(g z.1,z.2)) k=(((flw ms i).filter fun z=>decide (g z.1=k)).map (·.2)).sum:=by
  unfold atG
  rw[List.filter_map,zcc8]
  rfl
 rw[at1,at2,zbc4 (p:=fun q=>decide (g q=k)) R.1.1 fun z hz=>(R.2.1 _).mpr ((zg2 _).2 _ |>.mpr (zcb4.mpr ⟨z,hz,rfl⟩))]
 by_cases h:k∈(xs.map fun z=>(g (keyT z),z.2.2)).map (·.1)
 ·rw[if_pos h,if_pos (mem.mp h)]
 ·rw[if_neg h,if_neg fun q=>h (mem.mpr q)]
theorem zbb1 {ms:List (List Int×Int)}{h:Int}{f i:Nat}{xs ys:List (Int×Int×Int)}(O:OkS ms h f) (hi:i+1<f) (R1:zt8 ms i xs) (R2:zt8 ms (i+1) ys):zp0 (zh0 xs) (zh0 ys)=true:=by
 unfold zp0
 rw[zv1,zv1]
 refine zan5 fun k=>?_
 have a:=zak9 R1 (fun z hz=>(zah8 O (by walk_at "om") R1 hz).2.2.1) (fun q=>q.1 - q.2) k
 have b:=zak9 R2 (fun z hz=>(zah8 O hi R2 hz).2.2.1) (fun q=>q.1) k
 have e:((flw ms i).map fun z=>(z.1.1 - z.1.2,z.2))=(flw ms (i+1)).map fun z=>(z.1.1,z.2):=by
  unfold flw
  rw[zcc8,zcc8]
  refine zce1 fun x hx=>?_
  obtain⟨nn,xl,_,_⟩:=O.all x hx
  obtain⟨_,_,c⟩:=zu8 nn (i:=i) (by walk_at "om")
  show ((x.1.drop i).sum - x.1.getD i 0,x.2)=((x.1.drop (i+1)).sum,x.2)
  rw[c]
 have a:valG (sumG (xs.map fun z=>(z.1 - z.2.1,z.2.2))) k=valG (sumG ((flw ms i).map fun z=>(z.1.1 - z.1.2,z.2))) k:=a
 have b:valG (sumG (ys.map fun z=>(z.1,z.2.2))) k=valG (sumG ((flw ms (i+1)).map fun z=>(z.1.1,z.2))) k:=b
 rw[a,e,b]
theorem stm_ok {ms:List (List Int×Int)}{h:Int}{f:Nat}{xss:List (List (Int×Int×Int))}(O:OkS ms h f) (S:zaa2 ms f xss):zo4 h f (stmD xss)=true:=by
 have f1:=O.f1
 have gd:∀ (i:Nat) (hi:i<xss.length),(xss.map zh0).getD i .none=zh0 xss[i]:=fun i hi=>by
  rw[zca2,zca1,zbz6 hi];rfl
 have ri:∀ (i:Nat) (hi:i<xss.length),zt8 ms i xss[i]:=fun i hi=>(S.2 i _ (zbz6 hi)).1
 have sl:=S.1
 have l0:0<xss.length:=by walk_at "om"
 have r0:=ri 0 l0
 obtain⟨x0,ex0⟩:∃ x,ms[0]?=some x:=⟨_,zbz6 (by have:=O.ne;omega)⟩
 have n0:0<(xss[0]).length:=by
  have:((x0.1.drop 0).sum,x0.1.getD 0 0)∈(xss[0]).map keyT:=(r0.2.1 _).mpr ((zg2 _).2 _ |>.mpr (by
   unfold flw
   rw[zcc8]
   exact zcb4.mpr ⟨x0,zca0 ex0,rfl⟩))
  obtain⟨z,hz,_⟩:=zcb4.mp this
  exact List.length_pos_of_mem hz
 have items:za9 (stmD xss)=xss.map zh0:=rfl
 unfold zo4
 rw[items]
 have b:zj7 (stmD xss)=true:=by
  show (decide (0<(xss.map zh0).length)&&rowD ((xss.map zh0).getD 0 .none)&&decide (0<(za9 ((xss.map zh0).getD 0 .none)).length))=true
  rw[gd 0 l0,zbz7,decide_eq_true l0,zbl5 O (by walk_at "om") r0]
  show (true&&true&&decide (0<((xss[0]).map zv8).length))=true
  rw[zbz7,decide_eq_true n0];rfl
 have c1:decide ((((xss.map zh0).length:Nat):Int)=(f:Int))=true:=decide_eq_true (by rw[zbz7,sl])
 have c2:(xss.map zh0).all rowD=true:=by
  rw[List.all_map,zcc0]
  intro xs hx
  obtain⟨i,ei⟩:=zcc5 hx
  exact zbl5 O (by have:=(zbz9.mp ei).1;omega) (S.2 i xs ei).1
 have c3:zai0 h ((xss.map zh0).getD 0 .none)=true:=by
  rw[gd 0 l0]
  unfold zai0
  rw[zv1,zcc0]
  intro z hz
  obtain⟨x,hx,e1,_⟩:=zap0 r0 hz
  rw[e1,zch5]
  exact decide_eq_true (O.all x hx).2.2.1
 have c4:zap9 ((xss.map zh0).getD ((xss.map zh0).length - 1) .none)=true:=by
  rw[zbz7,gd (xss.length - 1) (by walk_at "om")]
  unfold zap9
  rw[zv1,zcc0]
  intro z hz
  obtain⟨x,hx,e1,e2⟩:=zap0 (ri _ (by walk_at "om")) hz
  obtain⟨nn,xl,_,_⟩:=O.all x hx
  obtain⟨_,_,c⟩:=zu8 nn (i:=xss.length - 1) (by walk_at "om")
  rw[zch1 (i:=xss.length - 1+1) (by walk_at "om")] at c
  have:([]:List Int).sum=0:=rfl
  rw[e1,e2]
  exact decide_eq_true (by walk_at "om")
 have c5:zm8 (xss.map zh0)=true:=by
  unfold zm8
  rw[zbz7,zcc0]
  intro i hi
  have hi:=zcf4.mp hi
  rw[gd i (by walk_at "om"),gd (i+1) (by walk_at "om")]
  exact zbb1 O (by walk_at "om") (ri i (by walk_at "om")) (ri (i+1) (by walk_at "om"))
 rw[b,c1,c2,c3,c4,c5];rfl
theorem RwAt.shL {H:Hp}{p:Addr}{bs:List Addr}{xs:List (Int×Int×Int)}(R:RwAt H p bs xs):ShL H (bs.map V.ref) (xs.map zv8):=ShL.idx (by rw[zbz7,zbz7,R.len]) fun i x d h1 h2=>by
 rw[zca1] at h1 h2
 obtain⟨b,eb,rfl⟩:=zca6.mp h1
 obtain⟨z,ez,rfl⟩:=zca6.mp h2
 exact .tup (R.row i b z eb ez) (.cons (.int _) (.cons (.int _) (.cons (.int _) .nil)))
theorem RwAt.sh {H:Hp}{p:Addr}{bs:List Addr}{xs:List (Int×Int×Int)}(R:RwAt H p bs xs):ShV H (.ref p) (zh0 xs):=.lst R.out R.shL
theorem StAt.sh {H:Hp}{p:Addr}{rs:List (Addr×List Addr)}{xss:List (List (Int×Int×Int))}(R:StAt H p rs xss):ShV H (.ref p) (stmD xss):=.lst R.out (ShL.idx (by rw[zbz7,zbz7,R.len]) fun i x d h1 h2=>by
 rw[zca1] at h1 h2
 obtain⟨b,eb,rfl⟩:=zca6.mp h1
 obtain⟨z,ez,rfl⟩:=zca6.mp h2
 exact ((R.row i b z eb ez).same (zp5 _ _)).sh)
def row7 (c:Bool) (xs:List (Int×Int×Int)):PyData:=.list (xs.map zv8++if c=true then [.int 7] else [])
theorem row7_F (xs:List (Int×Int×Int)):row7 false xs=zh0 xs:=by unfold row7 zh0;rw[if_neg zca5,List.append_nil]
theorem tri_ok (z:Int×Int×Int):okD 1 (zv8 z):=okD.tuple (n:=0) (by show 3<=1000;decide) fun d hd=>by
 simp only[zcb3,zcd4,or_false] at hd
 rcases hd with rfl|rfl|rfl<;>exact⟨rfl,rfl,zcd6 _⟩
theorem zbr6 {c:Bool}{xs:List (Int×Int×Int)}(h:xs.length<64):okD 2 (row7 c xs):=okD.list (n:=1) (by rw[zca7,zbz7];split<;>simp<;>omega) fun d hd=>by
 rcases zcc3.mp hd with hd|hd
 ·obtain⟨z,_,rfl⟩:=zcb4.mp hd;exact tri_ok z
 ·split at hd
  ·rw[zcd8.mp hd];exact⟨rfl,rfl,zcd6 _⟩
  ·cases hd
theorem zbs0 {c:Bool}{xss:List (List (Int×Int×Int))}(hl:xss.length<64) (h:∀ xs∈xss,xs.length<64):okD 3 (.list (xss.map (row7 c))):=okD.list (n:=2) (by rw[zbz7];omega) fun d hd=>by
 obtain⟨xs,hx,rfl⟩:=zcb4.mp hd
 exact zbr6 (h xs hx)
theorem zbi9 (xss:List (List (Int×Int×Int))):stmD xss=.list (xss.map (row7 false)):=by
 unfold stmD
 rw[zce1 fun xs _=>(row7_F xs).symm]
def zi6 (d:PyData):Int:=((rowF ((za9 d).getD 0 .none)).getD 0 (0,0,0)).1
def zd4 (d:PyData):Bool:=zj7 d&&(zx3 (zi6 d) (za9 d).length&&zo4 (zi6 d) (za9 d).length d)
theorem zam6 {H:Hp}{v:V}{d:PyData}(h:ShV H v d) (e:zj7 d=true):∃ (a r t:Addr) (xs:List V) (ds:List PyData) (ts:List Addr) (j w:Int),v=.ref a/\d=.list ds/\H a=some (.lst xs)/\xs.length=ds.length/\1<=ds.length/\xs[0]?=some (.ref r)/\H r=some (.lst (ts.map V.ref))/\ts[0]?=some t/\H t=some (.tup [.int (zi6 d),.int j,.int w]):=by
 cases h
 case lst a xs ds e1 l=>
  have e:(decide (0<ds.length)&&rowD (ds.getD 0 .none)&&decide (0<(za9 (ds.getD 0 .none)).length))=true:=e
  rw[zcb1,zcb1,decide_eq_true_eq,decide_eq_true_eq] at e
  obtain⟨⟨h0,h1⟩,h2⟩:=e
  have ll:=l.len
  obtain⟨x0,ex0⟩:∃ x,xs[0]?=some x:=⟨_,zbz6 (by walk_at "om")⟩
  obtain⟨d0,ed0,hd0⟩:=l.get 0 x0 ex0
  rw[getD_some ed0] at h1 h2
  obtain⟨r,ts,es,rfl,rfl,hr,hl,hp,_⟩:=zv7 hd0 h1
  have h2:0<es.length:=h2
  obtain⟨t,et⟩:∃ t,ts[0]?=some t:=⟨_,zbz6 (by walk_at "om")⟩
  obtain⟨z,ez⟩:∃ z,(rowF (.list es))[0]?=some z:=⟨_,zbz6 (by rw[zf2];omega)⟩
  have eh:zi6 (.list ds)=z.1:=by
   show ((rowF (ds.getD 0 .none)).getD 0 (0,0,0)).1=z.1
   rw[getD_some ed0,zca2,ez];rfl
  refine⟨a,r,t,xs,ds,ts,z.2.1,z.2.2,rfl,rfl,e1,ll,h0,ex0,hr,et,?_⟩
  rw[eh]
  exact hp 0 t z et ez
 all_goals simp[zj7] at e
@[irreducible] def zk2:Sp:=fun vs H Q _=>∃ (v:V) (d:PyData),vs=[v]/\ShV H v d/\zj7 d=true/\Q (.int (zi6 d)) H
theorem zad2 {H:Hp}{v:V}{d:PyData}{Q:VK}{E:XK}(h:ShV H v d) (e:zj7 d=true) (q:Q (.int (zi6 d)) H):zk2 [v] H Q E:=by unfold zk2;exact⟨v,d,rfl,h,e,q⟩
theorem zap5 {f:Addr}{fd:FuncData}(F:Fun K "hosts_in" "hosts_in" zo2 f fd) (N:Nm mg):FnOk P w K mg base CX0 1 f fd ["stream"] zk2:=by
 refine F.ok zao5 (fun vs H Q E h=>by unfold zk2 at h;obtain⟨_,_,rfl,_⟩:=h;rfl) (fun cdv A outer s H vs Q E hr h=>?_)
 unfold zk2 at h
 obtain⟨v,d,rfl,h,e,q⟩:=h
 refine⟨_,(za6 (zb1 (zc5 (K:=K) rfl (zc5 (K:=K) rfl (zc5 (K:=K) rfl (pq 0) za2) za2) za2))),?_⟩
 obtain⟨a,r,t,xs,ds,ts,j,w,rfl,_,ha,_,_,hx,hr',ht,htt⟩:=zam6 h e
 refine zd8 (v:=.ref r) ha (zi4 (j:=0) hx) ?_
 refine zd8 (v:=.ref t) hr' (zi4 (j:=0) (by rw[zca1,ht];rfl)) ?_
 refine zl4 (v:=.int (zi6 d)) htt rfl ?_
 walk_at "wh"
 exact q
@[irreducible] def ze2:Sp:=fun vs H Q _=>∃ (v:V) (d:PyData),vs=[v]/\ShV H v d/\sml d=true/\∀ H',Same H H'->Q (.bl (zd4 d)) H'
theorem any_rd {H:Hp}{v:V}{d:PyData}{Q:VK}{E:XK}(h:ShV H v d) (hs:sml d=true) (q:∀ H',Same H H'->Q (.bl (zd4 d)) H'):ze2 [v] H Q E:=by unfold ze2;exact⟨v,d,rfl,h,hs,q⟩
theorem zy4 {f:Addr}{fd:FuncData}(F:Fun K "is_any_stream" "is_any_stream" zg8 f fd) (N:Nm mg) (zbx1:Def P w K mg base CX0 6 "begins" ["stream"] zn2) (zbx2:Def P w K mg base CX0 1 "hosts_in" ["stream"] zk2) (zbx8:Def P w K mg base CX0 4 "is_size" ["hosts","fields"] zm3) (zbx4:Def P w K mg base CX0 7 "is_stream" ["hosts","fields","stream"] zi8):FnOk P w K mg base CX0 8 f fd ["stream"] ze2:=by
 refine F.ok zy3 (fun vs H Q E h=>by unfold ze2 at h;obtain⟨_,_,rfl,_⟩:=h;rfl) (fun cdv A outer s H vs Q E hr h=>?_)
 unfold ze2 at h
 obtain⟨v,d,rfl,h,hs,q⟩:=h
 have hu:=hu40 hr
 refine⟨_,(za3 (psIf (ptW (pwOr (zl8 (ptV (pD zbx1 hr zb8 (za0 (pq 0) za1)))) (zr5 (zl8 (ptV (pD zbx8 hr zb8 (za0 (pD zbx2 hr zb8 (za0 (pq 0) za1)) (za0 (pB (zq5 (K:=K) rfl) N.len_ zl1 (za0 (pq 0) za1)) za1)))))))) (za6 (zb1 zn1)) zb5)
   (za6 (zb1 (pD zbx4 hr zb8 (za0 (pD zbx2 hr zb8 (za0 (pq 0) za1)) (za0 (pB (zq5 (K:=K) rfl) N.len_ zl1 (za0 (pq 0) za1)) (za0 (pq 0) za1))))))),?_⟩
 unfold zd4 at q
 refine zaf7 h hs (fun H1 s1=>?_)
 have q:=fun H' s'=>q H' (s1.trans s')
 have h1:=h.same s1
 cases eb:zj7 d
 ·have q:=q _ (Same.refl _)
  rw[eb] at q
  refine zc4 (br_F ?_)
  refine br_T ?_
  walk_at "wh"
  exact q
 rw[eb,zce5] at q
 obtain⟨a,r,t,xs,ds,ts,j,w,rfl,rfl,ha,hl,_⟩:=zam6 h1 eb
 have q:∀ H',Same H1 H'->Q (.bl (zx3 (zi6 (.list ds)) ds.length&&zo4 (zi6 (.list ds)) ds.length (.list ds))) H':=q
 refine zc4 (br_T ?_)
 refine zad2 h1 eb ?_
 refine zi3 ha ?_
 rw[hl]
 refine zbi7 ?_
 cases ez:zx3 (zi6 (.list ds)) ds.length
 ·have q:=q _ (Same.refl _)
  rw[ez] at q
  refine zc4 (br_F ?_)
  walk_at "wh"
  exact q
 rw[ez,zce5] at q
 refine zc4 (br_T ?_)
 refine zad2 h1 eb ?_
 refine zi3 ha ?_
 rw[hl]
 refine zaw7 h1 hs (fun H2 s2=>?_)
 walk_at "wh"
 exact q _ s2
theorem zaz2 {ms:List (List Int×Int)}{h:Int}{f:Nat}{xss:List (List (Int×Int×Int))}(O:OkS ms h f) (S:zaa2 ms f xss) (hz:zx3 h f=true):zd4 (stmD xss)=true/\zi6 (stmD xss)=h:=by
 have st:=stm_ok O S
 have st':=st
 unfold zo4 at st'
 rw[zcb1,zcb1,zcb1,zcb1] at st'
 obtain⟨b,_,_,fu,_⟩:=st'
 have il:((za9 (stmD xss)).length:Int)=f:=by
  show (((xss.map zh0).length:Nat):Int)=f
  rw[zbz7,S.1]
 have eh:zi6 (stmD xss)=h:=by
  have b:(decide (0<(za9 (stmD xss)).length)&&rowD ((za9 (stmD xss)).getD 0 .none)&&decide (0<(za9 ((za9 (stmD xss)).getD 0 .none)).length))=true:=b
  rw[zcb1,decide_eq_true_eq] at b
  unfold zai0 at fu
  have fu:=zcc0.mp fu
  unfold zi6
  have ll:0<(rowF ((za9 (stmD xss)).getD 0 .none)).length:=by unfold rowF;rw[zbz7];exact b.2
  generalize rowF ((za9 (stmD xss)).getD 0 .none)=ys at fu ll ⊢
  have:=fu (ys.getD 0 (0,0,0)) (by rw[zca2,zbz6 ll];exact List.getElem_mem _)
  exact of_decide_eq_true this
 refine⟨?_,eh⟩
 unfold zd4
 rw[eh,il,b,hz,st];rfl
@[irreducible] def zf1:Sp:=fun vs H Q _=>∃ n k:Int,vs=[.int n,.int k]/\0<=n/\n<2147483629/\0<=k/\k<=10000000/\∀ r:Int,0<=r->r<2147483587->Q (.int r) H
theorem zav5 {H:Hp}{n k:Int}{Q:VK}{E:XK}(h0:0<=n) (h1:n<2147483629) (h2:0<=k) (h3:k<=10000000) (q:∀ r:Int,0<=r->r<2147483587->Q (.int r) H):zf1 [.int n,.int k] H Q E:=by
 unfold zf1;exact⟨n,k,rfl,h0,h1,h2,h3,q⟩
theorem zac4 {f:Addr}{fd:FuncData}(F:Fun K "_law_stirred" "_law_stirred" zi2 f fd) (N:Nm mg):FnOk P w K mg base CX0 1 f fd ["_law_number","_law_k"] zf1:=by
 refine F.ok zs4 (fun vs H Q E h=>by unfold zf1 at h;obtain⟨n,k,rfl,_⟩:=h;rfl) (fun cdv A outer s H vs Q E hr h=>?_)
 unfold zf1 at h
 obtain⟨n,k,rfl,h1,h2,h3,h4,q⟩:=h
 refine⟨_,(za3 (psS (i:=2) zs4.nd (zb4 oMod (zb4 oMul (zb4 oAdd (zb4 oAdd (zb4 oMul (pq 0) (pq 0)) (zb4 oMul (pq 1) (pq 0))) (zb4 oMul (zb4 oMul za2 (pq 1)) (pq 1))) za2) za2))
   (za6 (zb1 (zb4 oMod (zb4 oMul (pq 2) (pq 2)) za2)))),?_⟩
 repeat walk_at "st"
 walk_at "wh"
 exact q _ (by assumption) (by assumption)
def zb3 (H:Hp) (a:Addr) (b:Int):Prop:=∃ x y z:Int,H a=some (.lst [.int x,.int y,.int z])/\(y=1∨(y=0/\0<=x/\x<2147483629))/\0<=z/\z<=b
theorem zb3.same {H H':Hp}{a:Addr}{b:Int}(h:zb3 H a b) (s:Same H H'):zb3 H' a b:=by
 obtain⟨x,y,z,e,r⟩:=h
 exact⟨x,y,z,s _ _ e,r⟩
local macro_rules | `(tactic| walk_at "la")=>`(tactic| first|assumption|(refine zb3.same (H:=?H) ?l ?s;(case s=>assumption);(case l=>walk_at "la"))|fail "la")
theorem zb3.up {H:Hp}{a:Addr}{b c:Int}(h:zb3 H a b) (l:b<=c):zb3 H a c:=by
 obtain⟨x,y,z,e1,e2,e3,e4⟩:=h
 exact⟨x,y,z,e1,e2,e3,by walk_at "om"⟩
theorem zb3.ne {H:Hp}{a p:Addr}{b:Int}(h:zb3 H a b) (f:H p=none):p≠a:=by
 obtain⟨x,y,z,e,_⟩:=h
 exact Ne.symm (za4 e f)
local macro_rules | `(tactic| walk_at "ne")=>`(tactic| first|assumption|(apply Ne.symm;assumption)|(refine zb3.ne (H:=?H) (b:=?b) ?l ?f;(case f=>assumption);(case l=>walk_at "la"))|fail "ne")
@[irreducible] def zf9:Sp:=fun vs H Q _=>∃ c:Int,vs=[.int c]/\∀ p H',H p=none->Same H H'->zb3 H' p 0->Q (.ref p) H'
theorem zbc5 {H:Hp}{c:Int}{Q:VK}{E:XK}(q:∀ p H',H p=none->Same H H'->zb3 H' p 0->Q (.ref p) H'):zf9 [.int c] H Q E:=by
 unfold zf9;exact⟨c,rfl,q⟩
theorem zae2 {f:Addr}{fd:FuncData}(F:Fun K "_law_opened" "_law_opened" zj4 f fd) (N:Nm mg):FnOk P w K mg base CX0 1 f fd ["_law_cell"] zf9:=by
 refine F.ok zad6 (fun vs H Q E h=>by unfold zf9 at h;obtain⟨n,rfl,_⟩:=h;rfl) (fun cdv A outer s H vs Q E hr h=>?_)
 unfold zf9 at h
 obtain⟨c,rfl,q⟩:=h
 refine⟨_,(za3 (psIf (ptC oLt (pq 0) (zb4 oPow za2 za2)) (za6 (zb1 (zg9 (za0 (zb4 oMod (pq 0) za2) (za0 za2 (za0 za2 za1)))))) zb5)
   (za6 (zb1 (zg9 (za0 (zb4 oSub (pq 0) (zb4 oPow za2 za2)) (za0 za2 (za0 za2 za1))))))),?_⟩
 walk_at "st"
 refine zg1 (fun h=>?_) (fun h=>?_)
 ·repeat walk_at "st"
  walk_at "wh"
  exact q _ _ (by assumption) (by assumption) ⟨_,_,_,by assumption,.inr ⟨rfl,by assumption,by assumption⟩,by walk_at "om",by walk_at "om"⟩
 ·repeat walk_at "st"
  walk_at "wh"
  exact q _ _ (by assumption) (by assumption) ⟨_,_,_,by assumption,.inl rfl,by walk_at "om",by walk_at "om"⟩
@[irreducible] def zd7:Sp:=fun vs H Q _=>∃ (a:Addr) (m b:Int),vs=[.ref a,.int m]/\zb3 H a b/\b<=1000000/\0<m/\m<10 ^ 60/\∀ (d:Int) H',0<=d->d<m->Chg a H H'->zb3 H' a (b+4)->Q (.int d) H'
theorem zf3 {H:Hp}{a:Addr}{m b:Int}{Q:VK}{E:XK}(hL:zb3 H a b) (hb:b<=1000000) (h0:0<m) (h1:m<10 ^ 60) (q:∀ (d:Int) H',0<=d->d<m->Chg a H H'->zb3 H' a (b+4)->Q (.int d) H'):zd7 [.ref a,.int m] H Q E:=by
 unfold zd7;exact⟨a,m,b,rfl,hL,hb,h0,h1,q⟩
theorem zaj5 {f:Addr}{fd:FuncData}(F:Fun K "_law_draw" "_law_draw" zm7 f fd) (N:Nm mg) (zbw3:Def P w K mg base CX0 1 "_law_stirred" ["_law_number","_law_k"] zf1):FnOk P w K mg base CX0 2 f fd ["_law_left","_law_base"] zd7:=by
 refine F.ok zk7 (fun vs H Q E h=>by unfold zd7 at h;obtain⟨a,m,b,rfl,_⟩:=h;rfl) (fun cdv A outer s H vs Q E hr h=>?_)
 unfold zd7 at h
 obtain⟨a,m,b,rfl,⟨x,y,z,hl,hy,hz0,hz1⟩,hb,hm0,hm1,q⟩:=h
 have hu:=hu40 hr
 refine⟨_,(za3 (psIf (ptC (oEqK (K:=K) rfl (by exact hu)) (zc5 (K:=K) rfl (pq 0) za2) za2) (za3 (psS (i:=2) zk7.nd (zb4 oMod (zc5 (K:=K) rfl (pq 0) za2) (pq 1)))
   (za3 (zx8 (zb4 oDiv (zc5 (K:=K) rfl (pq 0) za2) (pq 1)) (zac1 (pq 0) za2 setM))
   (za6 (zb1 (pq 2))))) zb5)
   (za3 (psS (i:=3) zk7.nd za2)
   (za3 (zt7 PassesOwn.never rfl (zal8 N.range_ (za0 (zc5 (K:=K) rfl (zg9 (za0 za2 (za0 za2 za1))) (pT cInt N.int_ zal2 (za0 (peC oGt (pq 1) (zb4 oPow za2 za2)) za1))) za1)) (za8 (i:=4) zk7.nd rfl (by first|exact Or.inl rfl|exact Or.inr rfl)) (za3 (zx8 (zb4 oAdd (zc5 (K:=K) rfl (pq 0) za2) za2) (zac1 (pq 0) za2 setM))
   (za3 (psS (i:=5) zk7.nd (pD zbw3 hr zb8 (za0 (zc5 (K:=K) rfl (pq 0) za2) (za0 (zc5 (K:=K) rfl (pq 0) za2) za1))))
   (za6 (psS (i:=3) zk7.nd (zb4 oAdd (zb4 oMul (pq 3) za2) (zb4 oMod (zb4 oMul (pq 5) (zb4 oAdd (pq 5) za2)) za2)))))))
   (za6 (zb1 (zb4 oMod (pq 3) (pq 1))))))),?_⟩
 walk_at "st"
 refine zg1 (fun h=>?_) (fun h=>?_)
 ·subst h
  walk_at "st"
  walk_at "st"
  walk_at "st"
  walk_at "st"
  refine zac8 hl (by rfl) (fun H1 hc h1=>?_)
  walk_at "wh"
  exact q _ _ (by assumption) (by assumption) hc ⟨_,_,_,h1,.inl rfl,hz0,by walk_at "om"⟩
 ·obtain⟨rfl,hx0,hx1⟩:y=0/\0<=x/\x<2147483629:=by walk_at "om"
  refine zb0 (fun p1 H1 hf1 hs1 ha1=>?_)
  walk_at "st"
  refine zo9 ha1 (by split<;>decide) (by show _<((2:Nat):Int);split<;>decide) (fun v hv=>?_)
  obtain⟨j,rfl,hj1,hj4⟩:∃ j:Int,v=.int j/\1<=j/\j<=4:=by
   simp only[zcb3,zcd4,or_false] at hv
   rcases hv with rfl|rfl
   ·exact⟨1,rfl,by decide,by decide⟩
   ·exact⟨4,rfl,by decide,by decide⟩
  refine zq8 (by decide) (by decide) (by walk_at "om") (by walk_at "om") ?_
  refine zq0 (fun i σ H2=>∃ (num:Int) (t mx:Option V),σ=[some (.ref a),some (.int m),none,some (.int num),t,mx]/\0<=num/\Chg a H H2/\H2 a=some (.lst [.int x,.int 0,.int (z+i)])) ?_ ?_ ?_
  ·exact⟨0,none,none,rfl,by decide,hs1.toChg,by rw[hs1 _ _ hl];simp⟩
  ·rintro i σ H2 hi ⟨num,t,mx,rfl,hn,hc,h2⟩
   have hi4:(i:Int)<4:=by walk_at "om"
   walk_at "st"
   refine zac8 h2 (by rfl) (fun H3 hc3 h3=>?_)
   walk_at "st"
   walk_at "st"
   refine zav5 hx0 hx1 (by walk_at "om") (by walk_at "om") (fun r hr0 hr1=>?_)
   walk_at "st"
   walk_at "st"
   walk_at "st"
   walk_at "wh"
   refine⟨_,_,_,rfl,?_,hc.trans hc3,?_⟩
   ·rename_i r2 hr20 hr21
    omega
   ·rw[h3]
    have e:z+(i:Int)+1=z+((i+1:Nat):Int):=by walk_at "om"
    rw[← e]
    rfl
  ·rintro σ H2 ⟨num,t,mx,rfl,hn,hc,h2⟩
   walk_at "st"
   walk_at "wh"
   exact q _ _ (by assumption) (by assumption) hc ⟨_,_,_,h2,.inr ⟨rfl,hx0,hx1⟩,by walk_at "om",by walk_at "om"⟩
theorem Chg.free' {a l:Addr}{H H':Hp}(x:Chg a H H') (h:H' l=none) (n:l≠a):H l=none:=by
 cases e:H l with
 | none=>rfl
 | some o=>
  have:=x l o n e
  rw[h] at this
  cases this
theorem zb3.chg {H H':Hp}{a p:Addr}{b:Int}(h:zb3 H a b) (c:Chg p H H') (n:a≠p):zb3 H' a b:=by
 obtain⟨x,y,z,e,r⟩:=h
 exact⟨x,y,z,c _ _ n e,r⟩
@[irreducible] def zc8:Sp:=fun vs H Q _=>∃ (a:Addr) (b:Int) (h f:Nat),vs=[.ref a,.int h,.int f]/\zb3 H a b/\b<=100000/\h<=40/\(1<=f/\f<=8)/\∀ l H' (ns:List Int),H l=none->Chg a H H'->zb3 H' a (b+100)->l≠a->H' l=some (.lst (ns.map V.int))->ns.length=f->ns.sum=h->(∀ x∈ns,0<=x)->Q (.ref l) H'
theorem zah5 {H:Hp}{a:Addr}{b:Int}{h f:Nat}{Q:VK}{E:XK}(hL:zb3 H a b) (hb:b<=100000) (h1:h<=40) (h2:1<=f) (h3:f<=8) (q:∀ l H' (ns:List Int),H l=none->Chg a H H'->zb3 H' a (b+100)->l≠a->H' l=some (.lst (ns.map V.int))->ns.length=f->ns.sum=h->(∀ x∈ns,0<=x)->Q (.ref l) H'):zc8 [.ref a,.int h,.int f] H Q E:=by
 unfold zc8;exact⟨a,b,h,f,rfl,hL,hb,h1,⟨h2,h3⟩,q⟩
theorem zw1 {f:Addr}{fd:FuncData}(F:Fun K "_law_drawn_plan" "_law_drawn_plan" ze4 f fd) (N:Nm mg) (zbt4:Def P w K mg base CX0 2 "_law_draw" ["_law_left","_law_base"] zd7):FnOk P w K mg base CX0 3 f fd ["_law_left","_law_hosts","_law_many"] zc8:=by
 refine F.ok zd9 (fun vs H Q E h=>by unfold zc8 at h;obtain⟨_,_,_,_,rfl,_⟩:=h;rfl) (fun cdv A outer s H vs Q E hr h=>?_)
 unfold zc8 at h
 obtain⟨a,b,h,f,rfl,hL,hb,h1,⟨h2,h3⟩,q⟩:=h
 refine⟨_,(za3 (psS (i:=3) zd9.nd (zg9 za1))
   (za3 (psS (i:=4) zd9.nd (pq 1))
   (za3 (zt7 PassesOwn.never rfl (zal8 N.range_ (za0 (zb4 oSub (pq 2) za2) za1)) (za8 (i:=5) zd9.nd rfl (by first|exact Or.inl rfl|exact Or.inr rfl)) (za3 (psS (i:=6) zd9.nd (zc5 (K:=K) rfl (zg9 (za0 (pD zbt4 hr zb8 (za0 (pq 0) (za0 (zb4 oAdd (pq 4) za2) za1))) (za0 za2 (za0 (pq 4) za1)))) (zb4 oDiv (pD zbt4 hr zb8 (za0 (pq 0) (za0 za2 za1))) za2)))
   (za3 (zl3 (zm5 (pq 3) (za0 (pq 6) za1)))
   (za6 (psS (i:=4) zd9.nd (zb4 oSub (pq 4) (pq 6)))))))
   (za6 (zb1 (zb4 oAdd (pq 3) (zg9 (za0 (pq 4) za1)))))))),?_⟩
 refine zb0 (fun l H1 f1 s1 h1'=>?_)
 have n1:l≠a:=hL.ne f1
 refine zq8 (by decide) (by decide) (by walk_at "om") (by walk_at "om") ?_
 refine zq0 (fun i σ H2=>∃ (x y:Option V) (ns:List Int) (r:Int),σ=[some (.ref a),some (.int h),some (.int f),some (.ref l),some (.int r),x,y]/\Chg a H H2/\zb3 H2 a (b+8*i)/\H2 l=some (.lst (ns.map V.int))/\ns.length=i/\ns.sum+r=h/\0<=r/\r<=40/\∀ x∈ns,0<=x) ?_ ?_ ?_
 ·exact⟨_,_,[],h,rfl,s1.toChg,(hL.same s1).up (by walk_at "om"),h1',rfl,by simp,by walk_at "om",by walk_at "om",by simp⟩
 ·rintro i σ H2 hi ⟨x0,y0,ns,r,rfl,c2,L2,e2,l2,t2,r0,r1,nn⟩
  have hi:i<8:=by walk_at "om"
  refine zf3 L2 (by walk_at "om") (by walk_at "om") (by walk_at "om") (fun d3 H3 d30 d31 c3 L3=>?_)
  refine zb0 (fun p5 H5 f5 s5 h5=>?_)
  refine zf3 (L3.same s5) (by walk_at "om") (by walk_at "om") (by walk_at "om") (fun d6 H6 d60 d61 c6 L6=>?_)
  have h56:=c6 _ _ (L3.ne f5) h5
  have e26:H6 l=some (.lst (ns.map V.int)):=c6 _ _ n1 (s5 _ _ (c3 _ _ n1 e2))
  walk_at "st"
  refine zo9 h56 (by walk_at "om") (by simp only[zcd0,zcf2];omega) ?_
  intro v hv
  obtain⟨m,rfl,hm0,hm⟩:∃ m:Int,v=.int m/\0<=m/\m<=r:=by
   simp only[zcb3,zcd4,or_false] at hv
   rcases hv with rfl|rfl|rfl<;>exact⟨_,rfl,by walk_at "om",by walk_at "om"⟩
  clear hv
  refine zo5 e26 ?_
  refine zab4 e26 (by rw[zbz7,sizeLine_eq];omega) (fun H7 c7 h7=>?_)
  walk_at "wh"
  have c26:Chg a H H6:=((c2.trans c3).same s5).trans c6
  refine⟨_,_,ns++[m],r - m,rfl,fun b o h1 e=>c7 _ _ (za4 e f1) (c26 _ _ h1 e),(L6.chg c7 (Ne.symm n1)).up (by walk_at "om"),by rw[h7,zcc6];rfl,by rw[zca7,l2];rfl,by rw[zch7];simp;omega,by walk_at "om",by walk_at "om",fun x hx=>?_⟩
  rcases zcc3.mp hx with hx|hx
  ·exact nn x hx
  ·have:x=m:=by simpa using hx
   omega
 ·rintro σ H2 ⟨x0,y0,ns,r,rfl,c2,L2,e2,l2,t2,r0,r1,nn⟩
  refine zb0 (fun p3 H3 f3 s3 h3'=>?_)
  refine zl7 (s3 _ _ e2) h3' (by rw[zbz7,sizeLine_eq,zcd3];omega) (fun p4 H4 f4 s4 h4'=>?_)
  walk_at "wh"
  have L3:=(L2.same s3).same s4
  have m1:p4≠a:=(L2.same s3).ne f4
  refine q p4 H4 (ns++[r]) (Chg.free' (c2.same s3) f4 m1) ((c2.same s3).same s4) (L3.up (by walk_at "om")) m1 (by rw[h4',zcc6];rfl) (by rw[zca7,l2,zcd3];omega) (by rw[zch7];simp;omega) (fun x hx=>?_)
  rcases zcc3.mp hx with hx|hx
  ·exact nn x hx
  ·have:x=r:=by simpa using hx
   omega
def zs5 (ms:List (List Int×Int)):Int:=(ms.map fun x=>x.2).sum
def Off (b:Addr) (ts:List (Addr×Addr)):Prop:=∀ t∈ts,t.1≠b/\t.2≠b
theorem zl5.chg {H H':Hp}{m b:Addr}{ts:List (Addr×Addr)}{ms:List (List Int×Int)}(M:zl5 H m ts ms) (c:Chg b H H') (n:m≠b) (o:Off b ts):zl5 H' m ts ms:=
 ⟨c _ _ n M.out,M.len,fun i t x h1 h2=>⟨c _ _ (o t (zca0 h1)).1 (M.part i t x h1 h2).1,c _ _ (o t (zca0 h1)).2 (M.part i t x h1 h2).2⟩⟩
theorem zl5.off {H:Hp}{m b:Addr}{ts:List (Addr×Addr)}{ms:List (List Int×Int)}(M:zl5 H m ts ms) (f:H b=none):m≠b/\Off b ts:=by
 refine⟨za4 M.out f,fun t ht=>?_⟩
 obtain⟨i,hi⟩:=zcc5 ht
 obtain⟨t',x,h1,h2,h3,h4⟩:=M.get (i:=i) (by have:=(zbz9.mp hi).1;have:=M.len;omega)
 rw[hi] at h1
 cases h1
 exact⟨za4 h3 f,za4 h4 f⟩
theorem zl5.push {H H':Hp}{m p q:Addr}{ts:List (Addr×Addr)}{ms:List (List Int×Int)}{x:List Int×Int}(M:zl5 H m ts ms) (c:Chg m H H') (o:Off m ts) (h':H' m=some (.lst ((ts.map fun t=>V.ref t.1)++[.ref p]))) (hp:H' p=some (.tup [.ref q,.int x.2])) (hq:H' q=some (.lst (x.1.map V.int))):zl5 H' m (ts++[(p,q)]) (ms++[x]):=by
 refine⟨by rw[h',zcc6];rfl,by rw[zca7,zca7,M.len];rfl,fun i t y h1 h2=>?_⟩
 by_cases hi:i<ts.length
 ·rw[zcc4 hi] at h1
  rw[zcc4 (by have:=M.len;omega)] at h2
  have:=o t (zca0 h1)
  exact⟨c _ _ this.1 (M.part i t y h1 h2).1,c _ _ this.2 (M.part i t y h1 h2).2⟩
 ·rw[zcc2 (by walk_at "om")] at h1
  rw[zcc2 (by have:=M.len;omega)] at h2
  have e0:i - ts.length=0:=by
   have:=(zbz9.mp h1).1
   simp at this;omega
  rw[e0] at h1
  rw[show i - ms.length=0 by have:=M.len;omega] at h2
  cases h1
  cases h2
  exact⟨hp,hq⟩
theorem Off.push {b p q:Addr}{ts:List (Addr×Addr)}(o:Off b ts) (n1:p≠b) (n2:q≠b):Off b (ts++[(p,q)]):=fun t ht=>by
 rcases zcc3.mp ht with h|h
 ·exact o t h
 ·have:t=(p,q):=by simpa using h
  subst this
  exact⟨n1,n2⟩
theorem zad0 (ms:List (List Int×Int)) (x:List Int×Int):zs5 (ms++[x])=zs5 ms+x.2:=by unfold zs5;rw[zcc6,zch7];simp
def Nt (H:Hp) (ts:List (Addr×Addr)):Prop:=∀ t∈ts,H t.1=none/\H t.2=none
theorem Nt.push {H:Hp}{p q:Addr}{ts:List (Addr×Addr)}(o:Nt H ts) (n1:H p=none) (n2:H q=none):Nt H (ts++[(p,q)]):=fun t ht=>by
 rcases zcc3.mp ht with h|h
 ·exact o t h
 ·have:t=(p,q):=by simpa using h
  subst this
  exact⟨n1,n2⟩
abbrev OkX (h f:Int) (x:List Int×Int):Prop:=(∀ n∈x.1,0<=n)/\(x.1.length:Int)=f/\x.1.sum=h/\1<=x.2
theorem zar9 {α:Type}{p:α->Prop}{xs:List α}{y:α}(h:∀ x∈xs,p x) (hy:p y):∀ x∈xs++[y],p x:=fun x hx=>by
 rcases zcc3.mp hx with h' | h'
 ·exact h x h'
 ·have:x=y:=by simpa using h'
  subst this
  exact hy
@[irreducible] def zd1:Sp:=fun vs H Q _=>∃ (a:Addr) (b:Int) (h f g:Nat),vs=[.ref a,.int h,.int f,.int g]/\zb3 H a b/\b<=60000/\(h<=40/\1<=g/\g<=6)/\(1<=f/\f<=8)/\∀ m ts ms H',H m=none->Chg a H H'->zb3 H' a (b+2000)->zl5 H' m ts ms->m≠a->Off a ts->Off m ts->Nt H ts->OkM h f ms->zs5 ms<=10 ^ 30->ms.length<=10->Q (.ref m) H'
theorem zs0 {H:Hp}{a:Addr}{b:Int}{h f g:Nat}{Q:VK}{E:XK}(hL:zb3 H a b) (hb:b<=60000) (h1:h<=40) (hg:1<=g/\g<=6) (h2:1<=f) (h3:f<=8) (q:∀ m ts ms H',H m=none->Chg a H H'->zb3 H' a (b+2000)->zl5 H' m ts ms->m≠a->Off a ts->Off m ts->Nt H ts->OkM h f ms->zs5 ms<=10 ^ 30->ms.length<=10->Q (.ref m) H'):zd1 [.ref a,.int h,.int f,.int g] H Q E:=by
 unfold zd1;exact⟨a,b,h,f,g,rfl,hL,hb,⟨h1,hg⟩,⟨h2,h3⟩,q⟩
theorem zx1 {f:Addr}{fd:FuncData}(F:Fun K "_law_drawn_mix" "_law_drawn_mix" zf5 f fd) (N:Nm mg) (zbt4:Def P w K mg base CX0 2 "_law_draw" ["_law_left","_law_base"] zd7) (zbv4:Def P w K mg base CX0 3 "_law_drawn_plan" ["_law_left","_law_hosts","_law_many"] zc8):FnOk P w K mg base CX0 4 f fd ["_law_left","_law_hosts","_law_many","_law_most"] zd1:=by
 refine F.ok zj2 (fun vs H Q E h=>by unfold zd1 at h;obtain⟨_,_,_,_,_,rfl,_⟩:=h;rfl) (fun cdv A outer s H vs Q E hr h=>?_)
 unfold zd1 at h
 obtain⟨a,b,h,f,g,rfl,hL,hb,⟨h1,g1,g6⟩,⟨h2,h3⟩,q⟩:=h
 have hu:=hu40 hr
 refine⟨_,(za3 (psS (i:=4) zj2.nd (zg9 za1))
   (za3 (zt7 PassesOwn.never rfl (zal8 N.range_ (za0 (zb4 oAdd za2 (pD zbt4 hr zb8 (za0 (pq 0) (za0 (pq 3) za1)))) za1)) (za8 (i:=5) zj2.nd rfl (by first|exact Or.inl rfl|exact Or.inr rfl)) (za3 (psS (i:=6) zj2.nd (zc5 (K:=K) rfl (zg9 (za0 za2 (za0 (zb4 oAdd za2 (pD zbt4 hr zb8 (za0 (pq 0) (za0 za2 za1)))) (za0 (zb4 oAdd za2 (pD zbt4 hr zb8 (za0 (pq 0) (za0 (zb4 oPow za2 za2) za1)))) za1)))) (zb4 oDiv (pD zbt4 hr zb8 (za0 (pq 0) (za0 za2 za1))) za2)))
   (za6 (zl3 (zm5 (pq 4) (za0 (zr0 (za0 (pD zbv4 hr zb8 (za0 (pq 0) (za0 (pq 1) (za0 (pq 2) za1)))) (za0 (pq 6) za1))) za1))))))
   (za3 (zao8 (psIf (ptC (oEqK (K:=K) rfl (by exact hu)) (pD zbt4 hr zb8 (za0 (pq 0) (za0 za2 za1))) za2) (za6 (zl3 (zm5 (pq 4) (za0 (zr0 (za0 (pT (zak5 (K:=K) rfl) N.list_ zl2 (za0 (zc5 (K:=K) rfl (zc5 (K:=K) rfl (pq 4) za2) za2) za1)) (za0 (zb4 oAdd za2 (pD zbt4 hr zb8 (za0 (pq 0) (za0 za2 za1)))) za1))) za1)))) zb5))
   (za6 (zb1 (pq 4)))))),?_⟩
 refine zb0 (fun l H1 f1 s1 h1'=>?_)
 have n1:l≠a:=hL.ne f1
 refine zf3 (hL.same s1) (by walk_at "om") (by walk_at "om") (by walk_at "om") (fun d H2 d0 d1 c2 L2=>?_)
 refine zq8 (by decide) (by decide) (by walk_at "om") (by walk_at "om") ?_
 obtain⟨n,en⟩:∃ n:Nat,(1+d - 0).toNat=n:=⟨_,rfl⟩
 rw[en]
 have hn1:1<=n/\n<=6:=by walk_at "om"
 have c12:Chg a H H2:=s1.toChg.trans c2
 refine zq0 (fun i σ H3=>∃ (x y:Option V) (ts:List (Addr×Addr)) (ms:List (List Int×Int)),σ=[some (.ref a),some (.int h),some (.int f),some (.int g),some (.ref l),x,y]/\Chg a H H3/\zb3 H3 a (b+4+200*i)/\zl5 H3 l ts ms/\Off a ts/\Off l ts/\Nt H ts/\ms.length=i/\(∀ x∈ms,OkX h f x)/\zs5 ms<=i*(10 ^ 28+1)) ?_ ?_ ?_
 ·refine⟨_,_,[],[],rfl,c12,L2.up (by walk_at "om"),⟨c2 _ _ n1 h1',rfl,fun i t x e=>by simp at e⟩,?_,?_,?_,rfl,?_,?_⟩
  ·intro t ht;cases ht
  ·intro t ht;cases ht
  ·intro t ht;cases ht
  ·intro x hx;cases hx
  ·show zs5 []<=_
   unfold zs5
   simp
 ·rintro i σ H3 hi ⟨x0,y0,ts,ms,rfl,c3,L3,M3,O1,O2,O3,l3,k3,w3⟩
  have hi:i<6:=by walk_at "om"
  refine zf3 L3 (by walk_at "om") (by walk_at "om") (by walk_at "om") (fun d4 H4 d40 d41 c4 L4=>?_)
  walk_at "st"
  refine zf3 L4 (by walk_at "om") (by walk_at "om") (by walk_at "om") (fun d5 H5 d50 d51 c5 L5=>?_)
  refine zb0 (fun p6 H6 f6 s6 h6=>?_)
  refine zf3 (L5.same s6) (by walk_at "om") (by walk_at "om") (by walk_at "om") (fun d7 H7 d70 d71 c7 L7=>?_)
  have h67:=c7 _ _ (L5.ne f6) h6
  have M7:=(((M3.chg c4 n1 O1).chg c5 n1 O1).same s6).chg c7 n1 O1
  have c37:Chg a H H7:=(((c3.trans c4).trans c5).same s6).trans c7
  walk_at "st"
  refine zo9 h67 (by walk_at "om") (by simp only[zcd0,zcf2];omega) ?_
  intro v hv
  obtain⟨wt,rfl,wt0,wt1⟩:∃ m:Int,v=.int m/\1<=m/\m<=10 ^ 28+1:=by
   simp only[zcb3,zcd4,or_false] at hv
   rcases hv with rfl|rfl|rfl<;>exact⟨_,rfl,by walk_at "om",by walk_at "om"⟩
  clear hv h67 h6
  refine zo5 M7.out ?_
  refine zah5 L7 (by walk_at "om") h1 h2 h3 (fun p8 H8 ns f8 c8 L8 n8 h8 k81 k82 k83=>?_)
  have M8:=M7.chg c8 n1 O1
  have p8l:p8≠l:=Ne.symm (za4 M7.out f8)
  refine zg3 (fun p9 H9 f9 s9 h9=>?_)
  have M9:=M8.same s9
  have p9l:p9≠l:=Ne.symm (za4 M8.out f9)
  refine zab4 M9.out (by rw[zbz7,sizeLine_eq,M9.len];omega) (fun Ha ca ha=>?_)
  walk_at "wh"
  have Ma:=M9.push ca O2 ha (x:=(ns,wt)) (ca _ _ p9l h9) (ca _ _ p8l (s9 _ _ h8))
  have c39:Chg a H H9:=(c37.trans c8).same s9
  refine⟨_,_,_,_,rfl,fun b o z e=>ca _ _ (za4 e f1) (c39 _ _ z e),((L8.same s9).chg ca (Ne.symm n1)).up (by walk_at "om"),Ma,O1.push (L8.ne f9) n8,O2.push p9l p8l,O3.push (Chg.free' (c37.trans c8) f9 (L8.ne f9)) (Chg.free' c37 f8 n8),by rw[zca7,l3];rfl,zar9 k3 ⟨k83,by rw[k81],k82,wt0⟩,?_⟩
  rw[zad0]
  push_cast
  rw[Int.add_mul]
  simp only[Int.one_mul]
  omega
 ·rintro σ H3 ⟨x0,y0,ts,ms,rfl,c3,L3,M3,O1,O2,O3,l3,k3,w3⟩
  have w1:∀ x∈ms,1<=x.2:=fun x hx=>(k3 x hx).2.2.2
  have wb:zs5 ms<=6*(10 ^ 28+1):=by
   have:(n:Int)<=6:=by walk_at "om"
   have:(n:Int)*(10 ^ 28+1)<=6*(10 ^ 28+1):=Int.mul_le_mul_of_nonneg_right this (by decide)
   omega
  refine zz8 (fun σ H5=>∃ (x y:Option V) (ts:List (Addr×Addr)) (ms:List (List Int×Int)),σ=[some (.ref a),some (.int h),some (.int f),some (.int g),some (.ref l),x,y]/\Chg a H H5/\zb3 H5 a (b+2000)/\zl5 H5 l ts ms/\Off a ts/\Off l ts/\Nt H ts/\OkM h f ms/\zs5 ms<=10 ^ 30/\ms.length<=10) ?_ ?_
  ·walk_at "wh"
   refine zf3 L3 (by walk_at "om") (by walk_at "om") (by walk_at "om") (fun d4 H4 d40 d41 c4 L4=>?_)
   have M4:=M3.chg c4 n1 O1
   refine zg1 (fun z=>?_) (fun z=>?_)
   ·obtain⟨x,ex⟩:∃ x,ms[0]?=some x:=⟨ms[0]'(by walk_at "om"),zbz6 _⟩
    obtain⟨t,et,at0,ht,hp⟩:=M4.ix ex
    have kx:=k3 x (zca0 ex)
    refine zo5 M4.out ?_
    refine zd8 (v:=.ref t.1) M4.out at0 ?_
    refine zl4 (v:=.ref t.2) ht rfl ?_
    refine zw0 (SqL.of hp) (fun p5 H5 f5 s5 h5=>?_)
    refine zf3 (L4.same s5) (by walk_at "om") (by walk_at "om") (by walk_at "om") (fun d6 H6 d60 d61 c6 L6=>?_)
    have n5:p5≠a:=L4.ne f5
    have M6:=(M4.same s5).chg c6 n1 O1
    have p5l:p5≠l:=Ne.symm (za4 M4.out f5)
    refine zg3 (fun p7 H7 f7 s7 h7=>?_)
    have M7:=M6.same s7
    have p7l:p7≠l:=Ne.symm (za4 M6.out f7)
    refine zab4 M7.out (by rw[zbz7,sizeLine_eq,M7.len];omega) (fun Ha ca ha=>?_)
    walk_at "wh"
    have Ma:=M7.push ca O2 ha (x:=(x.1,1+d6)) (ca _ _ p7l h7) (ca _ _ p5l (s7 _ _ (c6 _ _ n5 h5)))
    have c37:Chg a H H7:=(((c3.trans c4).same s5).trans c6).same s7
    refine⟨_,_,_,_,rfl,fun b o z e=>ca _ _ (za4 e f1) (c37 _ _ z e),((L6.same s7).chg ca (Ne.symm n1)).up (by walk_at "om"),Ma,O1.push (L6.ne f7) n5,O2.push p7l p5l,O3.push (Chg.free' (((c3.trans c4).same s5).trans c6) f7 (L6.ne f7)) (Chg.free' (c3.trans c4) f5 n5),⟨by rw[zca7];simp,by rw[zca7,l3,zcd3];omega,by walk_at "om",zar9 k3 ⟨kx.1,kx.2.1,kx.2.2.1,by walk_at "om"⟩⟩,?_⟩
    rw[zad0,zca7,l3,zcd3]
    refine⟨?_,by walk_at "om"⟩
    show zs5 ms+(1+d6)<=10 ^ 30
    omega
   ·walk_at "wh"
    exact⟨_,_,_,_,rfl,c3.trans c4,L4.up (by walk_at "om"),M4,O1,O2,O3,⟨by walk_at "om",by walk_at "om",by walk_at "om",k3⟩,by walk_at "om",by walk_at "om"⟩
  ·rintro σ H5 ⟨x5,y5,ts5,ms5,rfl,c5,L5,M5,O5,O6,O7,k5,w5,e5⟩
   walk_at "wh"
   exact q l ts5 ms5 H5 f1 c5 L5 M5 n1 O5 O6 O7 k5 w5 e5
@[irreducible] def ze8:Sp:=fun vs H Q _=>∃ (m:Addr) (ts:List (Addr×Addr)) (ms:List (List Int×Int)) (h:Int) (f:Nat),vs=[.ref m]/\zl5 H m ts ms/\OkS ms h f/\f<=8/\ms.length<=20/\∀ (p:Addr) rs xss (H':Hp),H p=none->Same H H'->StAt (nw H H') p rs xss->zaa2 ms f xss->Q (.ref p) H'
theorem zo0 {H:Hp}{m:Addr}{ts:List (Addr×Addr)}{ms:List (List Int×Int)}{h:Int}{f:Nat}{Q:VK}{E:XK}(M:zl5 H m ts ms) (O:OkS ms h f) (hf:f<=8) (hl:ms.length<=20) (q:∀ (p:Addr) rs xss (H':Hp),H p=none->Same H H'->StAt (nw H H') p rs xss->zaa2 ms f xss->Q (.ref p) H'):ze8 [.ref m] H Q E:=by
 unfold ze8;exact⟨m,ts,ms,h,f,rfl,M,O,hf,hl,q⟩
theorem zaq6 (ms:List (List Int×Int)) (i:Nat):(flw ms i).length=ms.length:=by unfold flw;rw[zbz7]
set_option maxHeartbeats 0 in
theorem zac2 {f:Addr}{fd:FuncData}(F:Fun K "_law_flowing" "_law_flowing" zh8 f fd) (N:Nm mg):FnOk P w K mg base CX0 1 f fd ["_law_mix"] ze8:=by
 refine F.ok ze6 (fun vs H Q E h=>by unfold ze8 at h;obtain⟨_,_,_,_,_,rfl,_⟩:=h;rfl) (fun cdv A outer s H vs Q E hr h=>?_)
 unfold ze8 at h
 obtain⟨m,ts,ms,h,f,rfl,M,O,hf8,hl,q⟩:=h
 have hu:=hu40 hr
 have o1:=O.ne
 have o4:=O.all
 refine⟨_,(za3 (psS (i:=1) ze6.nd (zg9 za1))
   (za3 (zt7 PassesOwn.never rfl (zal8 N.range_ (za0 (pB (zq5 (K:=K) rfl) N.len_ zl1 (za0 (zc5 (K:=K) rfl (zc5 (K:=K) rfl (pq 0) za2) za2) za1)) za1)) (za8 (i:=2) ze6.nd rfl (by first|exact Or.inl rfl|exact Or.inr rfl)) (za3 (psS (i:=3) ze6.nd zai5)
   (za3 (zt7 PassesOwn.never rfl (zg4 (K:=K) rfl (pq 0)) (zp9 (K:=K) (n:=2) rfl rfl (zc1 (za8 (i:=4) ze6.nd rfl (by first|exact Or.inl rfl|exact Or.inr rfl)) (zc1 (za8 (i:=5) ze6.nd rfl (by first|exact Or.inl rfl|exact Or.inr rfl)) zp7))) (za3 (psS (i:=6) ze6.nd (zr0 (za0 (pB (cSumK (K:=K) rfl rfl) N.sum_ zbm8 (za0 (zh3 (slXK (K:=K) rfl) (pq 4) (zo3 (pq 2)) zj9) za1)) (za0 (zc5 (K:=K) rfl (pq 4) (pq 2)) za1))))
   (za6 (zas0 (by exact hu) (pq 3) (pq 6) (zb4 oAdd (zz1 (by exact hu) (pq 3) (pq 6) za2) (pq 5))))))
   (za6 (zl3 (zm5 (pq 1) (za0 (zm9 (N:=["_law_key","_law_flows"]) (ks:=[none,some 3]) (zg4 (K:=K) rfl (pB (cSortO rfl) N.sorted_ zbd3 (za0 (pq 3) za1))) (fun cl C s3 H3 fp=>(za8 (i:=0) nb_9 rfl (by first|exact Or.inl rfl|exact Or.inr rfl))) (fun cl C s3 H3 fp=>zi7) (fun cl C s3 H3 fp=>(zr0 (za0 (zc5 (K:=K) rfl (pq 0) za2) (za0 (zc5 (K:=K) rfl (pq 0) za2) (za0 (peDGet (by exact hu) (pq 1) (pq 0)) za1))))) (.skip (.take rfl rfl (by first|exact Or.inl rfl|exact Or.inr rfl) .nil))) za1)))))))
   (za6 (zb1 (pq 1))))),?_⟩
 refine zb0 (fun l H1 f1 s1 h1=>?_)
 have M1:=M.same s1
 obtain⟨x0,ex0⟩:∃ x,ms[0]?=some x:=⟨ms[0]'(by walk_at "om"),zbz6 _⟩
 obtain⟨t0,et0,at0,ht0,hp0⟩:=M1.ix ex0
 have kx0:=(o4 x0 (zca0 ex0)).2.1
 refine zd8 (v:=.ref t0.1) M1.out at0 ?_
 refine zl4 (v:=.ref t0.2) ht0 rfl ?_
 refine zi3 hp0 ?_
 rw[zbz7,kx0]
 refine zq8 (by decide) (by decide) (by walk_at "om") (by walk_at "om") ?_
 rw[show ((f:Int) - 0).toNat=f by walk_at "om"]
 refine zq0 (fun i σ H2=>∃ (k fl pl wt ky:Option V) (rs:List (Addr×List Addr)) (xss:List (List (Int×Int×Int))),σ=[some (.ref m),some (.ref l),k,fl,pl,wt,ky]/\Same H H2/\StAt (nw H H2) l rs xss/\xss.length=i/\∀ (k:Nat) xs,xss[k]?=some xs->zt8 ms k xs/\xs.length<=ms.length) ?_ ?_ ?_
 ·exact⟨_,_,_,_,_,[],[],rfl,s1,⟨zal0 f1 h1,rfl,fun i r xs e=>by simp at e,List.nodup_nil⟩,rfl,fun k xs e=>by simp at e⟩
 ·rintro i σ H2 hi ⟨k0,fl0,pl0,wt0,ky0,rs,xss,rfl,s2,S2,l2,b2⟩
  have S2l:=S2.len
  refine zbl8 (fun d H3 f3 s3 h3=>?_)
  refine zc3 ((M.same s2).same s3).out ?_
  refine zh5 (xs:=ts.map fun t=>V.ref t.1) (fun j σ H4=>∃ pl wt ky:Option V,σ=[some (.ref m),some (.ref l),some (.int (0+i)),some (.ref d),pl,wt,ky]/\Same H2 H4/\H4 d=some (.dT (dF pK (sumG ((flw ms i).take j))))) ?_ ?_ ?_ ?_
  ·exact⟨_,_,_,rfl,s3,h3⟩
  ·rintro j σ H4 _ ⟨_,_,_,_,s4,_⟩
   exact SqL.of ((M.same s2).same s4).out
  ·rintro j v σ H4 hj ⟨pl1,wt1,ky1,rfl,s4,hd⟩
   have M4:=(M.same s2).same s4
   obtain⟨t,x,rfl,e1,e2,ht,hp⟩:=M4.elt hj
   have kx:=(o4 x (zca0 e2)).2.1
   have jl:=(zbz9.mp e2).1
   have hix:i<x.1.length:=by walk_at "om"
   have ez:(flw ms i)[j]?=some (((x.1.drop i).sum,x.1.getD i 0),x.2):=by unfold flw;rw[zca1,e2];rfl
   have gi:x.1[i]?=some (x.1.getD i 0):=by rw[zca2,zbz6 hix];rfl
   refine zl0 ht ?_
   refine zr2 (SqL.of hp) (fun p5 H5 f5 s5 h5=>?_)
   rw[zt1 (by walk_at "om"),show (0+(i:Int)).toNat=i by walk_at "om",← List.map_drop] at h5
   refine zbl9 h5 ?_
   refine zd8 (v:=.int (x.1.getD i 0)) (s5 _ _ hp) (by rw[show (0+(i:Int))=((i:Nat):Int) by walk_at "om"];exact zi4 (by rw[zca1,gi];rfl)) ?_
   refine zg3 (fun p6 H6 f6 s6 h6=>?_)
   have hd6:=s6 _ _ (s5 _ _ hd)
   refine zbb3 hd6 ?_
   refine zbc6 hd6 (k:=pK ((x.1.drop i).sum,x.1.getD i 0)) h6 ?_
   have ev:(valV (dF pK (sumG ((flw ms i).take j))) (pK ((x.1.drop i).sum,x.1.getD i 0))).getD (V.int 0)=.int ((valG (sumG ((flw ms i).take j)) ((x.1.drop i).sum,x.1.getD i 0)).getD 0):=by
    rw[zu7 zaa4]
    cases valG (sumG ((flw ms i).take j)) ((x.1.drop i).sum,x.1.getD i 0)<;>rfl
   rw[ev]
   refine zbn3 hd6 (k:=pK ((x.1.drop i).sum,x.1.getD i 0)) h6 (by unfold dF;rw[zbz7,sizeLine_eq];have:=zq7 ((flw ms i).take j);rw[zcb8,zaq6] at this;omega) (fun H7 c7 h7=>?_)
   rw[zaa1 zaa4] at h7
   walk_at "wh"
   exact⟨_,_,_,rfl,Same.chg ((s4.trans s5).trans s6) f3 c7,by rw[zr4 ez];exact h7⟩
  ·rintro σ H4 ⟨pl1,wt1,ky1,rfl,s4,hd⟩
   rw[zbz7,M.len,← zaq6 ms i,zcf7] at hd
   have S4:=S2.same (nw_up s4)
   have hl4:=(zu3 S4.out).2
   have sl:(sumG (flw ms i)).length<=ms.length:=by have:=zq7 (flw ms i);rwa [zaq6] at this
   have hd':H4 d=some (.dT (((sumG (flw ms i)).map fun z=>(z.1,V.int z.2)).map fun z=>(pK z.1,z.2))):=by rw[hd,zcc8];rfl
   refine zo5 hl4 ?_
   refine soO_rd hd' (by rw[zbz7];omega) (fun p8 H8 bs ks f8 s8 pm od pr h8=>?_)
   have pm:ks.Perm ((sumG (flw ms i)).map (·.1)):=by rw[zcc8] at pm;exact pm
   have bl:bs.length=ks.length:=pr.length
   have kl:ks.length<=ms.length:=by have:=pm.length_eq;rw[zbz7] at this;omega
   have eg:∀ x∈ks,valG (sumG (flw ms i)) x=some ((valG (sumG (flw ms i)) x).getD 0):=fun x hx=>by
    obtain⟨n,e⟩:=zar4 (pm.mem_iff.mp hx)
    rw[e];rfl
   refine zc3 h8 ?_
   refine zab6 (n:=(bs.map V.ref).length) (Wk.list (SqL.of h8)) (by rw[zbz7,sizeLine_eq];omega) (fun j=>.tup [.int (ks.getD j (0,0)).1,.int (ks.getD j (0,0)).2,.int ((valG (sumG (flw ms i)) (ks.getD j (0,0))).getD 0)]) (fun j σ=>∃ t:Option V,σ=[t,some (.ref d)]) ⟨none,rfl⟩ ?_ ?_
   ·rintro j v σ H9 R' S' hj s9 hx ⟨t,rfl⟩ k
    rw[zca1] at hx
    obtain⟨b,eb,rfl⟩:=zca6.mp hx
    obtain⟨x,ex⟩:∃ x,ks[j]?=some x:=⟨ks[j]'(by have:=(zbz9.mp eb).1;omega),zbz6 _⟩
    have eb':=s9 _ _ (zak3 pr j b x eb ex)
    rw[show ks.getD j (0,0)=x by rw[zca2,ex];rfl] at k
    have hd9:=s9 _ _ (s8 _ _ hd)
    refine br_T ?_
    refine zl4 (v:=.int x.1) eb' rfl ?_
    refine zl4 (v:=.int x.2) eb' rfl ?_
    refine dgT_rd hd9 (k:=pK x) eb' (by rw[zu7 zaa4,eg x (zca0 ex)];rfl) ?_
    refine zg3 (fun pa Ha fa sa ha=>?_)
    walk_at "wh"
    exact k _ _ _ fa sa ha ⟨_,rfl⟩
   ·intro acc ps H9 F9
    rw[zbz7] at F9
    have F9l:=F9.len
    have s49:=s8.trans F9.same
    refine zab4 (s49 _ _ hl4) (by rw[zbz7,sizeLine_eq];omega) (fun Ha ca ha=>?_)
    walk_at "wh"
    have fl:∀ b,H8 b=none->H b=none/\b≠l:=fun b hb=>⟨s2.free (s4.free (s8.free hb)),Ne.symm (za4 (s8 _ _ hl4) hb)⟩
    have s4a:Same (rm l (nw H H4)) (rm l (nw H Ha)):=fun b o z=>by
     obtain⟨z1,z2⟩:=zh4 z
     obtain⟨z3,z4⟩:=zu3 z2
     exact zh6 z1 (zal0 z3 (ca _ _ z1 (s49 _ _ z4)))
    have em:(ks.map fun x=>(x.1,x.2,(valG (sumG (flw ms i)) x).getD 0)).map keyT=ks:=by
     rw[zcc8]
     exact (zce1 fun x _=>rfl).trans (List.map_id _)
    have newrow:RwAt (rm l (nw H Ha)) acc ps (ks.map fun x=>(x.1,x.2,(valG (sumG (flw ms i)) x).getD 0)):=by
     refine⟨?_,by rw[zbz7];omega,fun j b x q1 q2=>?_⟩
     ·have z:=fl acc F9.facc
      exact zh6 z.2 (zal0 z.1 (ca _ _ z.2 F9.out))
     ·rw[zca1] at q2
      obtain⟨y,ey,rfl⟩:=zca6.mp q2
      obtain⟨z1,z2⟩:=F9.row j b q1
      rw[show ks.getD j (0,0)=y by rw[zca2,ey];rfl] at z2
      have z:=fl b z1
      exact zh6 z.2 (zal0 z.1 (ca _ _ z.2 z2))
    refine⟨_,_,_,_,_,rs++[(acc,ps)],xss++[ks.map fun x=>(x.1,x.2,(valG (sumG (flw ms i)) x).getD 0)],rfl,Same.chg (s2.trans (s4.trans s49)) f1 ca,⟨zal0 f1 (by rw[ha,zcc6];rfl),by rw[zca7,zca7,S2l];rfl,fun k r xs e1 e2=>?_,zbp4 (I1:=H9) (H1:=H) (I:=H8) (acc:=l) S4.nd S4.len (fun k r xs e1 e2=>(S4.row k r xs e1 e2).same (Same.rm (nw_up s8))) F9.facc⟩,by rw[zca7,l2];rfl,fun k xs e=>?_⟩
    ·rcases zn7 e1 with ⟨a1,a2⟩|⟨a1,rfl⟩
     ·rcases zn7 e2 with ⟨b1,b2'⟩|⟨b1,_⟩
      ·exact (S4.row k r xs a2 b2').same s4a
      ·omega
     ·rcases zn7 e2 with ⟨b1,_⟩|⟨b1,rfl⟩
      ·omega
      ·exact newrow
    ·rcases zn7 e with ⟨b1,b2'⟩|⟨b1,rfl⟩
     ·exact b2 k xs b2'
     ·rw[b1,l2]
      refine⟨⟨by rw[em];exact od,fun k=>by rw[em];exact pm.mem_iff,fun z hz=>?_⟩,by rw[zbz7];exact kl⟩
      obtain⟨x,hx,rfl⟩:=zcb4.mp hz
      exact eg x hx
 ·rintro σ H2 ⟨k0,fl0,pl0,wt0,ky0,rs,xss,rfl,s2,S2,l2,b2⟩
  walk_at "wh"
  exact q l rs xss H2 f1 s2 S2 ⟨l2,b2⟩
def grw (f:Nat) (x:List Int×Int):List Int×Int:=(x.1.take f++[x.1.getD f 0+1]++x.1.drop (f+1),x.2)
theorem zbn7 {f:Nat}{x:List Int×Int}(h:f<x.1.length):(grw f x).1.length=x.1.length:=by
 unfold grw
 simp only[zca7,zcb8,zcd2,zcd3]
 omega
theorem zbn1 {f i:Nat}{x:List Int×Int}(h:f<x.1.length):(grw f x).1.getD i 0=x.1.getD i 0+if i=f then 1 else 0:=by
 have key:∀ z:Int,(x.1.take f++[z]++x.1.drop (f+1))[i]?=if i=f then some z else x.1[i]?:=fun z=>by
  by_cases h1:i<f
  ·rw[List.append_assoc,zcc4 (by rw[zcb8];omega),zcf9 h1,if_neg (by walk_at "om")]
  ·by_cases h2:i=f
   ·subst h2
    rw[if_pos rfl,zcc4 (by simp only[zca7,zcb8,zcd3];omega),zcc2 (by rw[zcb8];omega),zcb8,show i - min i x.1.length=0 by walk_at "om"]
    rfl
   ·have l1:(x.1.take f++[z]).length=f+1:=by simp only[zca7,zcb8,zcd3];omega
    rw[if_neg h2,zcc2 (by rw[l1];omega),l1,zcg1,show f+1+(i - (f+1))=i by walk_at "om"]
 have k:=key (x.1.getD f 0+1)
 show (x.1.take f++[x.1.getD f 0+1]++x.1.drop (f+1)).getD i 0=_
 generalize x.1.take f++[x.1.getD f 0+1]++x.1.drop (f+1)=ys at k
 rw[zca2,k]
 by_cases h2:i=f
 ·subst h2
  rw[if_pos rfl,if_pos rfl];rfl
 ·rw[if_neg h2,if_neg h2,Int.add_zero,zca2]
theorem zbc7 {f i:Nat}{x:List Int×Int}(h:f<x.1.length):((grw f x).1.drop i).sum=(x.1.drop i).sum+if i<=f then 1 else 0:=by
 have e0:x.1=x.1.take f++[x.1.getD f 0]++x.1.drop (f+1):=by
  rw[List.append_assoc]
  conv=>lhs;rw[← List.take_append_drop f x.1]
  rw[List.drop_eq_getElem_cons h,zca2,zbz6 h]
  rfl
 have l1:∀ z:Int,(x.1.take f++[z]).length=f+1:=fun z=>by simp only[zca7,zcb8,zcd3];omega
 have l0:(x.1.take f).length=f:=by rw[zcb8];omega
 have key:∀ z:Int,((x.1.take f++[z]++x.1.drop (f+1)).drop i).sum=if i<=f then ((x.1.take f).drop i).sum+z+(x.1.drop (f+1)).sum else (x.1.drop i).sum:=fun z=>by
  by_cases hi:i<=f
  ·rw[if_pos hi,List.drop_append,List.drop_append,l1,l0,show i - (f+1)=0 by walk_at "om",show i - f=0 by walk_at "om",zch5,zch5,zch7,zch7,List.sum_singleton]
  ·rw[if_neg hi,List.drop_append,zch1 (by rw[l1];omega),l1,List.nil_append,List.drop_drop,show f+1+(i - (f+1))=i by walk_at "om"]
 have a:=key (x.1.getD f 0+1)
 have b:=key (x.1.getD f 0)
 rw[← e0] at b
 show ((x.1.take f++[x.1.getD f 0+1]++x.1.drop (f+1)).drop i).sum=_
 rw[a]
 by_cases hi:i<=f
 ·rw[if_pos hi] at b
  rw[if_pos hi,if_pos hi,b]
  omega
 ·rw[if_neg hi,if_neg hi,Int.add_zero]
theorem OkS.grw {ms:List (List Int×Int)}{h:Int}{n f:Nat}(O:OkS ms h n) (hf:f<n):OkS (ms.map (G.grw f)) (h+1) n:=by
 refine⟨by rw[zbz7];exact O.ne,O.f1,fun y hy=>?_⟩
 obtain⟨x,hx,rfl⟩:=zcb4.mp hy
 obtain⟨nn,xl,xs,xw⟩:=O.all x hx
 refine⟨fun k hk=>?_,by rw[zbn7 (by walk_at "om")];exact xl,?_,xw⟩
 ·obtain⟨i,ei⟩:=zcc5 hk
  have e:(G.grw f x).1.getD i 0=k:=by rw[zca2,ei];rfl
  rw[zbn1 (by walk_at "om")] at e
  have:0<=x.1.getD i 0:=by
   rw[zca2]
   cases e':x.1[i]? with
   | none=>exact Int.le_refl _
   | some z=>exact nn z (zca0 e')
  rw[← e]
  split<;>omega
 ·have:=zbc7 (i:=0) (x:=x) (f:=f) (by walk_at "om")
  rw[zch5,zch5,if_pos (zcd6 _),xs] at this
  exact this
@[irreducible] def zh2:Sp:=fun vs H Q _=>∃ (m:Addr) (ts:List (Addr×Addr)) (ms:List (List Int×Int)) (f n:Nat),vs=[.ref m,.int f]/\zl5 H m ts ms/\(∀ x∈ms,x.1.length=n)/\f<n/\n<=8/\ms.length<=20/\∀ (g:Addr) ts' (H':Hp),H g=none->Same H H'->zl5 H' g ts' (ms.map (grw f))->Q (.ref g) H'
theorem zag0 {H:Hp}{m:Addr}{ts:List (Addr×Addr)}{ms:List (List Int×Int)}{f n:Nat}{Q:VK}{E:XK}(M:zl5 H m ts ms) (hn:∀ x∈ms,x.1.length=n) (hf:f<n) (h8:n<=8) (hl:ms.length<=20) (q:∀ (g:Addr) ts' (H':Hp),H g=none->Same H H'->zl5 H' g ts' (ms.map (grw f))->Q (.ref g) H'):zh2 [.ref m,.int f] H Q E:=by
 unfold zh2;exact⟨m,ts,ms,f,n,rfl,M,hn,hf,h8,hl,q⟩
set_option maxHeartbeats 0 in
theorem zah7 {f:Addr}{fd:FuncData}(F:Fun K "_law_grown" "_law_grown" zk6 f fd) (N:Nm mg):FnOk P w K mg base CX0 1 f fd ["_law_mix","_law_field"] zh2:=by
 refine F.ok zn8 (fun vs H Q E h=>by unfold zh2 at h;obtain⟨_,_,_,_,_,rfl,_⟩:=h;rfl) (fun cdv A outer s H vs Q E hr h=>?_)
 unfold zh2 at h
 obtain⟨m,ts,ms,f,n,rfl,M,hn,hf,h8,hl,q⟩:=h
 have hu:=hu40 hr
 have ml:=M.len
 refine⟨_,(za3 (psS (i:=2) zn8.nd (zg9 za1))
   (za3 (zt7 PassesOwn.never rfl (zg4 (K:=K) rfl (pq 0)) (zp9 (K:=K) (n:=2) rfl rfl (zc1 (za8 (i:=3) zn8.nd rfl (by first|exact Or.inl rfl|exact Or.inr rfl)) (zc1 (za8 (i:=4) zn8.nd rfl (by first|exact Or.inl rfl|exact Or.inr rfl)) zp7))) (za6 (zl3 (zm5 (pq 2) (za0 (zr0 (za0 (zb4 oAdd (zb4 oAdd (zh3 (slXK (K:=K) rfl) (pq 3) zj9 (zo3 (pq 1))) (zg9 (za0 (zb4 oAdd (zc5 (K:=K) rfl (pq 3) (pq 1)) za2) za1))) (zh3 (slXK (K:=K) rfl) (pq 3) (zo3 (zb4 oAdd (pq 1) za2)) zj9)) (za0 (pq 4) za1))) za1)))))
   (za6 (zb1 (pq 2))))),?_⟩
 refine zb0 (fun l H1 f1 s1 h1=>?_)
 refine zc3 (s1 _ _ M.out) ?_
 refine zh5 (xs:=ts.map fun t=>V.ref t.1) (fun j σ I=>∃ (x4 x5:Option V) (us:List (Addr×Addr)),σ=[some (.ref m),some (.int f),some (.ref l),x4,x5]/\Same H I/\zl5 I l us ((ms.take j).map (grw f))/\Off l us) ?_ ?_ ?_ ?_
 ·exact⟨_,_,[],rfl,s1,⟨h1,rfl,fun i t x e=>by simp at e⟩,fun t ht=>by cases ht⟩
 ·rintro j σ I _ ⟨_,_,_,_,s2,_⟩
  exact SqL.of (s2 _ _ M.out)
 ·rintro j v σ I hj ⟨x4,x5,us,rfl,s2,U,o⟩
  obtain⟨t,x,rfl,e1,e2,ht,hp⟩:=(M.same s2).elt hj
  have xl:=hn x (zca0 e2)
  have jl:=(zbz9.mp e2).1
  have gf:x.1[f]?=some (x.1.getD f 0):=by rw[zca2,zbz6 (by walk_at "om")];rfl
  have ul:=U.len
  rw[zbz7,zcb8] at ul
  refine zl0 ht ?_
  refine zo5 U.out ?_
  refine zr2 (SqL.of hp) (fun p3 H3 f3 s3 h3=>?_)
  rw[zq4 (by walk_at "om"),zcf3,← List.map_take] at h3
  refine zd8 (v:=.int (x.1.getD f 0)) (s3 _ _ hp) (zi4 (by rw[zca1,gf];rfl)) ?_
  refine zb0 (fun p4 H4 f4 s4 h4=>?_)
  refine zl7 (s4 _ _ h3) h4 (by rw[zbz7,zcb8,sizeLine_eq];show _+1<=_;omega) (fun p5 H5 f5 s5 h5=>?_)
  have s35:=(s3.trans s4).trans s5
  refine zr2 (SqL.of (s35 _ _ hp)) (fun p6 H6 f6 s6 h6=>?_)
  rw[zt1 (by walk_at "om"),show ((f:Int)+1).toNat=f+1 by walk_at "om",← List.map_drop] at h6
  refine zl7 (s6 _ _ h5) h6 (by simp only[zca7,zbz7,zcb8,zcd2,zcd3,sizeLine_eq];omega) (fun p7 H7 f7 s7 h7=>?_)
  have e7:H7 p7=some (.lst ((grw f x).1.map V.int)):=by rw[h7];unfold grw;rw[zcc6,zcc6];rfl
  refine zg3 (fun p8 H8 f8 s8 h8=>?_)
  have s38:=((s35.trans s6).trans s7).trans s8
  have U8:=U.same s38
  have n7:p7≠l:=Ne.symm (za4 ((s35.trans s6) _ _ U.out) f7)
  have n8:p8≠l:=Ne.symm (za4 (((s35.trans s6).trans s7) _ _ U.out) f8)
  refine zab4 U8.out (by rw[zbz7,sizeLine_eq];omega) (fun H9 c9 h9=>?_)
  walk_at "wh"
  have U9:=U8.push (x:=grw f x) c9 o h9 (c9 _ _ n8 h8) (c9 _ _ n7 (s8 _ _ e7))
  refine⟨_,_,us++[(p8,p7)],rfl,Same.chg (s2.trans s38) f1 c9,?_,o.push n8 n7⟩
  rw[zci4,e2,zcc6]
  exact U9
 ·rintro σ I ⟨x4,x5,us,rfl,s2,U,o⟩
  rw[zbz7,ml,zcf7] at U
  walk_at "wh"
  exact q l us I f1 s2 U
def mvT (k:Int) (z:Int×Int×Int):Int×Int×Int:=(z.1+1,z.2.1+k,z.2.2)
def mvK (k:Int) (q:Int×Int):Int×Int:=(q.1+1,q.2+k)
theorem zax4 {k:Int}{a b:Int×Int}(h:mvK k a=mvK k b):a=b:=by
 have h1:=congrArg Prod.fst h
 have h2:=congrArg Prod.snd h
 have h1:a.1+1=b.1+1:=h1
 have h2:a.2+k=b.2+k:=h2
 exact Prod.ext (by walk_at "om") (by walk_at "om")
theorem zbq7 (k:Int) (z:Int×Int×Int):keyT (mvT k z)=mvK k (keyT z):=rfl
theorem at_mv (k:Int) (q:Int×Int):∀ zs:List ((Int×Int)×Int),atG (zs.map fun z=>(mvK k z.1,z.2)) (mvK k q)=atG zs q
 | []=>rfl
 | z :: zs=>by
  rw[zcd9,zz5,zz5,at_mv k q zs]
  by_cases e:z.1=q
  ·rw[if_pos e,if_pos (congrArg (mvK k) e)]
  ·rw[if_neg e,if_neg (fun h=>e (zax4 h))]
theorem zt8.mv {ms ls:List (List Int×Int)}{i:Nat}{xs:List (Int×Int×Int)}{k:Int}(R:zt8 ms i xs) (h:flw ls i=(flw ms i).map fun z=>(mvK k z.1,z.2)):zt8 ls i (xs.map (mvT k)):=by
 obtain⟨⟨nd,od⟩,ks,vs⟩:=R
 have em:(xs.map (mvT k)).map keyT=(xs.map keyT).map (mvK k):=by rw[zcc8,zcc8];rfl
 have kk:∀ q,q∈(sumG (flw ls i)).map (·.1)↔∃ r,r∈(sumG (flw ms i)).map (·.1)/\mvK k r=q:=fun q=>by
  rw[(zg2 _).2,h,zcc8,zcb4]
  constructor
  ·rintro⟨z,hz,rfl⟩
   exact⟨z.1,(zg2 _).2 _ |>.mpr (zcb4.mpr ⟨z,hz,rfl⟩),rfl⟩
  ·rintro⟨r,hr,rfl⟩
   rw[(zg2 _).2,zcb4] at hr
   obtain⟨z,hz,rfl⟩:=hr
   exact⟨z,hz,rfl⟩
 refine⟨⟨?_,?_⟩,fun q=>?_,fun z hz=>?_⟩
 ·rw[em]
  have nd':=nd
  exact List.Pairwise.map (mvK k) (fun a b hab he=>hab (zax4 he)) nd'
 ·rw[em]
  refine List.Pairwise.map (mvK k) (fun a b hab=>?_) od
  rw[zu4] at hab ⊢
  show a.1+1<b.1+1∨(a.1+1=b.1+1/\a.2+k<b.2+k)
  omega
 ·rw[em,kk,zcb4]
  constructor
  ·rintro⟨r,hr,rfl⟩
   exact⟨r,(ks r).mp hr,rfl⟩
  ·rintro⟨r,hr,rfl⟩
   exact⟨r,(ks r).mpr hr,rfl⟩
 ·obtain⟨x,hx,rfl⟩:=zcb4.mp hz
  have v:=vs x hx
  rw[zbq7,zu5,h,at_mv]
  rw[zu5] at v
  have km:keyT x∈(flw ms i).map (·.1):=(zg2 _).2 _ |>.mp ((ks _).mp (zcb4.mpr ⟨x,hx,rfl⟩))
  rw[if_pos km] at v
  rw[if_pos (by rw[zcc8];obtain⟨z,hz',e⟩:=zcb4.mp km;exact zcb4.mpr ⟨z,hz',congrArg (mvK k) e⟩)]
  exact v
def zz7 (f:Nat) (xss:List (List (Int×Int×Int))):List (List (Int×Int×Int)):=(xss.take f).map (fun xs=>xs.map (mvT 0))++[(xss.getD f []).map (mvT 1)]++xss.drop (f+1)
theorem zbf2 {f:Nat}{xss:List (List (Int×Int×Int))}(h:f<xss.length):(zz7 f xss).length=xss.length:=by
 unfold zz7
 simp only[zca7,zbz7,zcb8,zcd2,zcd3]
 omega
theorem zbh2 {f i:Nat}{xss:List (List (Int×Int×Int))}{ys:List (Int×Int×Int)}(h:f<xss.length) (e:(zz7 f xss)[i]?=some ys):∃ xs,xss[i]?=some xs/\ys=if i<f then xs.map (mvT 0) else if i=f then xs.map (mvT 1) else xs:=by
 unfold zz7 at e
 have l0:((xss.take f).map (fun xs=>xs.map (mvT 0))).length=f:=by rw[zbz7,zcb8];omega
 have l1:((xss.take f).map (fun xs=>xs.map (mvT 0))++[(xss.getD f []).map (mvT 1)]).length=f+1:=by rw[zca7,l0];rfl
 by_cases h1:i<f
 ·rw[List.append_assoc,zcc4 (by rw[l0];exact h1),zca1,zcf9 h1] at e
  obtain⟨xs,ex,rfl⟩:=zca6.mp e
  exact⟨xs,ex,by rw[if_pos h1]⟩
 ·by_cases h2:i=f
  ·subst h2
   rw[zcc4 (by rw[l1];omega),zcc2 (by rw[l0];omega),l0,Nat.sub_self] at e
   have e:some ((xss.getD i []).map (mvT 1))=some ys:=e
   cases e
   refine⟨xss.getD i [],by rw[zca2,zbz6 h];rfl,by rw[if_neg (by walk_at "om"),if_pos rfl]⟩
  ·rw[zcc2 (by rw[l1];omega),l1,zcg1,show f+1+(i - (f+1))=i by walk_at "om"] at e
   exact⟨ys,e,by rw[if_neg h1,if_neg h2]⟩
theorem zaa2.more {ms:List (List Int×Int)}{h:Int}{n f:Nat}{xss:List (List (Int×Int×Int))}(O:OkS ms h n) (S:zaa2 ms n xss) (hf:f<n):zaa2 (ms.map (grw f)) n (zz7 f xss):=by
 have fx:f<xss.length:=by rw[S.1];exact hf
 refine⟨by rw[zbf2 fx,S.1],fun i ys e=>?_⟩
 obtain⟨xs,ex,ey⟩:=zbh2 fx e
 obtain⟨R,rl⟩:=S.2 i xs ex
 have fl:flw (ms.map (grw f)) i=(flw ms i).map fun z=>((z.1.1+(if i<=f then 1 else 0),z.1.2+if i=f then 1 else 0),z.2):=by
  unfold flw
  rw[zcc8,zcc8]
  refine zce1 fun x hx=>?_
  have xl:=(O.all x hx).2.1
  show ((((grw f x).1.drop i).sum,(grw f x).1.getD i 0),x.2)=(((x.1.drop i).sum+(if i<=f then 1 else 0),x.1.getD i 0+if i=f then 1 else 0),x.2)
  rw[zbc7 (by walk_at "om"),zbn1 (by walk_at "om")]
 refine⟨?_,?_⟩
 ·by_cases h1:i<f
  ·rw[ey,if_pos h1]
   refine R.mv ?_
   rw[fl,if_pos (by walk_at "om"),if_neg (by walk_at "om")];rfl
  ·by_cases h2:i=f
   ·rw[ey,if_neg h1,if_pos h2]
    refine R.mv ?_
    rw[fl,if_pos (by walk_at "om"),if_pos h2];rfl
   ·rw[ey,if_neg h1,if_neg h2]
    have e0:flw (ms.map (grw f)) i=flw ms i:=by
     rw[fl,if_neg (by walk_at "om"),if_neg h2]
     exact (zce1 fun z _=>by rw[Int.add_zero,Int.add_zero];rfl).trans (List.map_id _)
    unfold zt8
    rw[e0]
    exact R
 ·rw[ey,zbz7]
  split
  ·rw[zbz7];exact rl
  ·split
   ·rw[zbz7];exact rl
   ·exact rl
structure zr6 (H0 H:Hp) (rs:List (Addr×List Addr)) (xss:List (List (Int×Int×Int))):Prop where
 len:rs.length=xss.length
 row:∀ (i:Nat) r xs,rs[i]?=some r->xss[i]?=some xs->RwAt H r.1 r.2 xs
 new:∀ r∈rs,H0 r.1=none
 nd:(rs.map (·.1)).Nodup
theorem zr6.same {H0 H H':Hp}{rs:List (Addr×List Addr)}{xss:List (List (Int×Int×Int))}(R:zr6 H0 H rs xss) (s:Same H H'):zr6 H0 H' rs xss:=⟨R.len,fun i r xs e1 e2=>(R.row i r xs e1 e2).same s,R.new,R.nd⟩
theorem zr6.is {H0 H:Hp}{rs:List (Addr×List Addr)}{xss:List (List (Int×Int×Int))}(R:zr6 H0 H rs xss):∀ r∈rs,∃ o,H r.1=some o:=fun r hr=>by
 obtain⟨i,ei⟩:=zcc5 hr
 obtain⟨xs,ex⟩:∃ xs,xss[i]?=some xs:=⟨_,zbz6 (by have:=(zbz9.mp ei).1;have:=R.len;omega)⟩
 exact⟨_,(R.row i r xs ei ex).out⟩
theorem zr6.app {H0 H1 H2 H:Hp}{rs rs':List (Addr×List Addr)}{xss xss':List (List (Int×Int×Int))}(R:zr6 H0 H1 rs xss) (s1:Same H1 H) (R':zr6 H2 H rs' xss') (s:Same H1 H2) (s0:Same H0 H1):zr6 H0 H (rs++rs') (xss++xss'):=by
 refine⟨by rw[zca7,zca7,R.len,R'.len],fun i r xs e1 e2=>?_,fun r hr=>?_,?_⟩
 ·have l:=R.len
  by_cases hi:i<rs.length
  ·rw[zcc4 hi] at e1
   rw[zcc4 (by walk_at "om")] at e2
   exact (R.row i r xs e1 e2).same s1
  ·rw[zcc2 (by walk_at "om")] at e1
   rw[zcc2 (by walk_at "om"),← l] at e2
   exact R'.row _ r xs e1 e2
 ·rcases zcc3.mp hr with hr|hr
  ·exact R.new r hr
  ·exact s0.free (s.free (R'.new r hr))
 ·rw[zcc6,zcg2]
  refine⟨R.nd,R'.nd,fun a ha b hb=>?_⟩
  obtain⟨r,hr,rfl⟩:=zcb4.mp ha
  obtain⟨r',hr',rfl⟩:=zcb4.mp hb
  obtain⟨o,ho⟩:=R.is r hr
  exact za4 (s _ _ ho) (R'.new r' hr')
theorem zr6.st {H0 H H':Hp}{p:Addr}{rs:List (Addr×List Addr)}{xss:List (List (Int×Int×Int))}(R:zr6 H0 H rs xss) (s:Same H H') (f:H p=none) (h:H' p=some (.lst (rs.map fun r=>V.ref r.1))):StAt H' p rs xss:=
 ⟨h,R.len,fun i r xs e1 e2=>(R.row i r xs e1 e2).same (fun b o e=>zh6 (za4 e f) (s _ _ e)),R.nd⟩
@[irreducible] def zk3:Sp:=fun vs H Q _=>∃ (a:Addr) (ts:List Addr) (xs:List (Int×Int×Int)) (k:Int),vs=[.ref a,.int k]/\RwAt H a ts xs/\xs.length<=1000/\∀ (r:Addr) (bs:List Addr) (H':Hp),H r=none->Same H H'->RwAt H' r bs (xs.map (mvT k))->Q (.ref r) H'
theorem zaa3 {H:Hp}{a:Addr}{ts:List Addr}{xs:List (Int×Int×Int)}{k:Int}{Q:VK}{E:XK}(R:RwAt H a ts xs) (hl:xs.length<=1000) (q:∀ (r:Addr) (bs:List Addr) (H':Hp),H r=none->Same H H'->RwAt H' r bs (xs.map (mvT k))->Q (.ref r) H'):zk3 [.ref a,.int k] H Q E:=by unfold zk3;exact⟨a,ts,xs,k,rfl,R,hl,q⟩
theorem zap6 {f:Addr}{fd:FuncData}(F:Fun K "row_more" "row_more" zn9 f fd) (N:Nm mg):FnOk P w K mg base CX0 1 f fd ["row","sent_more"] zk3:=by
 refine F.ok zaq1 (fun vs H Q E h=>by unfold zk3 at h;obtain⟨_,_,_,_,rfl,_⟩:=h;rfl) (fun cdv A outer s H vs Q E hr h=>?_)
 unfold zk3 at h
 obtain⟨a,ts,xs,k,rfl,R,hl,q⟩:=h
 have hu:=hu40 hr
 have rl:=R.len
 refine⟨_,(za6 (zb1 (zm9 (N:=["left","sent","flow","sent_more"]) (ks:=[none,none,none,some 1]) (zg4 (K:=K) rfl (pq 0)) (fun cl C s3 H3 fp=>(zp9 (K:=K) (n:=3) rfl rfl (zc1 (za8 (i:=0) nb_7 rfl (by first|exact Or.inl rfl|exact Or.inr rfl)) (zc1 (za8 (i:=1) nb_7 rfl (by first|exact Or.inl rfl|exact Or.inr rfl)) (zc1 (za8 (i:=2) nb_7 rfl (by first|exact Or.inl rfl|exact Or.inr rfl)) zp7))))) (fun cl C s3 H3 fp=>zi7) (fun cl C s3 H3 fp=>(zr0 (za0 (zb4 oAdd (pq 0) za2) (za0 (zb4 oAdd (pq 1) (pq 3)) (za0 (pq 2) za1))))) (.skip (.skip (.skip (.take rfl rfl (by first|exact Or.inl rfl|exact Or.inr rfl) .nil))))))),?_⟩
 refine zc3 R.out ?_
 refine zab6 (Wk.list (SqL.of R.out)) (by rw[zbz7,sizeLine_eq];omega) (fun i=>.tup [.int ((xs.getD i (0,0,0)).1+1),.int ((xs.getD i (0,0,0)).2.1+k),.int (xs.getD i (0,0,0)).2.2]) (fun j σ=>∃ t u w:Option V,σ=[t,u,w,some (.int k)]) ⟨none,none,none,rfl⟩ ?_ ?_
 ·rintro i x σ I R' S hi s1 hx ⟨_,_,_,rfl⟩ kk
  rw[zbz7] at hi
  rw[zca1] at hx
  obtain⟨t,et,rfl⟩:=zca6.mp hx
  obtain⟨z,ez⟩:∃ z,xs[i]?=some z:=⟨_,zbz6 (by walk_at "om")⟩
  rw[show xs.getD i (0,0,0)=z by rw[zca2,ez];rfl] at kk
  refine zl0 (s1 _ _ (R.row i t z et ez)) ?_
  refine br_T ?_
  refine zg3 (fun p I1 f1 r1 k1=>?_)
  walk_at "wh"
  exact kk _ _ _ f1 r1 k1 ⟨_,_,_,rfl⟩
 rintro l1 ps1 H1 F1
 rw[zbz7] at F1
 walk_at "wh"
 refine q l1 ps1 H1 F1.facc F1.same ⟨F1.out,by rw[F1.len,zbz7];exact rl,fun i b x e1 e2=>?_⟩
 rw[zca1] at e2
 obtain⟨z,ez,rfl⟩:=zca6.mp e2
 have:=(F1.row i b e1).2
 rw[show xs.getD i (0,0,0)=z by rw[zca2,ez];rfl] at this
 exact this
@[irreducible] def zg0 (zbt2:Addr):Sp:=fun vs H Q E=>∃ (v:V) (d:PyData),vs=[v]/\ShV H v d/\sml d=true/\(zd4 d=true->∀ H',Same H H'->Q .non H')/\(zd4 d=false->∀ H',Same H H'->E (.ref zbt2) none H')
theorem zae1 {zbt2:Addr}{H:Hp}{v:V}{d:PyData}{Q:VK}{E:XK}(h:ShV H v d) (hs:sml d=true) (q:zd4 d=true->∀ H',Same H H'->Q .non H') (qe:zd4 d=false->∀ H',Same H H'->E (.ref zbt2) none H'):zg0 zbt2 [v] H Q E:=by unfold zg0;exact⟨v,d,rfl,h,hs,q,qe⟩
theorem zad5 {f:Addr}{fd:FuncData}(F:Fun K "look_stream" "look_stream" zj0 f fd) (N:Nm mg) (zbv8:Def P w K mg base CX0 8 "is_any_stream" ["stream"] ze2) (Z:Cz K mg base zbt5 zbt6 zbt3 zbu6 zbt2 zbu1 zbt9 zbt7 zbt8 zbu2 zbu3 zbu7 zbu4 zbu0):FnOk P w K mg base (CXR P w) 9 f fd ["stream"] (zg0 zbt2):=by
 refine F.okR zae3 (fun vs H Q E h=>by unfold zg0 at h;obtain⟨_,_,rfl,_⟩:=h;rfl) (fun cdv A outer s H vs Q E hr hX h=>?_)
 unfold zg0 at h
 obtain⟨v,d,rfl,h,hs,q,qe⟩:=h
 refine⟨_,(za6 (psIf (zl8 (ptV (pD zbv8 hr zb8 (za0 (pq 0) za1)))) (za6 (zaz9 Z.o_NoStream PySem.F.excBase_ValueError rfl hX (za0 zp8 za1))) zb5)),?_⟩
 refine any_rd h hs (fun H1 s1=>?_)
 cases e:zd4 d
 ·walk_at "wh"
  refine zc4 (br_F ?_)
  walk_at "wh"
  exact⟨by decide,qe e _ s1⟩
 ·walk_at "wh"
  refine zc4 (br_T ?_)
  walk_at "wh"
  exact q e _ s1
theorem zbm7 {d:PyData}(e:zd4 d=true) (hs:sml d=true):∃ ds,d=.list ds/\zj7 d=true/\(0<=zi6 d/\zi6 d<=40)/\(1<=ds.length/\ds.length<=8)/\∀ x∈ds,rowD x=true/\(za9 x).length<=1000:=by
 unfold zd4 zx3 zo4 at e
 simp only[zcb1,decide_eq_true_eq] at e
 obtain⟨eb,⟨hz,hf⟩,_,_,ea,_⟩:=e
 cases d with
 | list ds=>
  have ea:ds.all rowD=true:=ea
  have ea:=zcc0.mp ea
  have hf:1<=(ds.length:Int)/\(ds.length:Int)<=8:=hf
  refine⟨ds,rfl,eb,hz,by walk_at "om",fun x hx=>⟨ea x hx,?_⟩⟩
  have m:=(zo6 hs).2 x hx
  have r:=ea x hx
  cases x with
  | list es=>exact (zo6 m).1
  | _=>simp[rowD] at r
 | _=>simp[zj7] at eb
theorem zaq7 {H:Hp}:∀ {xs:List V}{ds:List PyData},ShL H xs ds->(∀ x∈ds,rowD x=true)->∃ rs:List (Addr×List Addr),xs=(rs.map fun r=>V.ref r.1)/\rs.length=ds.length/\∀ (i:Nat) r d,rs[i]?=some r->ds[i]?=some d->RwAt H r.1 r.2 (rowF d)
 | _,_,.nil,_=>⟨[],rfl,rfl,fun i r d e=>by simp at e⟩
 | _,_,.cons (d:=d) h l,hr=>by
  obtain⟨rs,e,el,k⟩:=zaq7 l fun x hx=>hr x (.tail _ hx)
  obtain⟨a,ts,es,rfl,rfl,ha,hl,hp,_⟩:=zv7 h (hr d (.head _))
  refine⟨(a,ts) :: rs,by rw[e];rfl,by rw[zcd0,zcd0,el],fun i r d' e1 e2=>?_⟩
  match i with
  | 0=>cases e1;cases e2;exact⟨ha,by rw[zf2];exact hl,hp⟩
  | i+1=>exact k i r d' e1 e2
@[irreducible] def zc9 (zbt2 zbt3:Addr):Sp:=fun vs H Q E=>∃ (v:V) (d:PyData) (k:Int),vs=[v,.int k]/\ShV H v d/\sml d=true /\
 ((zd4 d=false/\∀ H',Same H H'->E (.ref zbt2) none H')∨(zd4 d=true/\¬ (0<=k/\k<(za9 d).length)/\∀ H',Same H H'->E (.ref zbt3) none H') ∨
  (zd4 d=true/\(0<=k/\k<(za9 d).length)/\∀ (r:Addr) rs (H':Hp),H r=none->Same H H'->StAt H' r rs (zz7 k.toNat ((za9 d).map rowF))->(∀ r'∈rs,H r'.1=none)->Q (.ref r) H'))
theorem zan9 {zbt2 zbt3:Addr}{H:Hp}{v:V}{d:PyData}{k:Int}{Q:VK}{E:XK}(h:ShV H v d) (hs:sml d=true) (e:zd4 d=false) (q:∀ H',Same H H'->E (.ref zbt2) none H'):zc9 zbt2 zbt3 [v,.int k] H Q E:=by unfold zc9;exact⟨v,d,k,rfl,h,hs,.inl ⟨e,q⟩⟩
theorem zan1 {zbt2 zbt3:Addr}{H:Hp}{v:V}{d:PyData}{k:Int}{Q:VK}{E:XK}(h:ShV H v d) (hs:sml d=true) (e:zd4 d=true) (hk:¬ (0<=k/\k<(za9 d).length)) (q:∀ H',Same H H'->E (.ref zbt3) none H'):zc9 zbt2 zbt3 [v,.int k] H Q E:=by unfold zc9;exact⟨v,d,k,rfl,h,hs,.inr (.inl ⟨e,hk,q⟩)⟩
theorem zaa0 {zbt2 zbt3:Addr}{H:Hp}{v:V}{d:PyData}{k:Int}{Q:VK}{E:XK}(h:ShV H v d) (hs:sml d=true) (e:zd4 d=true) (hk:0<=k/\k<(za9 d).length) (q:∀ (r:Addr) rs (H':Hp),H r=none->Same H H'->StAt H' r rs (zz7 k.toNat ((za9 d).map rowF))->(∀ r'∈rs,H r'.1=none)->Q (.ref r) H'):zc9 zbt2 zbt3 [v,.int k] H Q E:=by unfold zc9;exact⟨v,d,k,rfl,h,hs,.inr (.inr ⟨e,hk,q⟩)⟩
set_option maxHeartbeats 0 in
theorem zaj6 {f:Addr}{fd:FuncData}(F:Fun K "host_more" "host_more" zm2 f fd) (N:Nm mg) (zbu5:Def P w K mg base CX0 3 "is_between" ["thing","least","most"] zd6) (zbw7:Def P w K mg base (CXR P w) 9 "look_stream" ["stream"] (zg0 zbt2)) (zbx3:Def P w K mg base CX0 1 "row_more" ["row","sent_more"] zk3) (Z:Cz K mg base zbt5 zbt6 zbt3 zbu6 zbt2 zbu1 zbt9 zbt7 zbt8 zbu2 zbu3 zbu7 zbu4 zbu0):FnOk P w K mg base (CXR P w) 10 f fd ["stream","field"] (zc9 zbt2 zbt3):=by
 refine F.okR zr7 (fun vs H Q E h=>by unfold zc9 at h;obtain⟨_,_,_,rfl,_⟩:=h;rfl) (fun cdv A outer s H vs Q E hr hX h=>?_)
 unfold zc9 at h
 obtain⟨v,d,k,rfl,hv,hs,h⟩:=h
 have hu:=hu40 hr
 refine⟨_,(za3 (zl3 (pD zbw7 hr (passR hX) (za0 (pq 0) za1)))
   (za3 (psIf (zl8 (ptV (pD zbu5 hr zb8 (za0 (pq 1) (za0 za2 (za0 (zb4 oSub (pB (zq5 (K:=K) rfl) N.len_ zl1 (za0 (pq 0) za1)) za2) za1)))))) (za6 (zaz9 Z.o_NoPlan PySem.F.excBase_ValueError rfl hX (za0 zp8 za1))) zb5)
   (za3 (psC (i:=2) (N:=["row"]) (ks:=[none]) zr7.nd (zg4 (K:=K) rfl (zh3 (slXK (K:=K) rfl) (pq 0) zj9 (zo3 (pq 1)))) (fun cl C s3 H3 fp=>(za8 (i:=0) nb_8 rfl (by first|exact Or.inl rfl|exact Or.inr rfl))) (fun cl C s3 H3 fp=>zi7) (fun cl C s3 H3 fp=>(pD zbx3 hr zb8 (za0 (pq 0) (za0 za2 za1)))) (.skip .nil))
   (za3 (psC (i:=3) (N:=["row"]) (ks:=[none]) zr7.nd (zg4 (K:=K) rfl (zh3 (slXK (K:=K) rfl) (pq 0) (zo3 (zb4 oAdd (pq 1) za2)) zj9)) (fun cl C s3 H3 fp=>(za8 (i:=0) nb_8 rfl (by first|exact Or.inl rfl|exact Or.inr rfl))) (fun cl C s3 H3 fp=>zi7) (fun cl C s3 H3 fp=>(pT (zak5 (K:=K) rfl) N.list_ zl2 (za0 (pq 0) za1))) (.skip .nil))
   (za6 (zb1 (zb4 oAdd (zb4 oAdd (pq 2) (zg9 (za0 (pD zbx3 hr zb8 (za0 (zc5 (K:=K) rfl (pq 0) (pq 1)) (za0 za2 za1))) za1))) (pq 3)))))))),?_⟩
 refine zae1 hv hs (fun e H1 s1=>?_) (fun e H1 s1=>?_)
 rotate_left
 ·rcases h with ⟨_,q⟩|⟨z,_⟩|⟨z,_⟩
  ·exact q _ s1
  ·rw[e] at z;cases z
  ·rw[e] at z;cases z
 obtain⟨ds,rfl,eb,hz,dl,ok⟩:=zbm7 e hs
 have hv1:=hv.same s1
 cases hv1
 case lst a xs e1 l=>
  have ll:=l.len
  refine zi3 e1 ?_
  rw[ll]
  refine zbe6 ?_
  walk_at "wh"
  rcases h with ⟨z,_⟩|⟨_,hk,q⟩|⟨_,hk,q⟩
  ·rw[e] at z;cases z
  ·have hk:¬ (0<=k/\k<(ds.length:Int)):=hk
   refine zc4 (zan8 (by walk_at "om") ?_)
   walk_at "wh"
   exact⟨by decide,q _ s1⟩
  have hk:0<=k/\k<(ds.length:Int):=hk
  have q:∀ (r:Addr) rs (H':Hp),H r=none->Same H H'->StAt H' r rs (zz7 k.toNat (ds.map rowF))->(∀ r'∈rs,H r'.1=none)->Q (.ref r) H':=q
  refine zc4 (zah3 (by walk_at "om") ?_)
  obtain⟨rs0,rfl,rl0,rr0⟩:=zaq7 l fun x hx=>(ok x hx).1
  obtain⟨n,rfl⟩:∃ n:Nat,k=n:=⟨k.toNat,by walk_at "om"⟩
  have hn:n<ds.length:=by walk_at "om"
  rw[zcf3] at q
  have xl:∀ (i:Nat) dd,ds[i]?=some dd->(rowF dd).length<=1000:=fun i dd ed=>by unfold rowF;rw[zbz7];exact (ok dd (zca0 ed)).2
  refine zr2 (SqL.of e1) (fun p2 H2 f2 s2 h2=>?_)
  rw[zq4 (by walk_at "om"),zcf3,← List.map_take] at h2
  have s02:=s1.trans s2
  refine zc3 h2 ?_
  refine zbl1 (Wk.list (SqL.of h2)) (by rw[zbz7,zcb8,sizeLine_eq];omega) (fun acc j ys σ I=>∃ (t:Option V) (rs:List (Addr×List Addr)),σ=[t]/\ys=(rs.map fun r=>V.ref r.1)/\rs.length=j/\zr6 H2 (rm acc I) rs (((ds.take n).take j).map fun dd=>(rowF dd).map (mvT 0))/\∀ r∈rs,r.1≠acc) ?_ ?_ ?_ ?_
  ·intro acc I f3 s3 h3
   exact⟨none,[],rfl,rfl,rfl,⟨rfl,fun i r xs e=>by simp at e,fun r hr=>by (cases hr),List.nodup_nil⟩,fun r hr=>by cases hr⟩
  ·rintro acc j ys σ I I' s' ⟨t,rs,r1,r2,r3,r4,r5⟩
   exact⟨t,rs,r1,r2,r3,r4.same (Same.rm s'),r5⟩
  ·rintro acc j v ys σ I R S hj facc s3 hacc hx ⟨t,rs,rfl,rfl,rl,N,ne⟩ kR _
   rw[zbz7,zcb8] at hj
   rw[zca1,zcf9 (by walk_at "om")] at hx
   obtain⟨r0,er0,rfl⟩:=zca6.mp hx
   obtain⟨dd,ed⟩:∃ dd,ds[j]?=some dd:=⟨_,zbz6 (by walk_at "om")⟩
   have R0:=(rr0 j r0 dd er0 ed).same (s2.trans s3)
   refine br_T ?_
   refine zaa3 R0 (xl j dd ed) (fun r bs I1 f4 s4 R4=>?_)
   have nr:r≠acc:=Ne.symm (za4 hacc f4)
   have e4:(ds.take n)[j]?=some dd:=by rw[zcf9 (by walk_at "om")];exact ed
   walk_at "wh"
   refine kR _ _ _ s4 (fun I2 c2=>⟨_,rs++[(r,bs)],rfl,by rw[zcc6];rfl,by rw[zca7,rl];rfl,?_,fun r' hr'=>?_⟩)
   ·have nb:∀ b∈bs,b≠acc:=fun b hb e=>by
     obtain⟨i,ei⟩:=zcc5 hb
     obtain⟨x,ex⟩:∃ x,((rowF dd).map (mvT 0))[i]?=some x:=⟨_,zbz6 (by have:=(zbz9.mp ei).1;have:=R4.len;omega)⟩
     have:=R4.row i b x ei ex
     rw[e,s4 _ _ hacc] at this
     cases this
    have R4':RwAt (rm acc I1) r bs ((rowF dd).map (mvT 0)):=⟨zh6 nr R4.out,R4.len,fun i b x e1 e2=>zh6 (nb b (zca0 e1)) (R4.row i b x e1 e2)⟩
    have one:zr6 (rm acc I) (rm acc I1) [(r,bs)] [(rowF dd).map (mvT 0)]:=⟨rfl,fun i r' xs' e1 e2=>by
     match i with
     | 0=>cases e1;cases e2;exact R4'
     | i+1=>simp at e1,fun r' hr'=>by
      rw[zcd8.mp hr']
      show rm acc I r=none
      unfold rm
      rw[if_neg nr]
      exact f4,by simp⟩
    have:=(N.app (Same.rm s4) one (Same.refl _) (fun b o e=>zh6 (za4 e facc) (s3 _ _ e))).same (Chg.rm c2)
    rw[zci4,e4,zcc6]
    exact this
   ·rcases zcc3.mp hr' with hr' | hr'
    ·exact ne r' hr'
    ·rw[zcd8.mp hr'];exact nr
  rintro l3 ys σ H3 f3 s3 h3 ⟨t,rsA,rfl,rfl,rlA,NA,neA⟩
  rw[zbz7,zcb8] at NA
  have eA:((ds.take n).take (min n rs0.length)).map (fun dd=>(rowF dd).map (mvT 0))=((ds.map rowF).take n).map (fun xs=>xs.map (mvT 0)):=by
   rw[List.take_take,show min (min n rs0.length) n=n by walk_at "om",← List.map_take,zcc8];rfl
  rw[eA] at NA
  have NA:=NA.same (zp5 _ _)
  have s13:=s2.trans s3
  refine zr2 (SqL.of (s13 _ _ e1)) (fun p4 H4 f4 s4 h4=>?_)
  rw[zt1 (by walk_at "om"),show ((n:Int)+1).toNat=n+1 by walk_at "om",← List.map_drop] at h4
  have s14:=s13.trans s4
  refine zc3 h4 ?_
  refine zab6 (Wk.list (SqL.of h4)) (by rw[zbz7,zcd2,sizeLine_eq];omega) (fun i=>.lst (((rs0.drop (n+1)).getD i (0,[])).2.map V.ref)) (fun j σ=>∃ t:Option V,σ=[t]) ⟨none,rfl⟩ ?_ ?_
  ·rintro i x σ I R S hi s5 hx ⟨_,rfl⟩ kk
   rw[zca1] at hx
   obtain⟨r0,er0,rfl⟩:=zca6.mp hx
   rw[show (rs0.drop (n+1)).getD i (0,[])=r0 by rw[zca2,er0];rfl] at kk
   rw[zcg1] at er0
   obtain⟨dd,ed⟩:∃ dd,ds[n+1+i]?=some dd:=⟨_,zbz6 (by have:=(zbz9.mp er0).1;omega)⟩
   have R0:=(rr0 _ r0 dd er0 ed).same (s14.trans s5)
   refine br_T ?_
   refine zw0 (SqL.of R0.out) (fun q6 I6 f6 s6 h6=>?_)
   walk_at "wh"
   exact kk _ _ _ f6 s6 h6 ⟨_,rfl⟩
  rintro l5 qs H5 F5
  rw[zbz7,zcd2] at F5
  have F5l:=F5.len
  have NB:zr6 H4 H5 (qs.zip ((rs0.drop (n+1)).map (·.2))) ((ds.map rowF).drop (n+1)):=by
   have zl:(qs.zip ((rs0.drop (n+1)).map (·.2))).map (·.1)=qs:=by rw[List.map_fst_zip];rw[zbz7,zcd2];omega
   refine⟨by rw[List.length_zip,zbz7,zcd2,zcd2,zbz7];omega,fun i r xs e1 e2=>?_,fun r hr=>?_,by rw[zl];exact F5.nd⟩
   ·rw[List.getElem?_zip_eq_some] at e1
    obtain⟨g1,g2⟩:=e1
    rw[zca1] at g2
    obtain⟨r0,er0,er2⟩:=zca6.mp g2
    have o:=(F5.row i r.1 g1).2
    rw[show (rs0.drop (n+1)).getD i (0,[])=r0 by rw[zca2,er0];rfl,er2] at o
    rw[zcg1] at er0
    rw[← List.map_drop,zca1,zcg1] at e2
    obtain⟨dd,ed,rfl⟩:=zca6.mp e2
    have R0:=(rr0 _ r0 dd er0 ed).same (s14.trans F5.same)
    exact⟨o,by rw[← er2];exact R0.len,by rw[← er2];exact R0.row⟩
   ·have hr1:r.1∈qs:=by rw[← zl];exact zcb4.mpr ⟨r,hr,rfl⟩
    obtain⟨i,ei⟩:=zcc5 hr1
    exact (F5.row i r.1 ei).1
  have s35:=s4.trans F5.same
  have s15:=s13.trans s35
  obtain⟨r0,er0⟩:∃ r,rs0[n]?=some r:=⟨_,zbz6 (by walk_at "om")⟩
  obtain⟨dd,ed⟩:∃ dd,ds[n]?=some dd:=⟨_,zbz6 hn⟩
  have R0:=(rr0 _ r0 dd er0 ed).same s15
  refine zd8 (v:=.ref r0.1) (s15 _ _ e1) (zi4 (by rw[zca1,er0];rfl)) ?_
  refine zaa3 R0 (xl n dd ed) (fun r6 bs6 H6 f6 s6 R6=>?_)
  refine zb0 (fun p7 H7 f7 s7 h7=>?_)
  have s37:=(s35.trans s6).trans s7
  refine zl7 (s37 _ _ h3) h7 (by rw[zbz7,sizeLine_eq,rlA,zbz7,zcb8];show _+1<=_;omega) (fun p8 H8 f8 s8 h8=>?_)
  have s58:=(s6.trans s7).trans s8
  refine zl7 h8 (s58 _ _ F5.out) (by rw[zca7,zbz7,zbz7,sizeLine_eq,rlA,zbz7,zcb8,F5l];show _+1+_<=_;omega) (fun p9 H9 f9 s9 h9=>?_)
  walk_at "wh"
  have s38:=s37.trans s8
  have s08:=s02.trans (s3.trans s38)
  have N6:zr6 H5 H8 [(r6,bs6)] [((ds.map rowF).getD n []).map (mvT 1)]:=⟨rfl,fun i r' xs' g1 g2=>by
   match i with
   | 0=>
    cases g1
    have g2:some (((ds.map rowF).getD n []).map (mvT 1))=some xs':=g2
    cases g2
    rw[show (ds.map rowF).getD n []=rowF dd by rw[zca2,zca1,ed];rfl]
    exact R6.same (s7.trans s8)
   | i+1=>simp at g1,fun r' hr'=>by rw[zcd8.mp hr'];exact f6,by simp⟩
  have NAm:zr6 H2 H8 (rsA++[(r6,bs6)]) (((ds.map rowF).take n).map (fun xs=>xs.map (mvT 0))++[((ds.map rowF).getD n []).map (mvT 1)]):=NA.app s38 N6 s35 s3
  have NB8:=NB.same s58
  have all8:zr6 H2 H8 (rsA++[(r6,bs6)]++qs.zip ((rs0.drop (n+1)).map (·.2))) (zz7 n (ds.map rowF)):=by
   refine⟨by unfold zz7;rw[zca7 (as:=rsA++[(r6,bs6)]),NAm.len,NB8.len,← zca7],fun i r xs g1 g2=>?_,fun r hr=>?_,?_⟩
   ·have l:=NAm.len
    unfold zz7 at g2
    by_cases hi:i<(rsA++[(r6,bs6)]).length
    ·rw[zcc4 hi] at g1
     rw[zcc4 (by walk_at "om")] at g2
     exact NAm.row i r xs g1 g2
    ·rw[zcc2 (by walk_at "om")] at g1
     rw[zcc2 (by walk_at "om"),← l] at g2
     exact NB8.row _ r xs g1 g2
   ·rcases zcc3.mp hr with hr|hr
    ·exact NAm.new r hr
    ·exact s3.free (s4.free (NB8.new r hr))
   ·rw[zcc6,zcg2]
    refine⟨NAm.nd,NB8.nd,fun x hx y hy=>?_⟩
    obtain⟨r,hr,rfl⟩:=zcb4.mp hx
    obtain⟨r',hr',rfl⟩:=zcb4.mp hy
    rcases zcc3.mp hr with hr|hr
    ·obtain⟨o,ho⟩:=NA.is r hr
     exact za4 (s4 _ _ ho) (NB.new r' hr')
    ·rw[zcd8.mp hr]
     obtain⟨o,ho⟩:=NB.is r' hr'
     exact Ne.symm (za4 ho f6)
  refine q p9 (rsA++[(r6,bs6)]++qs.zip ((rs0.drop (n+1)).map (·.2))) H9 (s08.free f9) (s08.trans s9) (all8.st s9 f9 ?_) (fun r' hr'=>s02.free (all8.new r' hr'))
  rw[h9,zcc6,zcc6]
  have zl:(qs.zip ((rs0.drop (n+1)).map (·.2))).map (·.1)=qs:=by rw[List.map_fst_zip];rw[zbz7,zcd2];omega
  have e9:(qs.zip ((rs0.drop (n+1)).map (·.2))).map (fun r=>V.ref r.1)=qs.map V.ref:=by
   conv=>rhs;rw[← zl]
   rw[zcc8];rfl
  rw[e9];rfl
theorem zb3.some {H:Hp}{a:Addr}{b:Int}(h:zb3 H a b):∃ o,H a=some o:=by
 obtain⟨x,y,z,e,r⟩:=h
 exact⟨_,e⟩
@[irreducible] def ze9:Sp:=fun vs H Q _=>∃ (a:Addr) (b:Int),vs=[.ref a]/\zb3 H a b/\b<=100000/\∀ v H',Chg a H H'->zb3 H' a (b+10)->Rd (nw H H') v 2->Q v H'
theorem zt3 {H:Hp}{a:Addr}{b:Int}{Q:VK}{E:XK}(L:zb3 H a b) (hb:b<=100000) (q:∀ v H',Chg a H H'->zb3 H' a (b+10)->Rd (nw H H') v 2->Q v H'):ze9 [.ref a] H Q E:=by unfold ze9;exact⟨a,b,rfl,L,hb,q⟩
theorem zs2 {H:Hp}{a:Addr}{xs:List V}(e:H a=some (.lst xs)∨H a=some (.tup xs)) (l:xs.length<60) (h:∀ x∈xs,∃ i:Int,x=.int i):Rd H (.ref a) 1:=by
 have h':∀ x∈xs,Rd H x 0:=fun x hx=>by
  obtain⟨i,rfl⟩:=h x hx
  exact Rd.int i 0
 rcases e with e|e
 ·exact Rd.lst e l h'
 ·exact Rd.tup e l h'
set_option maxHeartbeats 0 in
theorem zac3 {f:Addr}{fd:FuncData}(F:Fun K "_law_odd_one" "_law_odd_one" zi1 f fd) (N:Nm mg) (zbt4:Def P w K mg base CX0 2 "_law_draw" ["_law_left","_law_base"] zd7):FnOk P w K mg base CX0 3 f fd ["_law_left"] ze9:=by
 refine F.ok zo7 (fun vs H Q E h=>by unfold ze9 at h;obtain⟨_,_,rfl,_⟩:=h;rfl) (fun cdv A outer s H vs Q E hr h=>?_)
 unfold ze9 at h
 obtain⟨a,b,rfl,L,hb,q⟩:=h
 have hu:=hu40 hr
 refine⟨_,(pssTo (zj8 (psOf (psS (i:=1) zo7.nd (pD zbt4 hr zb8 (za0 (pq 0) (za0 (zb4 oPow za2 za2) za1)))))
   (zj8 (psIS (i:=2) zo7.nd (zbm0 (zc6 (zv9 zba2) (zc6 (zv9 zn1) (zc6 zk0 (zc6 (zv9 (zr0 (za0 za2 (za0 za2 (za0 za2 za1))))) (zc6 (zv9 (zg9 za1)) (zc6 (zv9 (zg9 (za0 (zg9 za1) za1))) (zc6 zk0 (zc6 (zv9 (zb4 oSub (zaw0 uNeg za2) (pq 1))) (zc6 (zv9 (zg9 (za0 za2 (za0 za2 (za0 za2 za1))))) (zc6 (zv9 (zr0 (za0 za2 za1))) (zc6 (zv9 (zg9 (za0 (zr0 (za0 za2 (za0 za2 (za0 za2 za1)))) za1))) (zc6 zk0 zax3))))))))))))))
   (zar6 (psOf (zb1 (zc5 (K:=K) rfl (pq 2) (pD zbt4 hr zb8 (za0 (pq 0) (za0 za2 za1)))))))))),?_⟩
 walk_at "st"
 refine zf3 L (by walk_at "om") (by walk_at "om") (by walk_at "om") (fun far H1 r0 r1 c1 L1=>?_)
 refine zg3 (fun p2 H2 f2 s2 h2=>?_)
 refine zb0 (fun p3 H3 f3 s3 h3=>?_)
 refine zb0 (fun p4 H4 f4 s4 h4=>?_)
 refine zb0 (fun p5 H5 f5 s5 h5=>?_)
 refine zb0 (fun p6 H6 f6 s6 h6=>?_)
 refine zg3 (fun p7 H7 f7 s7 h7=>?_)
 refine zg3 (fun p8 H8 f8 s8 h8=>?_)
 refine zb0 (fun p9 H9 f9 s9 h9=>?_)
 refine zb0 (fun pc Hc fc sc hc=>?_)
 have t9:=sc
 have t8:=s9.trans t9
 have t7:=s8.trans t8
 have t6:=s7.trans t7
 have t5:=s6.trans t6
 have t4:=s5.trans t5
 have t3:=s4.trans t4
 have t2:=s3.trans t3
 have t1:=s2.trans t2
 refine zf3 (L1.same t1) (by walk_at "om") (by walk_at "om") (by walk_at "om") (fun d Hd d0 d1 cd Ld=>?_)
 have u2:=s2
 have u3:=u2.trans s3
 have u4:=u3.trans s4
 have u5:=u4.trans s5
 have u6:=u5.trans s6
 have u7:=u6.trans s7
 have u8:=u7.trans s8
 have u9:=u8.trans s9
 have up:∀ {x:Addr}{o:HO}{I:Hp},Same H1 I->I x=none->Hc x=some o->nw H Hd x=some o:=fun s f e=>zal0 (Chg.free' c1 (s.free f) ((L1.same s).ne f)) (cd _ _ ((L1.same s).ne f) e)
 have e2:=up (Same.refl _) f2 (t2 _ _ h2)
 have e3:=up u2 f3 (t3 _ _ h3)
 have e4:=up u3 f4 (t4 _ _ h4)
 have e5:=up u4 f5 (t5 _ _ h5)
 have e6:=up u5 f6 (t6 _ _ h6)
 have e7:=up u6 f7 (t7 _ _ h7)
 have e8:=up u7 f8 (t8 _ _ h8)
 have e9:=up u8 f9 (t9 _ _ h9)
 have ec:=up u9 fc hc
 refine zo9 (zab0 H Hd _ _ ec) d0 (by simp only[zcd0,zcf2];omega) ?_
 intro v hv
 walk_at "wh"
 refine q v Hd ((c1.same t1).trans cd) (Ld.up (by walk_at "om")) ?_
 clear up u2 u3 u4 u5 u6 u7 u8 u9 t1 t2 t3 t4 t5 t6 t7 t8 t9
 have flt:∀ {xs:List V},xs=[.int 1,.int 0,.int 1]∨xs=[.int 0]∨xs=[.int 0,.int 0,.int 1]∨xs=[]->xs.length<60/\∀ x∈xs,∃ i:Int,x=.int i:=fun {xs} h=>by
  rcases h with rfl|rfl|rfl|rfl<;>simp
 simp only[zcb3,zcd4,or_false] at hv
 rcases hv with rfl|rfl|rfl|rfl|rfl|rfl|rfl|rfl|rfl|rfl|rfl|rfl
 ·exact Rd.non _
 ·exact Rd.bl _ _
 ·exact Rd.str _ (by decide +kernel)
 ·exact (zs2 (.inr e2) (flt (.inl rfl)).1 (flt (.inl rfl)).2).up
 ·exact (zs2 (.inl e3) (flt (.inr (.inr (.inr rfl)))).1 (flt (.inr (.inr (.inr rfl)))).2).up
 ·exact (Rd.lst (n:=1) e5 (by simp) fun x hx=>by rw[zcd8.mp hx];exact zs2 (.inl e4) (flt (.inr (.inr (.inr rfl)))).1 (flt (.inr (.inr (.inr rfl)))).2).up
 ·exact Rd.str _ (by decide +kernel)
 ·exact Rd.int _ _
 ·exact (zs2 (.inl e6) (flt (.inl rfl)).1 (flt (.inl rfl)).2).up
 ·exact (zs2 (.inr e7) (flt (.inr (.inl rfl))).1 (flt (.inr (.inl rfl))).2).up
 ·exact (Rd.lst (n:=1) e9 (by simp) fun x hx=>by rw[zcd8.mp hx];exact zs2 (.inr e8) (flt (.inr (.inr (.inl rfl)))).1 (flt (.inr (.inr (.inl rfl)))).2).up
 ·exact Rd.str _ (by decide +kernel)
@[irreducible] def ze1:Sp:=fun vs H Q _=>∃ (a st:Addr) (b:Int) (rs:List (Addr×List Addr)) (xss:List (List (Int×Int×Int))),vs=[.ref a,.ref st]/\zb3 H a b/\b<=50000/\StAt (rm a H) st rs xss/\(1<=xss.length/\xss.length<=8)/\(∀ xs∈xss,1<=xs.length/\xs.length<=20)/\∀ v H',Chg a H H'->zb3 H' a (b+100)->Rd (rm a H') v 5->Q v H'
theorem zap3 {H:Hp}{a st:Addr}{b:Int}{rs:List (Addr×List Addr)}{xss:List (List (Int×Int×Int))}{Q:VK}{E:XK}(L:zb3 H a b) (hb:b<=50000) (S:StAt (rm a H) st rs xss) (h1:1<=xss.length) (h2:xss.length<=8) (h3:∀ xs∈xss,1<=xs.length/\xs.length<=20) (q:∀ v H',Chg a H H'->zb3 H' a (b+100)->Rd (rm a H') v 5->Q v H'):ze1 [.ref a,.ref st] H Q E:=by unfold ze1;exact⟨a,st,b,rs,xss,rfl,L,hb,S,⟨h1,h2⟩,h3,q⟩
set_option maxHeartbeats 0 in
theorem zz0 {f:Addr}{fd:FuncData}(F:Fun K "_law_bent_one" "_law_bent_one" zg7 f fd) (N:Nm mg) (zbt4:Def P w K mg base CX0 2 "_law_draw" ["_law_left","_law_base"] zd7) (zbu9:Def P w K mg base CX0 3 "_law_odd_one" ["_law_left"] ze9):FnOk P w K mg base CX0 4 f fd ["_law_left","_law_stream"] ze1:=by
 refine F.ok zc0 (fun vs H Q E h=>by unfold ze1 at h;obtain⟨_,_,_,_,_,rfl,_⟩:=h;rfl) (fun cdv A outer s H vs Q E hr h=>?_)
 unfold ze1 at h
 obtain⟨a,st,b,rs,xss,rfl,L,hb,S,⟨x1,x8⟩,xb,q⟩:=h
 have hu:=hu40 hr
 have sl:=S.len
 have so:=(zh4 S.out).2
 refine⟨_,(za3 (psS (i:=2) zc0.nd (zm9 (N:=["_law_row"]) (ks:=[none]) (zg4 (K:=K) rfl (pq 1)) (fun cl C s3 H3 fp=>(za8 (i:=0) nb_10 rfl (by first|exact Or.inl rfl|exact Or.inr rfl))) (fun cl C s3 H3 fp=>zi7) (fun cl C s3 H3 fp=>(pT (zak5 (K:=K) rfl) N.list_ zl2 (za0 (pq 0) za1))) (.skip .nil)))
   (za3 (psS (i:=3) zc0.nd (pD zbt4 hr zb8 (za0 (pq 0) (za0 (pB (zq5 (K:=K) rfl) N.len_ zl1 (za0 (pq 2) za1)) za1))))
   (za3 (psS (i:=4) zc0.nd (pD zbt4 hr zb8 (za0 (pq 0) (za0 (pB (zq5 (K:=K) rfl) N.len_ zl1 (za0 (zc5 (K:=K) rfl (pq 2) (pq 3)) za1)) za1))))
   (za3 (zx8 (zc5 (K:=K) rfl (zc5 (K:=K) rfl (pq 2) (pq 3)) (pq 4)) (zp9 (K:=K) (n:=3) rfl rfl (zc1 (za8 (i:=5) zc0.nd rfl (by first|exact Or.inl rfl|exact Or.inr rfl)) (zc1 (za8 (i:=6) zc0.nd rfl (by first|exact Or.inl rfl|exact Or.inr rfl)) (zc1 (za8 (i:=7) zc0.nd rfl (by first|exact Or.inl rfl|exact Or.inr rfl)) zp7)))))
   (za3 (psS (i:=8) zc0.nd (pD zbt4 hr zb8 (za0 (pq 0) (za0 za2 za1))))
   (za3 (psIf (ptC (zs1 (K:=K) rfl (by exact hu)) (pq 8) za2) (za6 (zb1 (zb4 oAdd (zh3 (slXK (K:=K) rfl) (pq 2) zj9 (zo3 (pq 3))) (zh3 (slXK (K:=K) rfl) (pq 2) (zo3 (zb4 oAdd (pq 3) za2)) zj9)))) zb5)
   (za3 (zao8 (psIf (ptC (zs1 (K:=K) rfl (by exact hu)) (pq 8) za2) (za6 (zl3 (zba0 (K:=K) rfl (zc5 (K:=K) rfl (pq 2) (pq 3)) (za0 (pq 4) za1)))) zb5))
   (za3 (zao8 (psIf (ptC (zs1 (K:=K) rfl (by exact hu)) (pq 8) za2) (za6 (zl3 (zm5 (zc5 (K:=K) rfl (pq 2) (pq 3)) (za0 (zc5 (K:=K) rfl (zc5 (K:=K) rfl (pq 2) (pq 3)) (pq 4)) za1)))) zb5))
   (za3 (zao8 (psIf (ptC (zs1 (K:=K) rfl (by exact hu)) (pq 8) za2) (za6 (zx8 (pT (cTupK (K:=K) rfl) N.tuple_ zt4 (za0 (zc5 (K:=K) rfl (pq 2) (pq 3)) za1)) (zac1 (pq 2) (pq 3) setM))) zb5))
   (za3 (zao8 (psIf (ptC (zs1 (K:=K) rfl (by exact hu)) (pq 8) za2) (za6 (zx8 (pD zbu9 hr zb8 (za0 (pq 0) za1)) (zac1 (zc5 (K:=K) rfl (pq 2) (pq 3)) (pq 4) setM))) zb5))
   (za3 (zao8 (psIf (ptC (zs1 (K:=K) rfl (by exact hu)) (pq 8) za2) (za6 (zx8 (pD zbu9 hr zb8 (za0 (pq 0) za1)) (zac1 (pq 2) (pq 3) setM))) zb5))
   (za3 (psIf (ptC (zs1 (K:=K) rfl (by exact hu)) (pq 8) za2) (za6 (zb1 (pD zbu9 hr zb8 (za0 (pq 0) za1)))) zb5)
   (za3 (psIf (ptC (zs1 (K:=K) rfl (by exact hu)) (pq 8) za2) (za6 (zb1 (zb4 oAdd (pq 2) (zm9 (N:=["_law_k","_law_found"]) (ks:=[none,some 2]) (zal8 N.range_ (za0 (zb4 oSub za2 (pB (zq5 (K:=K) rfl) N.len_ zl1 (za0 (pq 2) za1))) za1)) (fun cl C s3 H3 fp=>(za8 (i:=0) nb_11 rfl (by first|exact Or.inl rfl|exact Or.inr rfl))) (fun cl C s3 H3 fp=>zi7) (fun cl C s3 H3 fp=>(zg9 (za0 (zr0 (za0 za2 (za0 za2 (za0 (pB (cSumK (K:=K) rfl rfl) N.sum_ zbm8 (za0 (zm9 (N:=["_law_one"]) (ks:=[none]) (zg4 (K:=K) rfl (zc5 (K:=K) rfl (pq 1) za2)) (fun cl C s3 H3 fp=>(za8 (i:=0) nb_12 rfl (by first|exact Or.inl rfl|exact Or.inr rfl))) (fun cl C s3 H3 fp=>zi7) (fun cl C s3 H3 fp=>(zc5 (K:=K) rfl (pq 0) za2)) (.skip .nil)) za1)) za1)))) za1))) (.skip (.take rfl rfl (by first|exact Or.inl rfl|exact Or.inr rfl) .nil)))))) zb5)
   (za3 (zao8 (psIf (ptC oGt (pq 8) za2) (za3 (psS (i:=9) zc0.nd (zc5 (K:=K) rfl (zg9 (za0 (pD zbu9 hr zb8 (za0 (pq 0) za1)) (za0 za2 (za0 (zaw0 uNeg za2) (za0 (zb4 oAdd (pq 7) za2) (za0 (zb4 oAdd (pq 5) za2) za1)))))) (pD zbt4 hr zb8 (za0 (pq 0) (za0 za2 za1)))))
   (za3 (psS (i:=10) zc0.nd (zg9 (za0 (pq 5) (za0 (pq 6) (za0 (pq 7) (za0 za2 za1))))))
   (za3 (zx8 (pq 9) (zac1 (pq 10) (zc5 (K:=K) rfl (zg9 (za0 za2 (za0 za2 (za0 za2 (za0 za2 za1))))) (zb4 oSub (pq 8) za2)) setM))
   (za6 (zx8 (pT (cTupK (K:=K) rfl) N.tuple_ zt4 (za0 (zh3 (slXK (K:=K) rfl) (pq 10) zj9 (zo3 za2)) za1)) (zac1 (zc5 (K:=K) rfl (pq 2) (pq 3)) (pq 4) setM)))))) zb5))
   (za6 (zb1 (pq 2))))))))))))))))),?_⟩
 refine zc3 so ?_
 refine zab6 (Wk.list (SqL.of so)) (by rw[zbz7,sizeLine_eq];omega) (fun i=>.lst ((rs.getD i (0,[])).2.map V.ref)) (fun j σ=>∃ t:Option V,σ=[t]) ⟨none,rfl⟩ ?_ ?_
 ·rintro i x σ I R S' hi s5 hx ⟨_,rfl⟩ kk
  rw[zca1] at hx
  obtain⟨r0,er0,rfl⟩:=zca6.mp hx
  rw[show rs.getD i (0,[])=r0 by rw[zca2,er0];rfl] at kk
  obtain⟨xs,ex⟩:∃ xs,xss[i]?=some xs:=⟨_,zbz6 (by have:=(zbz9.mp er0).1;omega)⟩
  have R0:=(zh4 (zh4 (S.row i r0 xs er0 ex).out).2).2
  refine br_T ?_
  refine zw0 (SqL.of (s5 _ _ R0)) (fun q6 I6 f6 s6 h6=>?_)
  walk_at "wh"
  exact kk _ _ _ f6 s6 h6 ⟨_,rfl⟩
 rintro fd qs H1 F1
 rw[zbz7] at F1
 have F1l:=F1.len
 have nfa:fd≠a:=L.ne F1.facc
 have L1:=L.same F1.same
 have nqa:∀ q'∈qs,q'≠a/\H q'=none:=fun q' hq=>by
  obtain⟨i,ei⟩:=zcc5 hq
  exact⟨L.ne (F1.row i q' ei).1,(F1.row i q' ei).1⟩
 have trd:∀ (i:Nat) r,rs[i]?=some r->r.2.length<=20/\∀ v∈r.2.map V.ref,Rd (rm a H) v 1:=fun i r er=>by
  obtain⟨xs,ex⟩:∃ xs,xss[i]?=some xs:=⟨_,zbz6 (by have:=(zbz9.mp er).1;omega)⟩
  have R:=S.row i r xs er ex
  have rl:=R.len
  have xl:=(xb xs (zca0 ex)).2
  refine⟨by walk_at "om",fun v hv=>?_⟩
  obtain⟨b',hb',rfl⟩:=zcb4.mp hv
  obtain⟨j,ej⟩:=zcc5 hb'
  obtain⟨x,exx⟩:∃ x,xs[j]?=some x:=⟨_,zbz6 (by have:=(zbz9.mp ej).1;omega)⟩
  have:=(zh4 (R.row j b' x ej exx)).2
  exact zs2 (.inr this) (by simp) (by simp)
 have key:∀ {J:Hp}{vs:List V},J fd=some (.lst vs)->vs.length<60->(∀ v∈vs,Rd (rm a J) v 4)->Rd (rm a J) (.ref fd) 5:=fun h l k=>Rd.lst (zh6 nfa h) l k
 have rowk:∀ {J:Hp}(i:Nat) q',qs[i]?=some q'->Same (rm a H) (rm a J)->J q'=H1 q'->Rd (rm a J) (.ref q') 4:=fun {J} i q' ei u e=>by
  obtain⟨r,er⟩:∃ r,rs[i]?=some r:=⟨_,zbz6 (by have:=(zbz9.mp ei).1;omega)⟩
  obtain⟨t1,t2⟩:=trd i r er
  have o:=(F1.row i q' ei).2
  rw[show rs.getD i (0,[])=r by rw[zca2,er];rfl] at o
  rw[o] at e
  exact (Rd.lst (n:=1) (zh6 (nqa q' (zca0 ei)).1 e) (by rw[zbz7];omega) fun v hv=>(t2 v hv).same u).up
 have U:∀ {J:Hp},Chg a H1 J->Same (rm a H) (rm a J):=fun c b o e=>zh6 (zh4 e).1 (c _ _ (zh4 e).1 (F1.same _ _ (zh4 e).2))
 have rows:∀ {J:Hp},Chg a H1 J->∀ v∈qs.map V.ref,Rd (rm a J) v 4:=fun {J} c v hv=>by
  obtain⟨q',hq',rfl⟩:=zcb4.mp hv
  obtain⟨i,ei⟩:=zcc5 hq'
  have o:=(F1.row i q' ei).2
  exact rowk i q' ei (U c) ((c _ _ (nqa q' hq').1 o).trans o.symm)
 refine zi3 F1.out ?_
 rw[zbz7,F1l,sl]
 refine zf3 L1 (by walk_at "om") (by walk_at "om") (by walk_at "om") (fun at_ H2 a0 a1 c2 L2=>?_)
 obtain⟨ka,rfl⟩:∃ k:Nat,at_=k:=⟨at_.toNat,by walk_at "om"⟩
 obtain⟨qa,eqa⟩:∃ q',qs[ka]?=some q':=⟨_,zbz6 (by walk_at "om")⟩
 obtain⟨ra,era⟩:∃ r,rs[ka]?=some r:=⟨_,zbz6 (by walk_at "om")⟩
 obtain⟨xa,exa⟩:∃ r,xss[ka]?=some r:=⟨_,zbz6 (by walk_at "om")⟩
 have Ra:=S.row ka ra xa era exa
 have ral:=Ra.len
 have xal:=xb xa (zca0 exa)
 have qaa:=(nqa qa (zca0 eqa)).1
 have ha1:H1 qa=some (.lst (ra.2.map V.ref)):=by
  have o:=(F1.row ka qa eqa).2
  rwa [show rs.getD ka (0,[])=ra by rw[zca2,era];rfl] at o
 have atq:atI (qs.map V.ref) (ka:Int)=some (.ref qa):=zi4 (by rw[zca1,eqa];rfl)
 refine zd8 (v:=.ref qa) (c2 _ _ nfa F1.out) atq ?_
 refine zi3 (c2 _ _ qaa ha1) ?_
 rw[zbz7,ral]
 refine zf3 L2 (by walk_at "om") (by walk_at "om") (by walk_at "om") (fun pl_ H3 p0 p1 c3 L3=>?_)
 obtain⟨kp,rfl⟩:∃ k:Nat,pl_=k:=⟨pl_.toNat,by walk_at "om"⟩
 obtain⟨tb,etb⟩:∃ t,ra.2[kp]?=some t:=⟨_,zbz6 (by walk_at "om")⟩
 obtain⟨z,ez⟩:∃ t,xa[kp]?=some t:=⟨_,zbz6 (by walk_at "om")⟩
 have atb:atI (ra.2.map V.ref) (kp:Int)=some (.ref tb):=zi4 (by rw[zca1,etb];rfl)
 have c13:=c2.trans c3
 have htb:rm a H3 tb=some (.tup [.int z.1,.int z.2.1,.int z.2.2]):=U c13 _ _ (zh4 (Ra.row kp tb z etb ez)).2
 refine zd8 (v:=.ref qa) (c13 _ _ nfa F1.out) atq ?_
 refine zd8 (v:=.ref tb) (c13 _ _ qaa ha1) atb ?_
 refine zl0 (zh4 htb).2 ?_
 refine zf3 L3 (by walk_at "om") (by walk_at "om") (by walk_at "om") (fun kd H4 k0 k1 c4 L4=>?_)
 have c14:=c13.trans c4
 have c04:Chg a H H4:=F1.same.toChg.trans c14
 have L4:zb3 H4 a (b+20):=L4.up (by walk_at "om")
 have keep:∀ {J J':Hp}{p:Addr},H p=none->Chg a H J->Chg p J J'->Chg a H J':=fun f c c' b o n e=>c' _ _ (za4 e f) (c _ _ n e)
 have keepU:∀ {J J':Hp}{p:Addr},H p=none->Same (rm a H) (rm a J)->Chg p J J'->Same (rm a H) (rm a J'):=fun f c c' b o e=>zh6 (zh4 e).1 (c' _ _ (za4 (zh4 e).2 f) (zh4 (c _ _ e)).2)
 have nqf:qa≠fd:=fun e=>F1.nin (e▸zca0 eqa)
 have fqa:=(nqa qa (zca0 eqa)).2
 have inRow:∀ {J J':Hp}{ws:List V},Chg a H1 J->Chg qa J J'->J' qa=some (.lst ws)->ws.length<60->(∀ w∈ws,Rd (rm a J') w 3)->Rd (rm a J') (.ref fd) 5:=fun {J J' ws} c c' h l k=>by
  refine key (c' _ _ (Ne.symm nqf) (c _ _ nfa F1.out)) (by rw[zbz7];omega) fun v hv=>?_
  obtain⟨q',hq',rfl⟩:=zcb4.mp hv
  by_cases e:q'=qa
  ·subst e
   exact Rd.lst (zh6 qaa h) l k
  ·obtain⟨i,ei⟩:=zcc5 hq'
   have o:=(F1.row i q' ei).2
   exact rowk i q' ei (keepU fqa (U c) c') ((c' _ _ e (c _ _ (nqa q' hq').1 o)).trans o.symm)
 have inList:∀ {J J':Hp}{w:V},Chg a H1 J->Chg fd J J'->J' fd=some (.lst ((qs.map V.ref).set ka w))->Rd (rm a J') w 4->Rd (rm a J') (.ref fd) 5:=fun {J J' w} c c' h k=>by
  refine key h (by rw[zcg8,zbz7];omega) fun v hv=>?_
  rcases zcg5 hv with hv|rfl
  ·obtain⟨q',hq',rfl⟩:=zcb4.mp hv
   obtain⟨i,ei⟩:=zcc5 hq'
   have o:=(F1.row i q' ei).2
   have nf:q'≠fd:=fun e=>F1.nin (e▸hq')
   exact rowk i q' ei (keepU F1.facc (U c) c') ((c' _ _ nf (c _ _ (nqa q' hq').1 o)).trans o.symm)
  ·exact k
 obtain⟨t20,tRd⟩:=trd ka ra era
 have setI:∀ {n i:Nat},i<n->ixN n (i:Int)=some i:=fun {n i} h=>by rw[ixN_in (by walk_at "om") (by walk_at "om"),zcf3]
 refine zg1 (fun e0=>?_) (fun e0=>?_)
 ·walk_at "wh"
  refine zr2 (SqL.of (c14 _ _ nfa F1.out)) (fun p5 H5 f5 s5 h5=>?_)
  rw[zq4 (by walk_at "om"),zcf3] at h5
  refine zr2 (SqL.of (s5 _ _ (c14 _ _ nfa F1.out))) (fun p6 H6 f6 s6 h6=>?_)
  rw[zt1 (by walk_at "om"),show ((ka:Int)+1).toNat=ka+1 by walk_at "om"] at h6
  refine zl7 (s6 _ _ h5) h6 (by rw[zcb8,zcd2,zbz7,sizeLine_eq];omega) (fun p7 H7 f7 s7 h7=>?_)
  have s47:=(s5.trans s6).trans s7
  walk_at "wh"
  refine q _ H7 (c04.same s47) ((L4.same s47).up (by walk_at "om")) ((Rd.lst (n:=4) (zh6 ((L4.same (s5.trans s6)).ne f7) h7) (by rw[zca7,zcb8,zcd2,zbz7];omega) fun v hv=>?_))
  have hv':v∈qs.map V.ref:=by
   rcases zcc3.mp hv with hv|hv
   ·exact zci1 hv
   ·exact List.mem_of_mem_drop hv
  exact rows (c14.same s47) v hv'
 refine zz8 (fun σ J=>∃ y1 y2:Option V,σ=[some (.ref a),some (.ref st),some (.ref fd),some (.int ka),some (.int kp),some (.int z.1),some (.int z.2.1),some (.int z.2.2),some (.int kd),y1,y2]/\Chg a H J/\((Chg a H1 J/\zb3 J a (b+20))∨(kd<=1/\zb3 J a (b+100)/\Rd (rm a J) (.ref fd) 5))) ?_ ?_
 ·walk_at "wh"
  refine zg1 (fun e1=>?_) (fun e1=>?_)
  ·walk_at "wh"
   refine zd8 (v:=.ref qa) (c14 _ _ nfa F1.out) atq ?_
   refine zo5 (c14 _ _ qaa ha1) ?_
   refine zbj0 (k:=kp) (y:=.ref tb) (c14 _ _ qaa ha1) rfl (by walk_at "om") (by rw[zca1,etb];rfl) (fun J c5 h5=>?_)
   walk_at "wh"
   refine⟨_,_,rfl,keep fqa c04 c5,.inr ⟨by walk_at "om",(L4.chg c5 (Ne.symm qaa)).up (by walk_at "om"),inRow c14 c5 h5 ?_ fun w hw=>?_⟩⟩
   ·have:=List.length_eraseIdx_le (ra.2.map V.ref) kp
    rw[zbz7] at this
    omega
   ·exact ((tRd w (List.mem_of_mem_eraseIdx hw)).same (keepU fqa (U c14) c5)).up
  ·walk_at "wh"
   exact⟨_,_,rfl,c04,.inl ⟨c14,L4⟩⟩
 rintro σ J1 ⟨y1,y2,rfl,cJ1,dJ1⟩
 refine zz8 (fun σ J=>∃ y1 y2:Option V,σ=[some (.ref a),some (.ref st),some (.ref fd),some (.int ka),some (.int kp),some (.int z.1),some (.int z.2.1),some (.int z.2.2),some (.int kd),y1,y2]/\Chg a H J/\((Chg a H1 J/\zb3 J a (b+20))∨(kd<=2/\zb3 J a (b+100)/\Rd (rm a J) (.ref fd) 5))) ?_ ?_
 ·walk_at "wh"
  refine zg1 (fun e1=>?_) (fun e1=>?_)
  ·obtain⟨cb,Lb⟩:=dJ1.resolve_right (fun z=>by walk_at "om")
   refine zd8 (v:=.ref qa) (cb _ _ nfa F1.out) atq ?_
   refine zo5 (cb _ _ qaa ha1) ?_
   refine zd8 (v:=.ref qa) (cb _ _ nfa F1.out) atq ?_
   refine zd8 (v:=.ref tb) (cb _ _ qaa ha1) atb ?_
   refine zab4 (cb _ _ qaa ha1) (by rw[zbz7,sizeLine_eq];omega) (fun J c5 h5=>?_)
   walk_at "wh"
   refine⟨_,_,rfl,keep fqa cJ1 c5,.inr ⟨by walk_at "om",(Lb.chg c5 (Ne.symm qaa)).up (by walk_at "om"),inRow cb c5 h5 ?_ fun w hw=>?_⟩⟩
   ·rw[zca7,zbz7];show _+1<_;omega
   ·have hw':w∈ra.2.map V.ref:=by
     rcases zcc3.mp hw with hw|hw
     ·exact hw
     ·rw[zcd8.mp hw];exact zcb4.mpr ⟨tb,zca0 etb,rfl⟩
    exact ((tRd w hw').same (keepU fqa (U cb) c5)).up
  ·walk_at "wh"
   exact⟨_,_,rfl,cJ1,dJ1.imp id fun z=>⟨by walk_at "om",z.2⟩⟩
 rintro σ J2 ⟨y3,y4,rfl,cJ2,dJ2⟩
 refine zz8 (fun σ J=>∃ y1 y2:Option V,σ=[some (.ref a),some (.ref st),some (.ref fd),some (.int ka),some (.int kp),some (.int z.1),some (.int z.2.1),some (.int z.2.2),some (.int kd),y1,y2]/\Chg a H J/\((Chg a H1 J/\zb3 J a (b+20))∨(kd<=3/\zb3 J a (b+100)/\Rd (rm a J) (.ref fd) 5))) ?_ ?_
 ·walk_at "wh"
  refine zg1 (fun e1=>?_) (fun e1=>?_)
  ·obtain⟨cb,Lb⟩:=dJ2.resolve_right (fun z=>by walk_at "om")
   refine zd8 (v:=.ref qa) (cb _ _ nfa F1.out) atq ?_
   refine zbd1 (SqL.of (cb _ _ qaa ha1)) (fun p5 J5 f5 s5 h5=>?_)
   refine zac8 (s5 _ _ (cb _ _ nfa F1.out)) (setI (by rw[zbz7];omega)) (fun J c6 h6=>?_)
   walk_at "wh"
   have n5:p5≠fd:=Ne.symm (za4 (cb _ _ nfa F1.out) f5)
   have n5a:p5≠a:=Lb.ne f5
   refine⟨_,_,rfl,keep F1.facc (cJ2.same s5) c6,.inr ⟨by walk_at "om",((Lb.same s5).chg c6 (Ne.symm nfa)).up (by walk_at "om"),inList (cb.same s5) c6 h6 ?_⟩⟩
   exact (Rd.tup (n:=1) (zh6 n5a (c6 _ _ n5 h5)) (by rw[zbz7];omega) fun w hw=>(tRd w hw).same (keepU F1.facc (U (cb.same s5)) c6)).up
  ·walk_at "wh"
   exact⟨_,_,rfl,cJ2,dJ2.imp id fun z=>⟨by walk_at "om",z.2⟩⟩
 rintro σ J3 ⟨y5,y6,rfl,cJ3,dJ3⟩
 refine zz8 (fun σ J=>∃ y1 y2:Option V,σ=[some (.ref a),some (.ref st),some (.ref fd),some (.int ka),some (.int kp),some (.int z.1),some (.int z.2.1),some (.int z.2.2),some (.int kd),y1,y2]/\Chg a H J/\((Chg a H1 J/\zb3 J a (b+20))∨(kd<=4/\zb3 J a (b+100)/\Rd (rm a J) (.ref fd) 5))) ?_ ?_
 ·walk_at "wh"
  refine zg1 (fun e1=>?_) (fun e1=>?_)
  ·obtain⟨cb,Lb⟩:=dJ3.resolve_right (fun z=>by walk_at "om")
   refine zt3 Lb (by walk_at "om") (fun vo J5 c5 L5 R5=>?_)
   have cb5:=cb.trans c5
   refine zd8 (v:=.ref qa) (cb5 _ _ nfa F1.out) atq ?_
   refine zac8 (cb5 _ _ qaa ha1) (setI (by rw[zbz7];omega)) (fun J c6 h6=>?_)
   walk_at "wh"
   have ho:Same (nw J3 J5) (rm a J):=fun x o e=>by
    obtain⟨g1,g2⟩:=zu3 e
    have na:x≠a:=fun e'=>by obtain⟨o',ho'⟩:=Lb.some;rw[e',ho'] at g1;cases g1
    have nq:x≠qa:=fun e'=>by rw[e',cb _ _ qaa ha1] at g1;cases g1
    exact zh6 na (c6 _ _ nq g2)
   refine⟨_,_,rfl,keep fqa (cJ3.trans c5) c6,.inr ⟨by walk_at "om",(L5.chg c6 (Ne.symm qaa)).up (by walk_at "om"),inRow cb5 c6 h6 (by rw[zcg8,zbz7];omega) fun w hw=>?_⟩⟩
   rcases zcg5 hw with hw|rfl
   ·exact ((tRd w hw).same (keepU fqa (U cb5) c6)).up
   ·exact (R5.same ho).up
  ·walk_at "wh"
   exact⟨_,_,rfl,cJ3,dJ3.imp id fun z=>⟨by walk_at "om",z.2⟩⟩
 rintro σ J4 ⟨y7,y8,rfl,cJ4,dJ4⟩
 refine zz8 (fun σ J=>∃ y1 y2:Option V,σ=[some (.ref a),some (.ref st),some (.ref fd),some (.int ka),some (.int kp),some (.int z.1),some (.int z.2.1),some (.int z.2.2),some (.int kd),y1,y2]/\Chg a H J/\((Chg a H1 J/\zb3 J a (b+20))∨(kd<=5/\zb3 J a (b+100)/\Rd (rm a J) (.ref fd) 5))) ?_ ?_
 ·walk_at "wh"
  refine zg1 (fun e1=>?_) (fun e1=>?_)
  ·obtain⟨cb,Lb⟩:=dJ4.resolve_right (fun z=>by walk_at "om")
   refine zt3 Lb (by walk_at "om") (fun vo J5 c5 L5 R5=>?_)
   have cb5:=cb.trans c5
   refine zac8 (cb5 _ _ nfa F1.out) (setI (by rw[zbz7];omega)) (fun J c6 h6=>?_)
   walk_at "wh"
   have ho:Same (nw J4 J5) (rm a J):=fun x o e=>by
    obtain⟨g1,g2⟩:=zu3 e
    have na:x≠a:=fun e'=>by obtain⟨o',ho'⟩:=Lb.some;rw[e',ho'] at g1;cases g1
    have nq:x≠fd:=fun e'=>by rw[e',cb _ _ nfa F1.out] at g1;cases g1
    exact zh6 na (c6 _ _ nq g2)
   exact⟨_,_,rfl,keep F1.facc (cJ4.trans c5) c6,.inr ⟨by walk_at "om",(L5.chg c6 (Ne.symm nfa)).up (by walk_at "om"),inList cb5 c6 h6 (R5.same ho).up⟩⟩
  ·walk_at "wh"
   exact⟨_,_,rfl,cJ4,dJ4.imp id fun z=>⟨by walk_at "om",z.2⟩⟩
 rintro σ J5 ⟨y9,y10,rfl,cJ5,dJ5⟩
 refine zg1 (fun e1=>?_) (fun e6=>?_)
 ·obtain⟨cb,Lb⟩:=dJ5.resolve_right (fun z=>by walk_at "om")
  refine zt3 Lb (by walk_at "om") (fun vo J6 c5 L5 R5=>?_)
  walk_at "wh"
  obtain⟨o',ho'⟩:=Lb.some
  exact q vo J6 (cJ5.trans c5) (L5.up (by walk_at "om")) (R5.same (nw_rm ho')).up
 refine zg1 (fun e1=>?_) (fun e7=>?_)
 ·obtain⟨cb,Lb⟩:=dJ5.resolve_right (fun z=>by walk_at "om")
  have hfd:=cb _ _ nfa F1.out
  refine zi3 hfd ?_
  rw[zbz7,F1l,sl]
  refine zq8 (by walk_at "om") (by walk_at "om") (by walk_at "om") (by walk_at "om") ?_
  refine zbl1 (n:=((8:Int) - (xss.length:Int) - 0).toNat) Wk.range (by rw[sizeLine_eq];omega) (fun acc j ys σ I=>∃ t:Option V,σ=[t,some (.ref fd)]/\Chg acc J5 I/\ys.length=j/\∀ v∈ys,Rd (rm acc (rm a I)) v 2) ?_ ?_ ?_ ?_
  ·intro acc I f1 s1 h1
   exact⟨none,rfl,s1.toChg,rfl,fun v hv=>by cases hv⟩
  ·rintro acc j ys σ I I' s' ⟨t,r1,r2,r3,r4⟩
   exact⟨t,r1,r2.same s',r3,fun v hv=>(r4 v hv).same (Same.rm (Same.rm s'))⟩
  ·rintro acc j v ys σ I R S' hj facc sI hacc hx ⟨t,rfl,cI,yl,yr⟩ kR _
   obtain⟨q0,eq0⟩:∃ q',qs[0]?=some q':=⟨_,zbz6 (by walk_at "om")⟩
   obtain⟨r0,er0⟩:∃ q',rs[0]?=some q':=⟨_,zbz6 (by walk_at "om")⟩
   obtain⟨x0,ex0⟩:∃ q',xss[0]?=some q':=⟨_,zbz6 (by walk_at "om")⟩
   have R0:=S.row 0 r0 x0 er0 ex0
   have R0l:=R0.len
   have x0l:=xb x0 (zca0 ex0)
   have hq0:I q0=some (.lst (r0.2.map V.ref)):=by
    have o:=(F1.row 0 q0 eq0).2
    rw[show rs.getD 0 (0,[])=r0 by rw[zca2,er0];rfl] at o
    exact sI _ _ (cb _ _ (nqa q0 (zca0 eq0)).1 o)
   refine br_T ?_
   refine zd8 (v:=.ref q0) (sI _ _ hfd) (zi4 (j:=0) (by rw[zca1,eq0];rfl)) ?_
   refine zc3 hq0 ?_
   refine zs7 (Wk.list (SqL.of hq0)) (by rw[zbz7,sizeLine_eq];omega) (fun i=>.int (x0.getD i (0,0,0)).2.2) (fun _=>true) (fun j σ=>∃ t:Option V,σ=[t]) ⟨none,rfl⟩ ?_ ?_
   ·rintro i x σ' I1 R' S'' hi s2 hx ⟨_,rfl⟩ kk _
    rw[zca1] at hx
    obtain⟨t',et',rfl⟩:=zca6.mp hx
    obtain⟨w,ew⟩:∃ w,x0[i]?=some w:=⟨_,zbz6 (by have:=(zbz9.mp et').1;omega)⟩
    rw[show x0.getD i (0,0,0)=w by rw[zca2,ew];rfl] at kk
    have ht':=s2 _ _ (sI _ _ (zh4 (U cb _ _ (zh4 (R0.row i t' w et' ew)).2)).2)
    refine br_T ?_
    refine zl4 (v:=.int w.2.2) ht' rfl ?_
    walk_at "wh"
    exact kk rfl _ _ (Same.refl _) ⟨_,rfl⟩
   intro ac2 I2 f2 s2 h2
   rw[zp1] at h2
   have h2:I2 ac2=some (.lst (((List.range (r0.2.map V.ref).length).map fun i=>(x0.getD i (0,0,0)).2.2).map V.int)):=by rw[h2,zcc8];rfl
   refine zbl9 h2 ?_
   refine zg3 (fun p3 I3 f3 s3 h3=>?_)
   refine zb0 (fun p4 I4 f4 s4 h4=>?_)
   have s14:=(s2.trans s3).trans s4
   walk_at "wh"
   refine kR _ _ _ s14 (fun I5 c5=>⟨_,rfl,?_,by rw[zca7,yl];rfl,fun v hv=>?_⟩)
   ·exact fun x o n e=>c5 _ _ n (s14 _ _ (cI _ _ n e))
   ·have na3:p3≠a:=((Lb.same sI).same s2).ne f3
    have na4:p4≠a:=((Lb.same sI).same (s2.trans s3)).ne f4
    have nc3:p3≠acc:=Ne.symm (za4 (s2 _ _ hacc) f3)
    have nc4:p4≠acc:=Ne.symm (za4 ((s2.trans s3) _ _ hacc) f4)
    have up:Same (rm acc (rm a I)) (rm acc (rm a I5)):=fun x o e=>by
     obtain⟨g1,g2⟩:=zh4 e
     obtain⟨g3,g4⟩:=zh4 g2
     exact zh6 g1 (zh6 g3 (c5 _ _ g1 (s14 _ _ g4)))
    rcases zcc3.mp hv with hv|hv
    ·exact (yr v hv).same up
    ·rw[zcd8.mp hv]
     refine Rd.lst (n:=1) (zh6 nc4 (zh6 na4 (c5 _ _ nc4 h4))) (by simp) fun w hw=>?_
     rw[zcd8.mp hw]
     exact zs2 (.inr (zh6 nc3 (zh6 na3 (c5 _ _ nc3 (s4 _ _ h3))))) (by simp) (by simp)
  rintro acc ys σ I facc sI hacc ⟨t,rfl,cI,yl,yr⟩
  refine zl7 (sI _ _ hfd) hacc (by rw[zbz7,sizeLine_eq,yl];omega) (fun p8 I8 f8 s8 h8=>?_)
  have s58:=sI.trans s8
  walk_at "wh"
  refine q _ I8 (cJ5.same s58) ((Lb.same s58).up (by walk_at "om")) (Rd.lst (n:=4) (zh6 ((Lb.same sI).ne f8) h8) (by rw[zca7,zbz7,yl];omega) fun v hv=>?_)
  rcases zcc3.mp hv with hv|hv
  ·exact rows (cb.same s58) v hv
  ·exact (((yr v hv).same (zp5 _ _)).same (Same.rm s8)).up
 refine zz8 (fun σ J=>∃ y1 y2:Option V,σ=[some (.ref a),some (.ref st),some (.ref fd),some (.int ka),some (.int kp),some (.int z.1),some (.int z.2.1),some (.int z.2.2),some (.int kd),y1,y2]/\Chg a H J/\zb3 J a (b+100)/\Rd (rm a J) (.ref fd) 5) ?_ ?_
 ·walk_at "wh"
  refine zg1 (fun e1=>?_) (fun e1=>?_)
  ·obtain⟨cb,Lb⟩:=dJ5.resolve_right (fun z=>by walk_at "om")
   refine zt3 Lb (by walk_at "om") (fun vo J6 c6 L6 R6=>?_)
   refine zb0 (fun p7 J7 f7 s7 h7=>?_)
   refine zf3 (L6.same s7) (by walk_at "om") (by walk_at "om") (by walk_at "om") (fun d8 J8 d80 d81 c8 L8=>?_)
   have h78:=c8 _ _ (L6.ne f7) h7
   have c58:Chg a J5 J8:=(c6.same s7).trans c8
   have cb8:=cb.trans c58
   obtain⟨o',ho'⟩:=Lb.some
   have na5:∀ {x:Addr},J5 x=none->x≠a:=fun {x} e e'=>by rw[e',ho'] at e;cases e
   have nq5:∀ {x:Addr},J5 x=none->x≠qa:=fun {x} e e'=>by rw[e',cb _ _ qaa ha1] at e;cases e
   have R8:Rd (nw J5 J8) vo 2:=R6.same (fun x o e=>by
    obtain⟨g1,g2⟩:=zu3 e
    exact zal0 g1 (c8 _ _ (na5 g1) (s7 _ _ g2)))
   refine zo9 h78 (by walk_at "om") (by simp only[zcd0,zcf2];omega) ?_
   intro v hv
   have Rv:Rd (nw J5 J8) v 2:=by
    simp only[zcb3,zcd4,or_false] at hv
    rcases hv with rfl|rfl|rfl|rfl|rfl
    ·exact R8
    ·exact Rd.int _ _
    ·exact Rd.int _ _
    ·exact Rd.int _ _
    ·exact Rd.int _ _
   clear hv h78 h7
   refine zb0 (fun p9 J9 f9 s9 h9=>?_)
   refine zb0 (fun p10 J10 f10 s10 h10=>?_)
   refine zo9 h10 (by walk_at "om") (by simp only[zcd0,zcf2];omega) ?_
   intro v' hv'
   obtain⟨ki,rfl,ki4⟩:∃ ki:Nat,v'=.int ki/\ki<3:=by
    simp only[zcb3,zcd4,or_false] at hv'
    rcases hv' with rfl|rfl|rfl|rfl
    ·exact⟨2,rfl,by decide⟩
    ·exact⟨0,rfl,by decide⟩
    ·exact⟨1,rfl,by decide⟩
    ·exact⟨2,rfl,by decide⟩
   have L9:=L8.same s9
   have n9a:p9≠a:=L8.ne f9
   refine zac8 (s10 _ _ h9) (setI (by show ki<4;omega)) (fun J11 c11 h11=>?_)
   have L11:zb3 J11 a _:=(L9.same s10).chg c11 (Ne.symm n9a)
   have f9H:H p9=none:=(Chg.free' (cJ5.trans c58) f9 n9a)
   have n9fd:p9≠fd:=Ne.symm (za4 (cb8 _ _ nfa F1.out) f9)
   have n9qa:p9≠qa:=Ne.symm (za4 (cb8 _ _ qaa ha1) f9)
   have cb11:∀ x o,x≠a->H1 x=some o->J11 x=some o:=fun x o n e=>c11 _ _ (za4 (cb8 _ _ n e) f9) ((s9.trans s10) _ _ (cb8 _ _ n e))
   refine zr2 (SqL.of h11) (fun p12 J12 f12 s12 h12=>?_)
   rw[zq4 (by decide),show (3:Int).toNat=3 from rfl] at h12
   refine zbd1 (SqL.of h12) (fun p13 J13 f13 s13 h13=>?_)
   have s1113:=s12.trans s13
   have c13':Chg a H1 J13:=fun x o n e=>s1113 _ _ (cb11 x o n e)
   refine zd8 (v:=.ref qa) (c13' _ _ nfa F1.out) atq ?_
   refine zac8 (c13' _ _ qaa ha1) (setI (by rw[zbz7];omega)) (fun J c14' h14=>?_)
   walk_at "wh"
   have n13a:p13≠a:=(L11.same s12).ne f13
   have n13q:p13≠qa:=Ne.symm (za4 (s12 _ _ (cb11 _ _ qaa ha1)) f13)
   have cH13:Chg a H J13:=fun x o n e=>c13' x o n (F1.same _ _ e)
   refine⟨_,_,rfl,keep fqa cH13 c14',((L11.same s1113).chg c14' (Ne.symm qaa)).up (by walk_at "om"),inRow c13' c14' h14 (by rw[zcg8,zbz7];omega) fun w hw=>?_⟩
   rcases zcg5 hw with hw|rfl
   ·exact ((tRd w hw).same (keepU fqa (U c13') c14')).up
   ·have Rv14:Rd (rm a J) v 2:=Rv.same (fun x o e=>by
     obtain⟨g1,g2⟩:=zu3 e
     exact zh6 (na5 g1) (c14' _ _ (nq5 g1) (s1113 _ _ (c11 _ _ (za4 g2 f9) ((s9.trans s10) _ _ g2)))))
    refine Rd.tup (n:=2) (zh6 n13a (c14' _ _ n13q h13)) (by rw[zcb8];omega) fun w hw=>?_
    rcases zcg5 (zci1 hw) with hw|rfl
    ·simp only[zcb3,zcd4,or_false] at hw
     rcases hw with rfl|rfl|rfl|rfl<;>exact Rd.int _ _
    ·exact Rv14
  ·walk_at "wh"
   refine⟨_,_,rfl,cJ5,?_,?_⟩
   ·rcases dJ5 with ⟨_,Lb⟩|⟨_,Lb,_⟩
    ·exact Lb.up (by walk_at "om")
    ·exact Lb
   ·rcases dJ5 with ⟨cb,_⟩|⟨_,_,R⟩
    ·exact key (cb _ _ nfa F1.out) (by rw[zbz7];omega) (rows cb)
    ·exact R
 rintro σ J6 ⟨y11,y12,rfl,cJ6,LJ6,RJ6⟩
 walk_at "wh"
 exact q _ J6 cJ6 LJ6 RJ6
@[irreducible] def ze0:Sp:=fun vs H Q _=>∃ (v:V) (d:PyData),vs=[v]/\ShV H v d/\Q (.bl (isW d)) H
theorem zbq4 {H:Hp}{v:V}{d:PyData}{Q:VK}{E:XK}(h:ShV H v d) (q:Q (.bl (isW d)) H):ze0 [v] H Q E:=by unfold ze0;exact⟨v,d,rfl,h,q⟩
theorem zy6 {f:Addr}{fd:FuncData}(F:Fun K "_law_is_whole" "_law_is_whole" zg6 f fd) (N:Nm mg):FnOk P w K mg base CX0 1 f fd ["_law_one"] ze0:=by
 refine F.ok zy5 (fun vs H Q E h=>by unfold ze0 at h;obtain⟨_,_,rfl,_⟩:=h;rfl) (fun cdv A outer s H vs Q E hr h=>?_)
 unfold ze0 at h
 obtain⟨v,d,rfl,h,q⟩:=h
 refine⟨_,(za6 (zb1 (zy1 (pB (zy9 (K:=K) rfl) N.isinstance_ za7 (za0 (pq 0) (za0 (pTy N.int_ zal2) za1))) (zy0 (peNot (pB (zy9 (K:=K) rfl) N.isinstance_ za7 (za0 (pq 0) (za0 (pTy N.bool_ zbf6) za1)))))))),?_⟩
 refine zp2 h (.inl rfl) ?_
 cases h
 case int i=>
  refine br_T ?_
  refine zag1 ?_
  walk_at "wh"
  exact q
 case bl b=>
  refine br_T ?_
  refine zah2 ?_
  walk_at "wh"
  exact q
 all_goals (walk_at "wh";refine br_F ?_;walk_at "wh";exact q)
theorem eqNil {K:zbz8}{H:Hp}{a b:Addr}{xs:List V}(ha:H a=some (.lst xs)) (hb:H b=some (.lst [])):EqR K H 1 (.ref a) (.ref b) xs.isEmpty:=by
 cases xs with
 | nil=>exact EqR.lst (n:=0) (fun _=>true) (SqL.of ha) (SqL.of hb) rfl fun j x y hx=>by simp at hx
 | cons x xs=>exact EqR.lstN (n:=0) (SqL.of ha) (SqL.of hb) (by simp)
theorem zw7 {n:Nat}{p:Nat->Bool}{f:Nat->V}:(((List.range n).filter p).map f).isEmpty=(List.range n).all fun i=>!p i:=by
 rw[List.isEmpty_map,zcg7,List.isEmpty_iff,List.filter_eq_nil_iff,zcc0]
 exact⟨fun h i hi=>by have:=h i hi;cases e:p i<;>simp_all,fun h i hi e=>by have:=h i hi;rw[e] at this;cases this⟩
def zv5 (d:PyData):Bool:=rowD d&&decide (0<(za9 d).length)
theorem zbs2 {ds:List PyData}{d:PyData}(hd:d∈ds) (h:zm0 d=false):zv5 (.list ds)=false:=by
 have:ds.all zm0=false:=by
  cases e:ds.all zm0
  ·rfl
  ·rw[zcc0.mp e d hd] at h;cases h
 show (ds.all zm0&&incD ds&&_)=false
 rw[this];rfl
@[irreducible] def zf8:Sp:=fun vs H Q _=>∃ (v:V) (d:PyData),vs=[v]/\ShV H v d/\sml d=true/\∀ H',Same H H'->Q (.bl (zv5 d)) H'
theorem zbq6 {H:Hp}{v:V}{d:PyData}{Q:VK}{E:XK}(h:ShV H v d) (hs:sml d=true) (q:∀ H',Same H H'->Q (.bl (zv5 d)) H'):zf8 [v] H Q E:=by unfold zf8;exact⟨v,d,rfl,h,hs,q⟩
set_option maxHeartbeats 0 in
theorem zad9 {f:Addr}{fd:FuncData}(F:Fun K "_law_is_row" "_law_is_row" zi9 f fd) (N:Nm mg) (zbv9:Def P w K mg base CX0 1 "_law_is_whole" ["_law_one"] ze0):FnOk P w K mg base CX0 2 f fd ["_law_row"] zf8:=by
 refine F.ok zu0 (fun vs H Q E h=>by unfold zf8 at h;obtain⟨_,_,rfl,_⟩:=h;rfl) (fun cdv A outer s H vs Q E hr h=>?_)
 unfold zf8 at h
 obtain⟨v,d,rfl,h,hs,q⟩:=h
 have hu:=hu40 hr
 refine⟨_,(za3 (psIf (ptW (pwOr (zl8 (ptV (pB (zy9 (K:=K) rfl) N.isinstance_ za7 (za0 (pq 0) (za0 (pTy N.list_ zl2) za1))))) (zr5 (ptC (zs1 (K:=K) rfl (by exact hu)) (pq 0) (zg9 za1))))) (za6 (zb1 zn1)) zb5)
   (za3 (zt7 PassesOwn.never rfl (zg4 (K:=K) rfl (pq 0)) (za8 (i:=1) zu0.nd rfl (by first|exact Or.inl rfl|exact Or.inr rfl)) (za3 (psIf (ptW (pwOr (zl8 (ptV (pB (zy9 (K:=K) rfl) N.isinstance_ za7 (za0 (pq 1) (za0 (pTy N.tuple_ zt4) za1))))) (pwOr (ptC (zw4 (K:=K) rfl (by exact hu)) (pB (zq5 (K:=K) rfl) N.len_ zl1 (za0 (pq 1) za1)) za2) (zr5 (ptC (oInK (K:=K) rfl) zn1 (zm9 (N:=["_law_one"]) (ks:=[none]) (zg4 (K:=K) rfl (pq 1)) (fun cl C s3 H3 fp=>(za8 (i:=0) nb_13 rfl (by first|exact Or.inl rfl|exact Or.inr rfl))) (fun cl C s3 H3 fp=>zi7) (fun cl C s3 H3 fp=>(pD zbv9 hr zb8 (za0 (pq 0) za1))) (.skip .nil))))))) (za6 (zb1 zn1)) zb5)
   (za6 (psIf (ptW (pwOr (ptC (oLtX (by exact hu)) (zc5 (K:=K) rfl (pq 1) za2) za2) (pwOr (ptC oGt (zc5 (K:=K) rfl (pq 1) za2) (zc5 (K:=K) rfl (pq 1) za2)) (zr5 (ptC (oLtX (by exact hu)) (zc5 (K:=K) rfl (pq 1) za2) za2))))) (za6 (zb1 zn1)) zb5))))
   (za6 (zb1 (peC (zs1 (K:=K) rfl (by exact hu)) (zm9 (N:=["_law_k","_law_row"]) (ks:=[none,some 0]) (zbk9 N.range_ (za0 za2 (za0 (pB (zq5 (K:=K) rfl) N.len_ zl1 (za0 (pq 0) za1)) za1))) (fun cl C s3 H3 fp=>(za8 (i:=0) nb_14 rfl (by first|exact Or.inl rfl|exact Or.inr rfl))) (fun cl C s3 H3 fp=>(zao1 (ptC (oGeX (by exact hu)) (zh3 (slXK (K:=K) rfl) (zc5 (K:=K) rfl (pq 1) (zb4 oSub (pq 0) za2)) zj9 (zo3 za2)) (zh3 (slXK (K:=K) rfl) (zc5 (K:=K) rfl (pq 1) (pq 0)) zj9 (zo3 za2))))) (fun cl C s3 H3 fp=>(pq 0)) (.skip (.take rfl rfl (by first|exact Or.inl rfl|exact Or.inr rfl) .nil))) (zg9 za1)))))),?_⟩
 refine zp2 h (.inr (.inr (.inl rfl))) ?_
 cases h
 case lst a xs ds e l=>
  have ll:=l.len
  obtain⟨dl,dm⟩:=zo6 hs
  refine zc4 (br_T ?_)
  refine zb0 (fun p1 H1 f1 s1 h1=>?_)
  refine zar8 (eqNil (s1 _ _ e) h1) ?_
  cases em:xs.isEmpty
  rotate_left
  ·walk_at "wh"
   refine br_T ?_
   walk_at "wh"
   have z:ds.length=0:=by have:xs=[]:=List.isEmpty_iff.mp em;rw[← ll,this];rfl
   have q:=q _ s1
   rw[show zv5 (.list ds)=false by unfold zv5;rw[show decide (0<(za9 (.list ds)).length)=false from decide_eq_false (by show ¬ 0<ds.length;omega),zch4]] at q
   exact q
  have d0:0<ds.length:=by
   cases xs with
   | nil=>cases em
   | cons x xs=>rw[← ll,zcd0];omega
  have e1:=s1 _ _ e
  refine br_F ?_
  refine zc3 e1 ?_
  refine zh5 (xs:=xs) (fun j σ I=>∃ t:Option V,σ=[some (.ref a),t]/\Same H1 I/\∀ d∈ds.take j,zm0 d=true) ?_ ?_ ?_ ?_
  ·exact⟨_,rfl,Same.refl _,fun d hd=>by simp at hd⟩
  ·rintro j σ I _ ⟨_,_,sI,_⟩
   exact SqL.of (sI _ _ e1)
  ·rintro j x σ I hj ⟨t,rfl,sI,ok⟩
   obtain⟨dj,ed,hd0⟩:=l.get j x hj
   have hd:=hd0.same (s1.trans sI)
   have hm:=zca0 ed
   have bad:zm0 dj=false->∀ I',Same I I'->Q (.bl false) I':=fun z I' s'=>by
    have q:=q I' ((s1.trans sI).trans s')
    rw[zbs2 hm z] at q
    exact q
   have good:zm0 dj=true->∀ d∈ds.take (j+1),zm0 d=true:=fun z d hd=>by
    rw[zci4,ed] at hd
    rcases zcc3.mp hd with hd|hd
    ·exact ok d hd
    ·have:d=dj:=by simpa using hd
     rw[this];exact z
   refine zp2 hd (.inr (.inr (.inr rfl))) ?_
   cases hd
   case tup t' ys es et lt=>
    have ltl:=lt.len
    refine zc4 (br_T ?_)
    refine zaq0 et ?_
    refine zc4 (zg1 (fun h3=>?_) (fun h3=>?_))
    rotate_left
    ·walk_at "wh"
     refine br_T ?_
     walk_at "wh"
     exact bad (zz2 (by walk_at "om")) _ (Same.refl _)
    obtain⟨y1,y2,y3,a1,a2,a3,rfl,rfl,ha1,ha2,ha3⟩:=zab3 lt (by walk_at "om")
    refine zat6 et ?_
    refine zs7 (Wk.tup et) (by rw[sizeLine_eq];simp only[zcd0,zcf2];decide) (fun i=>.bl (isW ([a1,a2,a3].getD i .none))) (fun _=>true) (fun j σ=>∃ t:Option V,σ=[t]) ⟨none,rfl⟩ ?_ ?_
    ·rintro i y σ I1 R S hi s2 hy ⟨_,rfl⟩ kk _
     have hyd:ShV I1 y ([a1,a2,a3].getD i .none):=by
      match i with
      | 0=>cases hy;exact ha1.same s2
      | 1=>cases hy;exact ha2.same s2
      | 2=>cases hy;exact ha3.same s2
      | i+3=>simp at hy
     refine br_T ?_
     refine zbq4 hyd ?_
     walk_at "wh"
     exact kk rfl _ _ (Same.refl _) ⟨_,rfl⟩
    intro ac2 I2 f2 s2 h2
    rw[zp1] at h2
    have h2:I2 ac2=some (.lst ([isW a1,isW a2,isW a3].map V.bl)):=h2
    refine inL_rd (SqL.of h2) rfl rfl ?_
    rw[zbf7]
    have et2:=s2 _ _ et
    cases ew:[isW a1,isW a2,isW a3].all id
    ·walk_at "wh"
     refine br_T ?_
     walk_at "wh"
     refine bad ?_ _ s2
     show (zq9 0 a1&&zy8 0 (intD a1) a2&&zq9 1 a3)=false
     cases e1:isW a1
     ·have:zq9 0 a1=false:=by cases a1<;>first|rfl|(cases e1)
      rw[this];rfl
     cases e2:isW a2
     ·have:zy8 0 (intD a1) a2=false:=by cases a2<;>first|rfl|(cases e2)
      rw[this,zch4];rfl
     cases e3:isW a3
     ·have:zq9 1 a3=false:=by cases a3<;>first|rfl|(cases e3)
      rw[this,zch4]
     rw[e1,e2,e3] at ew;cases ew
    simp only[List.all_cons,List.all_nil,id,Bool.and_true,zcb1] at ew
    obtain⟨w1,w2,w3⟩:=ew
    obtain⟨i1,rfl⟩:∃ i,a1=.int i:=by cases a1<;>first|exact⟨_,rfl⟩|(cases w1)
    obtain⟨i2,rfl⟩:∃ i,a2=.int i:=by cases a2<;>first|exact⟨_,rfl⟩|(cases w2)
    obtain⟨i3,rfl⟩:∃ i,a3=.int i:=by cases a3<;>first|exact⟨_,rfl⟩|(cases w3)
    cases ha1
    cases ha2
    cases ha3
    have fl:zm0 (.tuple [.int i1,.int i2,.int i3])=decide (0<=i2/\i2<=i1/\1<=i3):=by
     show (decide (0<=i1)&&decide (0<=i2/\i2<=i1)&&decide (1<=i3))=_
     rw[zcg7]
     simp only[zcb1,decide_eq_true_eq]
     omega
    refine br_F ?_
    refine zl4 (v:=.int i2) et2 rfl ?_
    refine zg1 (fun g1=>?_) (fun g1=>?_)
    ·walk_at "wh"
     refine br_T ?_
     walk_at "wh"
     refine bad (by rw[fl];exact decide_eq_false (by walk_at "om")) _ s2
    refine zl4 (v:=.int i2) et2 rfl ?_
    refine zl4 (v:=.int i1) et2 rfl ?_
    refine zg1 (fun g2=>?_) (fun g2=>?_)
    ·walk_at "wh"
     refine br_T ?_
     walk_at "wh"
     refine bad (by rw[fl];exact decide_eq_false (by walk_at "om")) _ s2
    refine zl4 (v:=.int i3) et2 rfl ?_
    refine zg1 (fun g3=>?_) (fun g3=>?_)
    ·walk_at "wh"
     refine bad (by rw[fl];exact decide_eq_false (by walk_at "om")) _ s2
    walk_at "wh"
    exact⟨_,rfl,sI.trans s2,good (by rw[fl];exact decide_eq_true (by walk_at "om"))⟩
   all_goals (walk_at "wh";refine zc4 (br_F ?_);walk_at "wh";refine br_T ?_;walk_at "wh";exact bad rfl _ (Same.refl _))
  ·rintro σ I ⟨t,rfl,sI,ok⟩
   rw[ll,zcf7] at ok
   have s0I:=s1.trans sI
   have eI:=sI _ _ e1
   refine zi3 eI ?_
   rw[ll]
   refine zq8 (by walk_at "om") (by walk_at "om") (by walk_at "om") (by walk_at "om") ?_
   rw[show ((ds.length:Int) - 1).toNat=ds.length - 1 by walk_at "om"]
   refine zs7 (n:=ds.length - 1) Wk.range (by rw[sizeLine_eq];omega) (fun i=>.int (1+i)) (fun i=>!ltP (keyD (ds.getD i .none)) (keyD (ds.getD (i+1) .none))) (fun j σ=>∃ t:Option V,σ=[t,some (.ref a)]) ⟨none,rfl⟩ ?_ ?_
   ·rintro i x σ I1 R S hi s2 hx ⟨_,rfl⟩ kt kf
    obtain rfl:x=.int (1+i):=hx
    obtain⟨x1,ex1⟩:∃ x,xs[i]?=some x:=⟨_,zbz6 (by walk_at "om")⟩
    obtain⟨x2,ex2⟩:∃ x,xs[i+1]?=some x:=⟨_,zbz6 (by walk_at "om")⟩
    obtain⟨d1,ed1,hd1⟩:=l.get i x1 ex1
    obtain⟨d2,ed2,hd2⟩:=l.get (i+1) x2 ex2
    have s02:=s0I.trans s2
    obtain⟨t1,i1,j1,w1,rfl,ht1,rfl,_⟩:=zad3 (hd1.same s02) (ok d1 (zca0 ed1))
    obtain⟨t2,i2,j2,w2,rfl,ht2,rfl,_⟩:=zad3 (hd2.same s02) (ok d2 (zca0 ed2))
    rw[getD_some ed1,getD_some ed2] at kt kf
    refine zd8 (v:=.ref t1) (s2 _ _ eI) (by rw[show (1:Int)+(i:Int) - 1=((i:Nat):Int) by walk_at "om"];exact zi4 ex1) ?_
    refine zat0 ht1 (fun p4 H4 f4 s4 h4=>?_)
    refine zd8 (v:=.ref t2) (s4 _ _ (s2 _ _ eI)) (by rw[show (1:Int)+(i:Int)=((i+1:Nat):Int) by walk_at "om"];exact zi4 ex2) ?_
    refine zat0 (s4 _ _ ht2) (fun p5 H5 f5 s5 h5=>?_)
    refine geP_rd (x:=(i1,j1)) (y:=(i2,j2)) (s5 _ _ h4) h5 ?_
    rw[zbn8]
    cases eg:ltP (i1,j1) (i2,j2)
    ·walk_at "wh"
     refine br_T ?_
     walk_at "wh"
     exact kt (by show (!ltP (i1,j1) (i2,j2))=true;rw[eg];rfl) _ _ (s4.trans s5) ⟨_,rfl⟩
    ·walk_at "wh"
     refine br_F ?_
     walk_at "wh"
     exact kf (by show (!ltP (i1,j1) (i2,j2))=false;rw[eg];rfl) _ _ (s4.trans s5) ⟨_,rfl⟩
   intro acc I3 f3 s3 h3
   refine zb0 (fun p4 I4 f4 s4 h4=>?_)
   refine zar8 (eqNil (s4 _ _ h3) h4) ?_
   rw[zw7]
   have q:=q _ ((s0I.trans s3).trans s4)
   have e5:zv5 (.list ds)=(List.range (ds.length - 1)).all fun i=>ltP (keyD (ds.getD i .none)) (keyD (ds.getD (i+1) .none)):=by
    show (ds.all zm0&&incD ds&&decide (0<ds.length))=_
    rw[zcc0.mpr ok,decide_eq_true d0,zce5,Bool.and_true];rfl
   rw[e5] at q
   simp only[Bool.not_not]
   walk_at "wh"
   exact q
 all_goals (walk_at "wh";refine zc4 (br_F ?_);walk_at "wh";refine br_T ?_;walk_at "wh";exact q _ (Same.refl _))
theorem zbn6:∀ {xs ys:List Int},xs.Nodup->(∀ x∈xs,x∈ys)->ys.length<=xs.length->∀ y∈ys,y∈xs
 | [],ys,_,_,hl,y,hy=>by
  have:ys=[]:=List.length_eq_zero_iff.mp (by simpa using hl)
  rw[this] at hy
  cases hy
 | x :: xs,ys,nd,hs,hl,y,hy=>by
  rw[zcf1] at nd
  have hx:=hs x (.head _)
  have ih:=zbn6 (xs:=xs) (ys:=ys.erase x) nd.2 (fun z hz=>(List.mem_erase_of_ne (fun (e:z=x)=>nd.1 (e▸hz))).mpr (hs z (.tail _ hz))) (by rw[List.length_erase_of_mem hx];rw[zcd0] at hl;omega)
  by_cases e:y=x
  ·rw[e];exact .head _
  ·exact .tail _ (ih y ((List.mem_erase_of_ne e).mpr hy))
theorem zag7 {za zb:List (Int×Int)}(h:eqDI (sumG za) (sumG zb)=true):(sumG za).length=(sumG zb).length/\∀ k,valG (sumG za) k=valG (sumG zb) k:=by
 obtain⟨na,ma⟩:=zg2 za
 obtain⟨nb,mb⟩:=zg2 zb
 unfold eqDI at h
 rw[zcb1,zcc0] at h
 obtain⟨hl,h⟩:=h
 have hl:(sumG za).length=(sumG zb).length:=by simpa using hl
 refine⟨hl,?_⟩
 have h1:∀ z∈sumG za,valG (sumG zb) z.1=some z.2:=fun z hz=>by
  have:=h z hz
  have e:valI (sumG zb) z.1=valG (sumG zb) z.1:=rfl
  rw[e] at this
  simpa using this
 have sub:∀ k,k∈(sumG za).map (·.1)->k∈(sumG zb).map (·.1):=fun k hk=>by
  obtain⟨z,hz,rfl⟩:=zcb4.mp hk
  by_cases e:z.1∈(sumG zb).map (·.1)
  ·exact e
  ·have:=h1 z hz
   rw[zu9 e] at this
   cases this
 have sup:∀ k,k∈(sumG zb).map (·.1)->k∈(sumG za).map (·.1):=fun k hk=>by
  exact zbn6 na (fun k hk=>sub k hk) (by rw[zbz7,zbz7];omega) k hk
 intro k
 by_cases e:k∈(sumG za).map (·.1)
 ·obtain⟨z,hz,rfl⟩:=zcb4.mp e
  rw[zas6 na hz,h1 z hz]
 ·rw[zu9 e,zu9 fun z=>e (sup k z)]
theorem zbd4 (za zb:List (Int×Int)):eqDI (sumG za) (sumG zb)=eqDI (sumG zb) (sumG za):=by
 rw[zcg7]
 exact⟨fun h=>zan5 fun k=>((zag7 h).2 k).symm,fun h=>zan5 fun k=>((zag7 h).2 k).symm⟩
theorem zav9 {d e:PyData}(h:zp0 d e=true) (hd:0<(za9 d).length):0<(za9 e).length:=by
 unfold zp0 at h
 have l:=(zag7 h).1
 have l1:=zq7 ((rowF e).map fun z=>(z.1,z.2.2))
 rw[zbz7,show (rowF e).length=(za9 e).length by unfold rowF;rw[zbz7]] at l1
 have l2:0<(sumG ((rowF d).map fun z=>(z.1 - z.2.1,z.2.2))).length:=by
  obtain⟨x,ex⟩:∃ x,(za9 d)[0]?=some x:=⟨_,zbz6 hd⟩
  have:(triD x).1 - (triD x).2.1∈(sumG ((rowF d).map fun z=>(z.1 - z.2.1,z.2.2))).map (·.1):=(zg2 _).2 _ |>.mpr (by
   rw[zcc8]
   exact zcb4.mpr ⟨triD x,by unfold rowF;exact zcb4.mpr ⟨x,zca0 ex,rfl⟩,rfl⟩)
  have:=List.length_pos_of_mem this
  rwa [zbz7] at this
 omega
theorem zbg8 {ds:List PyData}(h:zd4 (.list ds)=true):∀ x∈ds,zv5 x=true:=by
 unfold zd4 zo4 at h
 simp only[zcb1] at h
 obtain⟨eb,_,_,_,ea,_,_,em⟩:=h
 have ea:ds.all rowD=true:=ea
 have ea:=zcc0.mp ea
 have em:zm8 ds=true:=em
 unfold zm8 at em
 have em:=zcc0.mp em
 have eb:(decide (0<ds.length)&&rowD (ds.getD 0 .none)&&decide (0<(za9 (ds.getD 0 .none)).length))=true:=eb
 rw[zcb1,decide_eq_true_eq] at eb
 have key:∀ i,i<ds.length->0<(za9 (ds.getD i .none)).length:=fun i=>by
  induction i with
  | zero=>exact fun _=>eb.2
  | succ i ih=>exact fun hi=>zav9 (em i (zcf4.mpr (by walk_at "om"))) (ih (by walk_at "om"))
 intro x hx
 obtain⟨i,ei⟩:=zcc5 hx
 have:=key i (zbz9.mp ei).1
 rw[getD_some ei] at this
 unfold zv5
 rw[ea x hx,decide_eq_true this];rfl
theorem any_eq {ds:List PyData}(h1:1<=ds.length) (h8:ds.length<=8) (hr:∀ x∈ds,zv5 x=true):0<=zi6 (.list ds)/\zd4 (.list ds)=(decide (zi6 (.list ds)<=40)&&(zai0 (zi6 (.list ds)) (ds.getD 0 .none)&&(zap9 (ds.getD (ds.length - 1) .none)&&zm8 ds))):=by
 have hr':∀ x∈ds,rowD x=true/\0<(za9 x).length:=fun x hx=>by
  have:=hr x hx
  unfold zv5 at this
  rwa [zcb1,decide_eq_true_eq] at this
 obtain⟨d0,e0⟩:∃ d,ds[0]?=some d:=⟨_,zbz6 (by walk_at "om")⟩
 have r0:=hr' d0 (zca0 e0)
 have eb:zj7 (.list ds)=true:=by
  show (decide (0<ds.length)&&rowD (ds.getD 0 .none)&&decide (0<(za9 (ds.getD 0 .none)).length))=true
  rw[getD_some e0,r0.1,decide_eq_true (show 0<ds.length by walk_at "om"),decide_eq_true r0.2];rfl
 have hh:0<=zi6 (.list ds):=by
  unfold zi6
  rw[show (za9 (.list ds)).getD 0 .none=d0 from getD_some e0]
  cases d0 with
  | list es=>
   have ef:(es.all zm0&&incD es)=true:=r0.1
   rw[zcb1] at ef
   have l0:0<es.length:=r0.2
   obtain⟨x,ex⟩:∃ x,es[0]?=some x:=⟨_,zbz6 l0⟩
   have fx:=zcc0.mp ef.1 x (zca0 ex)
   have:(rowF (.list es)).getD 0 (0,0,0)=triD x:=by
    rw[zca2]
    show ((es.map triD)[0]?).getD (0,0,0)=_
    rw[zca1,ex];rfl
   rw[this]
   cases x with
   | tuple ys=>
    have l3:ys.length=3:=Classical.byContradiction fun z=>by rw[zz2 z] at fx;cases fx
    match ys,l3 with
    | [a,b,c],_=>
     have fx:(zq9 0 a&&zy8 0 (intD a) b&&zq9 1 c)=true:=fx
     rw[zcb1,zcb1] at fx
     obtain⟨i,rfl,hi⟩:=zv3 fx.1.1
     exact hi
   | _=>simp[zm0] at fx
  | _=>simp[rowD] at r0
 refine⟨hh,?_⟩
 unfold zd4 zo4 zx3
 have items:za9 (.list ds)=ds:=rfl
 rw[items,eb,zcc0.mpr fun x hx=>(hr' x hx).1,decide_eq_true (show (1:Int)<=(ds.length:Int)/\(ds.length:Int)<=8 by walk_at "om"),decide_eq_true (show ((ds.length:Nat):Int)=ds.length from rfl)]
 have:decide (0<=zi6 (.list ds)/\zi6 (.list ds)<=40)=decide (zi6 (.list ds)<=40):=decide_eq_decide.mpr ⟨fun z=>z.2,fun z=>⟨hh,z⟩⟩
 rw[this]
 simp only[zce5,Bool.and_true]
@[irreducible] def zf0:Sp:=fun vs H Q _=>∃ (v u:V) (d e:PyData),vs=[v,u]/\ShV H v d/\ShV H u e/\rowD d=true/\rowD e=true/\(za9 d).length<=1000/\(za9 e).length<=1000/\∀ H',Same H H'->Q (.bl (zp0 e d)) H'
theorem zav6 {H:Hp}{v u:V}{d e:PyData}{Q:VK}{E:XK}(hv:ShV H v d) (hu:ShV H u e) (rd:rowD d=true) (re:rowD e=true) (ld:(za9 d).length<=1000) (le:(za9 e).length<=1000) (q:∀ H',Same H H'->Q (.bl (zp0 e d)) H'):zf0 [v,u] H Q E:=by unfold zf0;exact⟨v,u,d,e,rfl,hv,hu,rd,re,ld,le,q⟩
set_option maxHeartbeats 0 in
theorem zab7 {f:Addr}{fd:FuncData}(F:Fun K "_law_goes_on" "_law_goes_on" zi0 f fd) (N:Nm mg):FnOk P w K mg base CX0 1 f fd ["_law_row","_law_ahead"] zf0:=by
 refine F.ok zc7 (fun vs H Q E h=>by unfold zf0 at h;obtain⟨_,_,_,_,rfl,_⟩:=h;rfl) (fun cdv A outer s H vs Q E hr h=>?_)
 unfold zf0 at h
 obtain⟨v,u,d,e,rfl,hv,hu',rd,re,ld,le,q⟩:=h
 have hu:=hu40 hr
 obtain⟨a,ts,ds,rfl,rfl,ha,hl,hp,_⟩:=zv7 hv rd
 obtain⟨b,us,es,rfl,rfl,hb,hl',hp',_⟩:=zv7 hu' re
 have ld:ds.length<=1000:=ld
 have le:es.length<=1000:=le
 refine⟨_,(za3 (psS (i:=2) zc7.nd zai5)
   (za3 (zt7 PassesOwn.never rfl (zg4 (K:=K) rfl (pq 1)) (zp9 (K:=K) (n:=3) rfl rfl (zc1 (za8 (i:=3) zc7.nd rfl (by first|exact Or.inl rfl|exact Or.inr rfl)) (zc1 (za8 (i:=4) zc7.nd rfl (by first|exact Or.inl rfl|exact Or.inr rfl)) (zc1 (za8 (i:=5) zc7.nd rfl (by first|exact Or.inl rfl|exact Or.inr rfl)) zp7)))) (za6 (zas0 (by exact hu) (pq 2) (zb4 oSub (pq 3) (pq 4)) (zb4 oAdd (zz1 (by exact hu) (pq 2) (zb4 oSub (pq 3) (pq 4)) za2) (pq 5)))))
   (za3 (psS (i:=6) zc7.nd zai5)
   (za3 (zt7 PassesOwn.never rfl (zg4 (K:=K) rfl (pq 0)) (zp9 (K:=K) (n:=3) rfl rfl (zc1 (za8 (i:=3) zc7.nd rfl (by first|exact Or.inl rfl|exact Or.inr rfl)) (zc1 (za8 (i:=4) zc7.nd rfl (by first|exact Or.inl rfl|exact Or.inr rfl)) (zc1 (za8 (i:=5) zc7.nd rfl (by first|exact Or.inl rfl|exact Or.inr rfl)) zp7)))) (za6 (zas0 (by exact hu) (pq 6) (pq 3) (zb4 oAdd (zz1 (by exact hu) (pq 6) (pq 3) za2) (pq 5)))))
   (za6 (zb1 (peC (zs1 (K:=K) rfl (by exact hu)) (pq 6) (pq 2)))))))),?_⟩
 refine zay8 (fun r H1 f1 s1 h1=>?_)
 refine zc3 (s1 _ _ hb) ?_
 refine zh5 (xs:=us.map V.ref) (fun i σ I=>∃ x1 x2 x3 x4:Option V,σ=[some (.ref a),some (.ref b),some (.ref r),x1,x2,x3,x4]/\Same H I/\I r=some (.dK (dF Sum.inl (sumG (((rowF (.list es)).map fun z=>(z.1 - z.2.1,z.2.2)).take i))))) ?_ ?_ ?_ ?_
 ·exact⟨_,_,_,_,rfl,s1,h1⟩
 ·rintro i σ I _ ⟨_,_,_,_,_,sI,_⟩
  exact SqL.of (sI _ _ hb)
 ·rintro i v σ I hi ⟨y1,y2,y3,y4,rfl,sI,hr'⟩
  rw[zca1] at hi
  obtain⟨t,et,rfl⟩:=zca6.mp hi
  obtain⟨z,ez⟩:∃ z,(rowF (.list es))[i]?=some z:=⟨_,zbz6 (by rw[zf2];have:=(zbz9.mp et).1;omega)⟩
  have ez':((rowF (.list es)).map fun z=>(z.1 - z.2.1,z.2.2))[i]?=some (z.1 - z.2.1,z.2.2):=by rw[zca1,ez];rfl
  refine zl0 (sI _ _ (hp' i t z et ez)) ?_
  refine zao4 hr' ?_
  refine zaq2 hr' ?_
  have ev:(valV (dF Sum.inl (sumG (((rowF (.list es)).map fun z=>(z.1 - z.2.1,z.2.2)).take i))) (Sum.inl (z.1 - z.2.1):Key)).getD (V.int 0)=.int ((valG (sumG (((rowF (.list es)).map fun z=>(z.1 - z.2.1,z.2.2)).take i)) (z.1 - z.2.1)).getD 0):=by
   rw[zu7 zt5]
   cases valG (sumG (((rowF (.list es)).map fun z=>(z.1 - z.2.1,z.2.2)).take i)) (z.1 - z.2.1)<;>rfl
  rw[ev]
  refine zaz6 hr' (by unfold dF;rw[zbz7,sizeLine_eq];have:=zq7 (((rowF (.list es)).map fun z=>(z.1 - z.2.1,z.2.2)).take i);rw[zcb8,zbz7,zf2] at this;omega) (fun I2 c2 h2=>?_)
  rw[zaa1 zt5] at h2
  walk_at "wh"
  exact⟨_,_,_,_,rfl,sI.chg f1 c2,by rw[zr4 ez'];exact h2⟩
 rintro σ H2 ⟨y1,y2,y3,y4,rfl,s2,h2⟩
 have lt1:(us.map V.ref).length=((rowF (.list es)).map fun z=>(z.1 - z.2.1,z.2.2)).length:=by rw[zbz7,zbz7,zf2];exact hl'
 rw[lt1,zcf7] at h2
 refine zay8 (fun r3 H3 f3 s3 h3=>?_)
 refine zc3 ((s2.trans s3) _ _ ha) ?_
 refine zh5 (xs:=ts.map V.ref) (fun i σ I=>∃ x1 x2 x3:Option V,σ=[some (.ref a),some (.ref b),some (.ref r),x1,x2,x3,some (.ref r3)]/\Same H2 I/\I r3=some (.dK (dF Sum.inl (sumG (((rowF (.list ds)).map fun z=>(z.1,z.2.2)).take i))))) ?_ ?_ ?_ ?_
 ·exact⟨_,_,_,rfl,s3,h3⟩
 ·rintro i σ I _ ⟨_,_,_,_,sI,_⟩
  exact SqL.of ((s2.trans sI) _ _ ha)
 ·rintro i v σ I hi ⟨z1,z2,z3,rfl,sI,hr'⟩
  rw[zca1] at hi
  obtain⟨t,et,rfl⟩:=zca6.mp hi
  obtain⟨z,ez⟩:∃ z,(rowF (.list ds))[i]?=some z:=⟨_,zbz6 (by rw[zf2];have:=(zbz9.mp et).1;omega)⟩
  have ez':((rowF (.list ds)).map fun z=>(z.1,z.2.2))[i]?=some (z.1,z.2.2):=by rw[zca1,ez];rfl
  refine zl0 ((s2.trans sI) _ _ (hp i t z et ez)) ?_
  refine zao4 hr' ?_
  refine zaq2 hr' ?_
  have ev:(valV (dF Sum.inl (sumG (((rowF (.list ds)).map fun z=>(z.1,z.2.2)).take i))) (Sum.inl z.1:Key)).getD (V.int 0)=.int ((valG (sumG (((rowF (.list ds)).map fun z=>(z.1,z.2.2)).take i)) z.1).getD 0):=by
   rw[zu7 zt5]
   cases valG (sumG (((rowF (.list ds)).map fun z=>(z.1,z.2.2)).take i)) z.1<;>rfl
  rw[ev]
  refine zaz6 hr' (by unfold dF;rw[zbz7,sizeLine_eq];have:=zq7 (((rowF (.list ds)).map fun z=>(z.1,z.2.2)).take i);rw[zcb8,zbz7,zf2] at this;omega) (fun I2 c2 h2'=>?_)
  rw[zaa1 zt5] at h2'
  walk_at "wh"
  exact⟨_,_,_,rfl,sI.chg f3 c2,by rw[zr4 ez'];exact h2'⟩
 rintro σ H4 ⟨z1,z2,z3,rfl,s4,h4⟩
 have lt2:(ts.map V.ref).length=((rowF (.list ds)).map fun z=>(z.1,z.2.2)).length:=by rw[zbz7,zbz7,zf2];exact hl
 rw[lt2,zcf7] at h4
 refine zbn0 h4 (s4 _ _ h2) ?_
 walk_at "wh"
 have q:=q _ (s2.trans s4)
 unfold zp0 at q
 rw[zbd4] at q
 exact q
@[irreducible] def zd2:Sp:=fun vs H Q _=>∃ (v:V) (d:PyData),vs=[v]/\ShV H v d/\sml d=true/\∀ H',Same H H'->Q (.bl (zd4 d)) H'
theorem zbq5 {H:Hp}{v:V}{d:PyData}{Q:VK}{E:XK}(h:ShV H v d) (hs:sml d=true) (q:∀ H',Same H H'->Q (.bl (zd4 d)) H'):zd2 [v] H Q E:=by unfold zd2;exact⟨v,d,rfl,h,hs,q⟩
set_option maxHeartbeats 0 in
theorem zx2 {f:Addr}{fd:FuncData}(F:Fun K "_law_is_stream" "_law_is_stream" zf4 f fd) (N:Nm mg) (zbw4:Def P w K mg base CX0 1 "_law_goes_on" ["_law_row","_law_ahead"] zf0) (zbw8:Def P w K mg base CX0 2 "_law_is_row" ["_law_row"] zf8):FnOk P w K mg base CX0 3 f fd ["_law_thing"] zd2:=by
 refine F.ok zg5 (fun vs H Q E h=>by unfold zd2 at h;obtain⟨_,_,rfl,_⟩:=h;rfl) (fun cdv A outer s H vs Q E hr h=>?_)
 unfold zd2 at h
 obtain⟨v,d,rfl,h,hs,q⟩:=h
 have hu:=hu40 hr
 refine⟨_,(za3 (psIf (ptW (pwOr (zl8 (ptV (pB (zy9 (K:=K) rfl) N.isinstance_ za7 (za0 (pq 0) (za0 (pTy N.list_ zl2) za1))))) (pwOr (ptC (oLtX (by exact hu)) (pB (zq5 (K:=K) rfl) N.len_ zl1 (za0 (pq 0) za1)) za2) (zr5 (ptC oGt (pB (zq5 (K:=K) rfl) N.len_ zl1 (za0 (pq 0) za1)) za2))))) (za6 (zb1 zn1)) zb5)
   (za3 (zt7 PassesOwn.never rfl (zg4 (K:=K) rfl (pq 0)) (za8 (i:=1) zg5.nd rfl (by first|exact Or.inl rfl|exact Or.inr rfl)) (za6 (psIf (zl8 (ptV (pD zbw8 hr zb8 (za0 (pq 1) za1)))) (za6 (zb1 zn1)) zb5)))
   (za3 (psS (i:=2) zg5.nd (zc5 (K:=K) rfl (pq 0) za2))
   (za3 (psS (i:=3) zg5.nd (zc5 (K:=K) rfl (zc5 (K:=K) rfl (pq 2) za2) za2))
   (za3 (psIf (ptW (pwOr (ptC oGt (pq 3) za2) (zr5 (ptC (zw4 (K:=K) rfl (by exact hu)) (zm9 (N:=["_law_one","_law_hosts"]) (ks:=[none,some 3]) (zg4 (K:=K) rfl (pq 2)) (fun cl C s3 H3 fp=>(za8 (i:=0) nb_15 rfl (by first|exact Or.inl rfl|exact Or.inr rfl))) (fun cl C s3 H3 fp=>(zao1 (ptC (zw4 (K:=K) rfl (by exact hu)) (zc5 (K:=K) rfl (pq 0) za2) (pq 1)))) (fun cl C s3 H3 fp=>(pq 0)) (.skip (.take rfl rfl (by first|exact Or.inl rfl|exact Or.inr rfl) .nil))) (zg9 za1))))) (za6 (zb1 zn1)) zb5)
   (za3 (zt7 PassesOwn.never rfl (zbk9 N.range_ (za0 za2 (za0 (pB (zq5 (K:=K) rfl) N.len_ zl1 (za0 (pq 0) za1)) za1))) (za8 (i:=4) zg5.nd rfl (by first|exact Or.inl rfl|exact Or.inr rfl)) (za6 (psIf (zl8 (ptV (pD zbw4 hr zb8 (za0 (zc5 (K:=K) rfl (pq 0) (pq 4)) (za0 (zc5 (K:=K) rfl (pq 0) (zb4 oSub (pq 4) za2)) za1))))) (za6 (zb1 zn1)) zb5)))
   (za6 (zb1 (peC (zs1 (K:=K) rfl (by exact hu)) (zm9 (N:=["_law_one"]) (ks:=[none]) (zg4 (K:=K) rfl (zc5 (K:=K) rfl (pq 0) (zaw0 uNeg za2))) (fun cl C s3 H3 fp=>(za8 (i:=0) nb_16 rfl (by first|exact Or.inl rfl|exact Or.inr rfl))) (fun cl C s3 H3 fp=>(zao1 (ptC (zw4 (K:=K) rfl (by exact hu)) (zc5 (K:=K) rfl (pq 0) za2) (zc5 (K:=K) rfl (pq 0) za2)))) (fun cl C s3 H3 fp=>(pq 0)) (.skip .nil)) (zg9 za1)))))))))),?_⟩
 refine zp2 h (.inr (.inr (.inl rfl))) ?_
 cases h
 case lst a xs ds e l=>
  have ll:=l.len
  obtain⟨dl,dm⟩:=zo6 hs
  refine zc4 (br_T ?_)
  refine zi3 e ?_
  rw[ll]
  refine zg1 (fun g1=>?_) (fun g1=>?_)
  ·walk_at "wh"
   refine br_T ?_
   walk_at "wh"
   have q:=q _ (Same.refl _)
   rw[show zd4 (.list ds)=false by
    unfold zd4
    rw[show zj7 (.list ds)=false by
     show (decide (0<ds.length)&&_&&_)=false
     rw[decide_eq_false (show ¬ 0<ds.length by walk_at "om")];rfl];rfl] at q
   exact q
  refine zi3 e ?_
  rw[ll]
  refine zg1 (fun g2=>?_) (fun g2=>?_)
  ·walk_at "wh"
   have q:=q _ (Same.refl _)
   rw[show zd4 (.list ds)=false by
    unfold zd4 zx3
    rw[show decide ((1:Int)<=((za9 (.list ds)).length:Int)/\((za9 (.list ds)).length:Int)<=8)=false from decide_eq_false (by show ¬ ((1:Int)<=(ds.length:Int)/\(ds.length:Int)<=8);omega),zch4,Bool.false_and,zch4]] at q
   exact q
  refine zc3 e ?_
  refine zh5 (xs:=xs) (fun j σ I=>∃ y1 y2 y3 y4:Option V,σ=[some (.ref a),y1,y2,y3,y4]/\Same H I/\∀ d∈ds.take j,zv5 d=true) ?_ ?_ ?_ ?_
  ·exact⟨_,_,_,_,rfl,Same.refl _,fun d hd=>by simp at hd⟩
  ·rintro j σ I _ ⟨_,_,_,_,_,sI,_⟩
   exact SqL.of (sI _ _ e)
  ·rintro j x σ I hj ⟨y1,y2,y3,y4,rfl,sI,ok⟩
   obtain⟨dj,ed,hd⟩:=l.get j x hj
   have hm:=zca0 ed
   refine zbq6 (hd.same sI) (dm dj hm) (fun I1 s1=>?_)
   cases er:zv5 dj
   ·walk_at "wh"
    refine zc4 (br_F ?_)
    walk_at "wh"
    have q:=q _ (sI.trans s1)
    rw[show zd4 (.list ds)=false by
     cases ea:zd4 (.list ds)
     ·rfl
     ·rw[zbg8 ea dj hm] at er;cases er] at q
    exact q
   ·walk_at "wh"
    refine zc4 (br_T ?_)
    walk_at "wh"
    refine⟨_,_,_,_,rfl,sI.trans s1,fun d hd=>?_⟩
    rw[zci4,ed] at hd
    rcases zcc3.mp hd with hd|hd
    ·exact ok d hd
    ·have:d=dj:=by simpa using hd
     rw[this];exact er
  rintro σ H1 ⟨y1,y2,y3,y4,rfl,s1,ok⟩
  rw[ll,zcf7] at ok
  obtain⟨hh,ea⟩:=any_eq (by walk_at "om") (by walk_at "om") ok
  rw[ea] at q
  have rowok:∀ d∈ds,rowD d=true:=fun d hd=>by
   have:=ok d hd
   unfold zv5 at this
   exact (Bool.and_eq_true_iff.mp this).1
  obtain⟨rs,rfl,rl,rr⟩:=zaq7 (l.same s1) rowok
  have e1:=s1 _ _ e
  have il:∀ (i:Nat) dd,ds[i]?=some dd->(za9 dd).length<=1000:=fun i dd ed=>by
   have m:=dm dd (zca0 ed)
   have r:=rowok dd (zca0 ed)
   cases dd with
   | list es=>exact (zo6 m).1
   | _=>simp[rowD] at r
  have rfl':∀ dd,(rowF dd).length=(za9 dd).length:=fun dd=>by unfold rowF;rw[zbz7]
  obtain⟨r0,er0⟩:∃ r,rs[0]?=some r:=⟨_,zbz6 (by walk_at "om")⟩
  obtain⟨d0,ed0⟩:∃ r,ds[0]?=some r:=⟨_,zbz6 (by walk_at "om")⟩
  have R0:=rr 0 r0 d0 er0 ed0
  have R0l:=R0.len
  have d0l:0<(za9 d0).length:=by
   have:=ok d0 (zca0 ed0)
   unfold zv5 at this
   exact of_decide_eq_true (Bool.and_eq_true_iff.mp this).2
  have il0:=il 0 d0 ed0
  have rf0:=rfl' d0
  obtain⟨t0,et0⟩:∃ t,r0.2[0]?=some t:=⟨_,zbz6 (by walk_at "om")⟩
  obtain⟨z0,ez0⟩:∃ t,(rowF d0)[0]?=some t:=⟨_,zbz6 (by walk_at "om")⟩
  have eh:zi6 (.list ds)=z0.1:=by
   show ((rowF (ds.getD 0 .none)).getD 0 (0,0,0)).1=z0.1
   rw[getD_some ed0,zca2,ez0];rfl
  rw[eh,getD_some ed0] at q
  refine zd8 (v:=.ref r0.1) e1 (zi4 (j:=0) (by rw[zca1,er0];rfl)) ?_
  refine zd8 (v:=.ref t0) R0.out (zi4 (j:=0) (by rw[zca1,et0];rfl)) ?_
  refine zl4 (v:=.int z0.1) (R0.row 0 t0 z0 et0 ez0) rfl ?_
  refine zg1 (fun g3=>?_) (fun g3=>?_)
  ·walk_at "wh"
   refine br_T ?_
   walk_at "wh"
   have q:=q _ s1
   rw[decide_eq_false (show ¬ z0.1<=40 by walk_at "om")] at q
   exact q
  rw[decide_eq_true (show z0.1<=40 by walk_at "om"),zce5] at q
  refine zc3 R0.out ?_
  refine zs7 (Wk.list (SqL.of R0.out)) (by rw[zbz7,sizeLine_eq];omega) (fun i=>(r0.2.map V.ref).getD i .non) (fun i=>!decide (((rowF d0).getD i (0,0,0)).1=z0.1)) (fun j σ=>∃ t:Option V,σ=[t,some (.int z0.1)]) ⟨none,rfl⟩ ?_ ?_
  ·rintro i x σ I R S hi s2 hx ⟨_,rfl⟩ kt kf
   rw[show (r0.2.map V.ref).getD i .non=x by rw[zca2,hx];rfl] at kt
   rw[zca1] at hx
   obtain⟨t,et,rfl⟩:=zca6.mp hx
   obtain⟨z,ez⟩:∃ z,(rowF d0)[i]?=some z:=⟨_,zbz6 (by have:=(zbz9.mp et).1;omega)⟩
   rw[show (rowF d0).getD i (0,0,0)=z by rw[zca2,ez];rfl] at kt kf
   refine zl4 (v:=.int z.1) (s2 _ _ (R0.row i t z et ez)) rfl ?_
   refine zc4 (zg1 (fun g=>?_) (fun g=>?_))
   ·walk_at "wh"
    exact kf (by rw[decide_eq_true g];rfl) _ _ (Same.refl _) ⟨_,rfl⟩
   ·walk_at "wh"
    exact kt (by rw[decide_eq_false g];rfl) _ _ (Same.refl _) ⟨_,rfl⟩
  intro acc H2 f2 s2 h2
  refine zb0 (fun p3 H3 f3 s3 h3=>?_)
  refine zar8 (eqNil (s3 _ _ h2) h3) ?_
  rw[zw7]
  simp only[Bool.not_not]
  have s13:=s2.trans s3
  have ful:((List.range (r0.2.map V.ref).length).all fun i=>decide (((rowF d0).getD i (0,0,0)).1=z0.1))=zai0 z0.1 d0:=by
   unfold zai0
   rw[zbz7,R0l,← zt6 (fun z:Int×Int×Int=>decide (z.1=z0.1)),← zt6 (fun i=>decide (((rowF d0).getD i (0,0,0)).1=z0.1))]
   congr 1
   apply zcg6
   intro i
   rw[zca1,zca1]
   by_cases h:i<(rowF d0).length
   ·rw[List.getElem?_range h,zbz6 h]
    simp[h]
   ·rw[zce3 (by simp;omega),zce3 (by walk_at "om")]
    rfl
  rw[ful]
  cases ef:zai0 z0.1 d0
  ·have q:=q _ (s1.trans s13)
   rw[ef] at q
   refine br_T ?_
   walk_at "wh"
   exact q
  rw[ef,zce5] at q
  refine br_F ?_
  refine zi3 (s13 _ _ e1) ?_
  rw[zbz7,rl]
  refine zq8 (by walk_at "om") (by walk_at "om") (by walk_at "om") (by walk_at "om") ?_
  refine zq0 (fun i σ I=>∃ y1 y4:Option V,σ=[some (.ref a),y1,some (.ref r0.1),some (.int z0.1),y4]/\Same H3 I/\∀ j,j<i->zp0 (ds.getD j .none) (ds.getD (j+1) .none)=true) ?_ ?_ ?_
  ·exact⟨_,_,rfl,Same.refl _,fun j hj=>by walk_at "om"⟩
  ·rintro i σ I hi ⟨w1,w4,rfl,sI,ok2⟩
   obtain⟨r1,er1⟩:∃ r,rs[i+1]?=some r:=⟨_,zbz6 (by walk_at "om")⟩
   obtain⟨r2,er2⟩:∃ r,rs[i]?=some r:=⟨_,zbz6 (by walk_at "om")⟩
   obtain⟨d1,ed1,hd1⟩:=l.get (i+1) (.ref r1.1) (by rw[zca1,er1];rfl)
   obtain⟨d2,ed2,hd2⟩:=l.get i (.ref r2.1) (by rw[zca1,er2];rfl)
   have s1I:=(s1.trans s13).trans sI
   refine zd8 (v:=.ref r1.1) (sI _ _ (s13 _ _ e1)) (by rw[show (1:Int)+(i:Int)=((i+1:Nat):Int) by walk_at "om"];exact zi4 (by rw[zca1,er1];rfl)) ?_
   refine zd8 (v:=.ref r2.1) (sI _ _ (s13 _ _ e1)) (by rw[show (1:Int)+(i:Int) - 1=((i:Nat):Int) by walk_at "om"];exact zi4 (by rw[zca1,er2];rfl)) ?_
   refine zav6 (hd1.same s1I) (hd2.same s1I) (rowok d1 (zca0 ed1)) (rowok d2 (zca0 ed2)) (il _ d1 ed1) (il _ d2 ed2) (fun I1 s2'=>?_)
   cases em:zp0 d2 d1
   ·walk_at "wh"
    refine zc4 (br_F ?_)
    walk_at "wh"
    have q:=q _ (s1I.trans s2')
    have mf:zm8 ds=false:=by
     cases e':zm8 ds
     ·rfl
     ·unfold zm8 at e'
      have:=zcc0.mp e' i (zcf4.mpr (by have:=(zbz9.mp ed1).1;omega))
      rw[getD_some ed1,getD_some ed2,em] at this
      cases this
    rw[mf,zch4] at q
    exact q
   ·walk_at "wh"
    refine zc4 (br_T ?_)
    walk_at "wh"
    refine⟨_,_,rfl,sI.trans s2',fun j hj=>?_⟩
    by_cases e':j=i
    ·subst e'
     rw[getD_some ed1,getD_some ed2];exact em
    ·exact ok2 j (by walk_at "om")
  rintro σ H4 ⟨w1,w4,rfl,s4,ok2⟩
  have em:zm8 ds=true:=by
   unfold zm8
   refine zcc0.mpr fun i hi=>ok2 i ?_
   have:=zcf4.mp hi
   omega
  rw[em,Bool.and_true] at q
  obtain⟨r5,er5⟩:∃ r,rs[ds.length - 1]?=some r:=⟨_,zbz6 (by walk_at "om")⟩
  obtain⟨d5,ed5⟩:∃ r,ds[ds.length - 1]?=some r:=⟨_,zbz6 (by walk_at "om")⟩
  have s14:=s13.trans s4
  have R5:=(rr _ r5 d5 er5 ed5).same s14
  have R5l:=R5.len
  have il5:=il _ d5 ed5
  have rf5:=rfl' d5
  rw[getD_some ed5] at q
  refine zd8 (v:=.ref r5.1) (s14 _ _ e1) (zbd6 (n:=ds.length - 1) (by rw[zbz7];omega) (by rw[zca1,er5];rfl)) ?_
  refine zc3 R5.out ?_
  refine zs7 (Wk.list (SqL.of R5.out)) (by rw[zbz7,sizeLine_eq];omega) (fun i=>(r5.2.map V.ref).getD i .non) (fun i=>!decide (((rowF d5).getD i (0,0,0)).1=((rowF d5).getD i (0,0,0)).2.1)) (fun j σ=>∃ t:Option V,σ=[t]) ⟨none,rfl⟩ ?_ ?_
  ·rintro i x σ I R S hi s2 hx ⟨_,rfl⟩ kt kf
   rw[show (r5.2.map V.ref).getD i .non=x by rw[zca2,hx];rfl] at kt
   rw[zca1] at hx
   obtain⟨t,et,rfl⟩:=zca6.mp hx
   obtain⟨z,ez⟩:∃ z,(rowF d5)[i]?=some z:=⟨_,zbz6 (by have:=(zbz9.mp et).1;omega)⟩
   rw[show (rowF d5).getD i (0,0,0)=z by rw[zca2,ez];rfl] at kt kf
   refine zl4 (v:=.int z.1) (s2 _ _ (R5.row i t z et ez)) rfl ?_
   refine zl4 (v:=.int z.2.1) (s2 _ _ (R5.row i t z et ez)) rfl ?_
   refine zc4 (zg1 (fun g=>?_) (fun g=>?_))
   ·walk_at "wh"
    exact kf (by rw[decide_eq_true g];rfl) _ _ (Same.refl _) ⟨_,rfl⟩
   ·walk_at "wh"
    exact kt (by rw[decide_eq_false g];rfl) _ _ (Same.refl _) ⟨_,rfl⟩
  intro acc6 H6 f6 s6 h6
  refine zb0 (fun p7 H7 f7 s7 h7=>?_)
  refine zar8 (eqNil (s7 _ _ h6) h7) ?_
  rw[zw7]
  simp only[Bool.not_not]
  have gon:((List.range (r5.2.map V.ref).length).all fun i=>decide (((rowF d5).getD i (0,0,0)).1=((rowF d5).getD i (0,0,0)).2.1))=zap9 d5:=by
   unfold zap9
   rw[zbz7,R5l,← zt6 (fun z:Int×Int×Int=>decide (z.1=z.2.1)),← zt6 (fun i=>decide (((rowF d5).getD i (0,0,0)).1=((rowF d5).getD i (0,0,0)).2.1))]
   congr 1
   apply zcg6
   intro i
   rw[zca1,zca1]
   by_cases h:i<(rowF d5).length
   ·rw[List.getElem?_range h,zbz6 h]
    simp[h]
   ·rw[zce3 (by simp;omega),zce3 (by walk_at "om")]
    rfl
  rw[gon]
  walk_at "wh"
  exact q _ ((((s1.trans s14)).trans s6).trans s7)
 all_goals (walk_at "wh";refine zc4 (br_F ?_);walk_at "wh";refine br_T ?_;walk_at "wh";exact q _ (Same.refl _))
@[irreducible] def zb9 (zbt2 zbt3:Addr):Sp:=fun vs H Q _=>(∃ (e D:Addr) (name:Str),vs=[.ref e]/\H e=some (excO e (.ref D) none)/\((D=zbt2/\name="stream")∨(D=zbt3/\name="plan"))/\∀ H',Same H H'->Q (.str name) H')∨(vs=[.non]/\∀ H',Same H H'->Q (.str "") H')
theorem zy2 {zbt2 zbt3:Addr}{H:Hp}{e:Addr}{Q:VK}{E:XK}(h:H e=some (excO e (.ref zbt2) none)) (q:∀ H',Same H H'->Q (.str "stream") H'):zb9 zbt2 zbt3 [.ref e] H Q E:=by unfold zb9;exact .inl ⟨e,zbt2,"stream",rfl,h,.inl ⟨rfl,rfl⟩,q⟩
theorem zad7 {zbt2 zbt3:Addr}{H:Hp}{e:Addr}{Q:VK}{E:XK}(h:H e=some (excO e (.ref zbt3) none)) (q:∀ H',Same H H'->Q (.str "plan") H'):zb9 zbt2 zbt3 [.ref e] H Q E:=by unfold zb9;exact .inl ⟨e,zbt3,"plan",rfl,h,.inr ⟨rfl,rfl⟩,q⟩
theorem zbk6 {zbt2 zbt3:Addr}{H:Hp}{Q:VK}{E:XK}(q:∀ H',Same H H'->Q (.str "") H'):zb9 zbt2 zbt3 [.non] H Q E:=by unfold zb9;exact .inr ⟨rfl,q⟩
theorem zaa5 {f:Addr}{fd:FuncData}(F:Fun K "_law_kind_of" "_law_kind_of" zh7 f fd) (N:Nm mg) (Z:Cz K mg base zbt5 zbt6 zbt3 zbu6 zbt2 zbu1 zbt9 zbt7 zbt8 zbu2 zbu3 zbu7 zbu4 zbu0):FnOk P w K mg base CX0 1 f fd ["_law_caught"] (zb9 zbt2 zbt3):=by
 refine F.ok ze5 (fun vs H Q E h=>by unfold zb9 at h;rcases h with ⟨_,_,_,rfl,_⟩|⟨rfl,_⟩<;>rfl) (fun cdv A outer s H vs Q E hr h=>?_)
 unfold zb9 at h
 have hu:=hu40 hr
 refine⟨_,(pssTo (zj8 (psOf (psS (i:=1) ze5.nd (zg9 (za0 (pB (zu6 (K:=K) rfl) N.isinstance_ za7 (za0 (pq 0) (za0 (zj5 (v:=.ref zbt6) rfl Z.g_NoBattle rfl) za1))) (za0 (pB (zu6 (K:=K) rfl) N.isinstance_ za7 (za0 (pq 0) (za0 (zj5 (v:=.ref zbt3) rfl Z.g_NoPlan rfl) za1))) (za0 (pB (zu6 (K:=K) rfl) N.isinstance_ za7 (za0 (pq 0) (za0 (zj5 (v:=.ref zbu6) rfl Z.g_NoMix rfl) za1))) za1))))))
   (zj8 (psOf (psS (i:=1) ze5.nd (zb4 oAdd (pq 1) (zg9 (za0 (pB (zu6 (K:=K) rfl) N.isinstance_ za7 (za0 (pq 0) (za0 (zj5 (v:=.ref zbt2) rfl Z.g_NoStream rfl) za1))) (za0 (pB (zu6 (K:=K) rfl) N.isinstance_ za7 (za0 (pq 0) (za0 (zj5 (v:=.ref zbu1) rfl Z.g_NoSide rfl) za1))) (za0 (pB (zu6 (K:=K) rfl) N.isinstance_ za7 (za0 (pq 0) (za0 (zj5 (v:=.ref zbt9) rfl Z.g_NoAlike rfl) za1))) za1)))))))
   (zj8 (psOf (psS (i:=1) ze5.nd (zb4 oAdd (pq 1) (zg9 (za0 (pB (zu6 (K:=K) rfl) N.isinstance_ za7 (za0 (pq 0) (za0 (zj5 (v:=.ref zbt7) rfl Z.g_NoNumber rfl) za1))) (za0 (pB (zu6 (K:=K) rfl) N.isinstance_ za7 (za0 (pq 0) (za0 (zj5 (v:=.ref zbt8) rfl Z.g_TooGreat rfl) za1))) (za0 (pB (zu6 (K:=K) rfl) N.isinstance_ za7 (za0 (pq 0) (za0 (zj5 (v:=.ref zbu2) rfl Z.g_NoEven rfl) za1))) za1)))))))
   (zj8 (psOf (psS (i:=1) ze5.nd (zb4 oAdd (pq 1) (zg9 (za0 (pB (zu6 (K:=K) rfl) N.isinstance_ za7 (za0 (pq 0) (za0 (zj5 (v:=.ref zbu3) rfl Z.g_NoText rfl) za1))) (za0 (pB (zu6 (K:=K) rfl) N.isinstance_ za7 (za0 (pq 0) (za0 (zj5 (v:=.ref zbu7) rfl Z.g_NoRow rfl) za1))) (za0 (pB (zu6 (K:=K) rfl) N.isinstance_ za7 (za0 (pq 0) (za0 (zj5 (v:=.ref zbu4) rfl Z.g_NoName rfl) za1))) za1)))))))
   (zj8 (psOf (psS (i:=1) ze5.nd (zb4 oAdd (pq 1) (zg9 (za0 (pB (zu6 (K:=K) rfl) N.isinstance_ za7 (za0 (pq 0) (za0 (zj5 (v:=.ref zbu0) rfl Z.g_NoPlace rfl) za1))) za1)))))
   (zj8 (psIS (i:=2) ze5.nd (zbm0 (zc6 zk0 (zc6 zk0 (zc6 zk0 (zc6 zk0 (zc6 zk0 (zc6 zk0 (zc6 zk0 (zc6 zk0 (zc6 zk0 (zc6 zk0 (zc6 zk0 (zc6 zk0 zax3))))))))))))))
   (zj8 (psOf (psIf (ptC oIs (pq 0) zba2) (za6 (zb1 zp8)) zb5))
   (zj8 (psOf (psIf (ptW (pwOr (zl8 (ptV (pB (zu6 (K:=K) rfl) N.isinstance_ za7 (za0 (pq 0) (za0 (zj5 (v:=.ref zbt5) rfl Z.g_HostError rfl) za1))))) (pwOr (zl8 (ptV (pB (zu6 (K:=K) rfl) N.isinstance_ za7 (za0 (pq 0) (za0 (pTy N.ValueError_ zag5) za1))))) (zr5 (ptC (oNeK (K:=K) rfl (by exact hu)) (zax1 (K:=K) rfl (pq 1) (za0 zn1 za1)) za2))))) (za6 (zb1 zp8)) zb5))
   (zar6 (psOf (zb1 (zc5 (K:=K) rfl (zb4 oAdd (pq 2) (zg9 (za0 zp8 za1))) (zay0 (K:=K) rfl (pq 1) (za0 zn1 za1))))))))))))))),?_⟩
 rcases h with ⟨e,D,name,rfl,he,hD,q⟩|⟨rfl,q⟩
 ·obtain⟨b0,b1,b2,b3,b4,b5,b6,b7,b8,b9,b10,b11,b12,kK,kC,kH,kV,k0,k1,k2,k3,k4,k5,k6,k7,k8,k9,k10,k11,k12,hv⟩:∃ b0 b1 b2 b3 b4 b5 b6 b7 b8 b9 b10 b11 b12:Bool,ExcK K D/\(zce0 K D).isSome=true/\zca3 K (.ref D) (.ref zbt5)=some true/\zca3 K (.ref D) (.type "ValueError")=some true/\zca3 K (.ref D) (.ref zbt6)=some b0/\zca3 K (.ref D) (.ref zbt3)=some b1/\zca3 K (.ref D) (.ref zbu6)=some b2/\zca3 K (.ref D) (.ref zbt2)=some b3/\zca3 K (.ref D) (.ref zbu1)=some b4/\zca3 K (.ref D) (.ref zbt9)=some b5/\zca3 K (.ref D) (.ref zbt7)=some b6/\zca3 K (.ref D) (.ref zbt8)=some b7/\zca3 K (.ref D) (.ref zbu2)=some b8/\zca3 K (.ref D) (.ref zbu3)=some b9/\zca3 K (.ref D) (.ref zbu7)=some b10/\zca3 K (.ref D) (.ref zbu4)=some b11/\zca3 K (.ref D) (.ref zbu0)=some b12/\(([b0,b1,b2,b3,b4,b5,b6,b7,b8,b9,b10,b11,b12]=[false,false,false,true,false,false,false,false,false,false,false,false,false]/\name="stream")∨([b0,b1,b2,b3,b4,b5,b6,b7,b8,b9,b10,b11,b12]=[false,true,false,false,false,false,false,false,false,false,false,false,false]/\name="plan")):=by
   rcases hD with ⟨rfl,rfl⟩|⟨rfl,rfl⟩
   ·exact⟨_,_,_,_,_,_,_,_,_,_,_,_,_,Z.k_NoStream,Z.c_NoStream,Z.i_NoStream_HostError,Z.v_NoStream,Z.i_NoStream_NoBattle,Z.i_NoStream_NoPlan,Z.i_NoStream_NoMix,Z.i_NoStream_NoStream,Z.i_NoStream_NoSide,Z.i_NoStream_NoAlike,Z.i_NoStream_NoNumber,Z.i_NoStream_TooGreat,Z.i_NoStream_NoEven,Z.i_NoStream_NoText,Z.i_NoStream_NoRow,Z.i_NoStream_NoName,Z.i_NoStream_NoPlace,.inl ⟨rfl,rfl⟩⟩
   ·exact⟨_,_,_,_,_,_,_,_,_,_,_,_,_,Z.k_NoPlan,Z.c_NoPlan,Z.i_NoPlan_HostError,Z.v_NoPlan,Z.i_NoPlan_NoBattle,Z.i_NoPlan_NoPlan,Z.i_NoPlan_NoMix,Z.i_NoPlan_NoStream,Z.i_NoPlan_NoSide,Z.i_NoPlan_NoAlike,Z.i_NoPlan_NoNumber,Z.i_NoPlan_TooGreat,Z.i_NoPlan_NoEven,Z.i_NoPlan_NoText,Z.i_NoPlan_NoRow,Z.i_NoPlan_NoName,Z.i_NoPlan_NoPlace,.inr ⟨rfl,rfl⟩⟩
  refine zl6 (D:=D) he kK kC k0 ?_
  refine zl6 (D:=D) he kK kC k1 ?_
  refine zl6 (D:=D) he kK kC k2 ?_
  refine zb0 (fun p1 H1 f1 s1 h1=>?_)
  have he1:=s1 _ _ he
  refine zl6 (D:=D) he1 kK kC k3 ?_
  refine zl6 (D:=D) he1 kK kC k4 ?_
  refine zl6 (D:=D) he1 kK kC k5 ?_
  refine zb0 (fun p2 H2 f2 s2 h2=>?_)
  refine zl7 (s2 _ _ h1) h2 (by rw[sizeLine_eq];simp) (fun p3 H3 f3 s3 h3=>?_)
  have he3:=s3 _ _ (s2 _ _ he1)
  refine zl6 (D:=D) he3 kK kC k6 ?_
  refine zl6 (D:=D) he3 kK kC k7 ?_
  refine zl6 (D:=D) he3 kK kC k8 ?_
  refine zb0 (fun p4 H4 f4 s4 h4=>?_)
  refine zl7 (s4 _ _ h3) h4 (by rw[sizeLine_eq];simp) (fun p5 H5 f5 s5 h5=>?_)
  have he5:=s5 _ _ (s4 _ _ he3)
  refine zl6 (D:=D) he5 kK kC k9 ?_
  refine zl6 (D:=D) he5 kK kC k10 ?_
  refine zl6 (D:=D) he5 kK kC k11 ?_
  refine zb0 (fun p6 H6 f6 s6 h6=>?_)
  refine zl7 (s6 _ _ h5) h6 (by rw[sizeLine_eq];simp) (fun p7 H7 f7 s7 h7=>?_)
  have he7:=s7 _ _ (s6 _ _ he5)
  refine zl6 (D:=D) he7 kK kC k12 ?_
  refine zb0 (fun p8 H8 f8 s8 h8=>?_)
  refine zl7 (s8 _ _ h7) h8 (by rw[sizeLine_eq];simp) (fun p9 H9 f9 s9 h9=>?_)
  have h9:H9 p9=some (.lst ([b0,b1,b2,b3,b4,b5,b6,b7,b8,b9,b10,b11,b12].map V.bl)):=h9
  refine zb0 (fun pa Ha fa sa ha=>?_)
  have s09:Same H Ha:=((((((((s1.trans s2).trans s3).trans s4).trans s5).trans s6).trans s7).trans s8).trans s9).trans sa
  have he9:=s09 _ _ he
  refine br_F ?_
  refine zl6 (D:=D) he9 kK kC kH ?_
  refine zc4 (br_T ?_)
  refine zbh4 (D:=D) he9 kK kC kV ?_
  refine zc4 (br_T ?_)
  have h9a:=sa _ _ h9
  generalize [b0,b1,b2,b3,b4,b5,b6,b7,b8,b9,b10,b11,b12]=bs at h9a hv
  refine zo5 h9a ?_
  refine cnt_rd h9a rfl (by rcases hv with ⟨rfl,rfl⟩|⟨rfl,rfl⟩<;>rfl) ?_
  rw[show ((bs.map V.bl).countP fun y=>eqV y (.bl true))=1 by rcases hv with ⟨rfl,rfl⟩|⟨rfl,rfl⟩<;>rfl]
  refine zc4 (zah3 rfl ?_)
  refine zb0 (fun pb Hb fb sb hb=>?_)
  refine zl7 (sb _ _ ha) hb (by rw[sizeLine_eq];simp) (fun pc Hc fc sc hc=>?_)
  have sac:=sb.trans sc
  refine zo5 (sac _ _ h9a) ?_
  walk_at "wh"
  rcases hv with ⟨rfl,rfl⟩|⟨rfl,rfl⟩
  ·refine zbn4 3 (sac _ _ h9a) rfl rfl ⟨_,rfl,rfl⟩ ?_ ?_
   ·intro m y hm hy
    match m,hm with
    | 0,_=>cases hy;rfl
    | 1,_=>cases hy;rfl
    | 2,_=>cases hy;rfl
   refine zd8 (v:=.str "stream") hc (by rfl) ?_
   walk_at "wh"
   exact q _ (s09.trans sac)
  ·refine zbn4 1 (sac _ _ h9a) rfl rfl ⟨_,rfl,rfl⟩ ?_ ?_
   ·intro m y hm hy
    match m,hm with
    | 0,_=>cases hy;rfl
   refine zd8 (v:=.str "plan") hc (by rfl) ?_
   walk_at "wh"
   exact q _ (s09.trans sac)
 ·walk_at "wh"
  refine zj1 Z.n_NoBattle ?_
  refine zj1 Z.n_NoPlan ?_
  refine zj1 Z.n_NoMix ?_
  refine zb0 (fun p1 H1 f1 s1 h1=>?_)
  refine zj1 Z.n_NoStream ?_
  refine zj1 Z.n_NoSide ?_
  refine zj1 Z.n_NoAlike ?_
  refine zb0 (fun p2 H2 f2 s2 h2=>?_)
  refine zl7 (s2 _ _ h1) h2 (by rw[sizeLine_eq];simp) (fun p3 H3 f3 s3 h3=>?_)
  refine zj1 Z.n_NoNumber ?_
  refine zj1 Z.n_TooGreat ?_
  refine zj1 Z.n_NoEven ?_
  refine zb0 (fun p4 H4 f4 s4 h4=>?_)
  refine zl7 (s4 _ _ h3) h4 (by rw[sizeLine_eq];simp) (fun p5 H5 f5 s5 h5=>?_)
  refine zj1 Z.n_NoText ?_
  refine zj1 Z.n_NoRow ?_
  refine zj1 Z.n_NoName ?_
  refine zb0 (fun p6 H6 f6 s6 h6=>?_)
  refine zl7 (s6 _ _ h5) h6 (by rw[sizeLine_eq];simp) (fun p7 H7 f7 s7 h7=>?_)
  refine zj1 Z.n_NoPlace ?_
  refine zb0 (fun p8 H8 f8 s8 h8=>?_)
  refine zl7 (s8 _ _ h7) h8 (by rw[sizeLine_eq];simp) (fun p9 H9 f9 s9 h9=>?_)
  refine zb0 (fun pa Ha fa sa ha=>?_)
  have s09:Same H Ha:=((((((((s1.trans s2).trans s3).trans s4).trans s5).trans s6).trans s7).trans s8).trans s9).trans sa
  refine br_T ?_
  walk_at "wh"
  exact q _ s09
@[irreducible] def zd3:Sp:=fun vs H Q _=>∃ (v:V) (d:PyData) (k:Int),vs=[v,.int k]/\ShV H v d/\sml d=true/\∀ H',Same H H'->Q (.str (if zd4 d=true then (if 0<=k/\k<(za9 d).length then "" else "plan") else "stream")) H'
theorem zw2 {H:Hp}{v:V}{d:PyData}{k:Int}{Q:VK}{E:XK}(h:ShV H v d) (hs:sml d=true) (q:∀ H',Same H H'->Q (.str (if zd4 d=true then (if 0<=k/\k<(za9 d).length then "" else "plan") else "stream")) H'):zd3 [v,.int k] H Q E:=by unfold zd3;exact⟨v,d,k,rfl,h,hs,q⟩
theorem zw3 {f:Addr}{fd:FuncData}(F:Fun K "_law_caught_by" "_law_caught_by" zf6 f fd) (N:Nm mg) (zbw5:Def P w K mg base CX0 1 "_law_kind_of" ["_law_caught"] (zb9 zbt2 zbt3)) (zbv1:Def P w K mg base (CXR P w) 10 "host_more" ["stream","field"] (zc9 zbt2 zbt3)) (Z:Cz K mg base zbt5 zbt6 zbt3 zbu6 zbt2 zbu1 zbt9 zbt7 zbt8 zbu2 zbu3 zbu7 zbu4 zbu0):FnOk P w K mg base CX0 11 f fd ["_law_stream","_law_field"] zd3:=by
 refine F.ok zm6 (fun vs H Q E h=>by unfold zd3 at h;obtain⟨_,_,_,rfl,_⟩:=h;rfl) (fun cdv A outer s H vs Q E hr h=>?_)
 unfold zd3 at h
 obtain⟨v,d,k,rfl,h,hs,q⟩:=h
 have hu:=hu40 hr
 refine⟨_,(za3 (psS (i:=2) zm6.nd zba2)
   (za3 (psTry (K:=K) (ke:=3) (ky:=2) rfl zm6.nd Z.g_HostError (psxOne (zbn9 zbv1 hr (za0 (pq 0) (za0 (pq 1) za1)))))
   (za6 (zb1 (pD zbw5 hr zb8 (za0 (pq 2) za1)))))),?_⟩
 cases e:zd4 d
 ·rw[if_neg (by rw[e];exact zca5)] at q
  refine zan9 h hs e (fun H0 s0=>zas4 Z.m_NoStream (fun ea H1 f1 s1 h1=>?_))
  refine zy2 h1 (fun H2 s2=>?_)
  walk_at "wh"
  exact q _ ((s0.trans s1).trans s2)
 rw[if_pos e] at q
 by_cases hk:0<=k/\k<(za9 d).length
 ·rw[if_pos hk] at q
  refine zaa0 h hs e hk (fun r rs H1 f1 s1 _ _=>?_)
  refine zbk6 (fun H2 s2=>?_)
  walk_at "wh"
  exact q _ (s1.trans s2)
 ·rw[if_neg hk] at q
  refine zan1 h hs e hk (fun H0 s0=>zas4 Z.m_NoPlan (fun ea H1 f1 s1 h1=>?_))
  refine zad7 h1 (fun H2 s2=>?_)
  walk_at "wh"
  exact q _ ((s0.trans s1).trans s2)
def spLaw (K:zbz8):Sp:=fun vs H Q _=>∃ (a:Addr) (ns:List Int),vs=[.ref a]/\SqL K H a (ns.map V.int)/\ns.length<=63/\∀ H',Q (.bl true) H'
theorem zam7 {ns:List Int}(h:ns.length<=63):[V.int 3].length+(cutV (ns.map V.int) none (some 30)).length<=sizeLine:=by
 rw[zq4 (by decide),zcb8,zbz7,sizeLine_eq,zcd3];omega
theorem zal3 {ns:List Int}{i:Nat}{x:V}(h:([V.int 3]++cutV (ns.map V.int) none (some 30))[i]?=some x):∃ z,x=.int z:=by
 rw[zq4 (by decide)] at h
 rcases zcc3.mp (zca0 h) with h|h
 ·exact⟨3,by simpa using h⟩
 ·obtain⟨z,_,rfl⟩:=zcb4.mp (zci1 h)
  exact⟨z,rfl⟩
theorem RwAt.mkv {H:Hp}{a:Addr}{bs:List Addr}{xs:List (Int×Int×Int)}(R:RwAt H a bs xs) (z:xs.length<=900):MkV H 4 (.ref a) [a]:=by
 have q:=MkV.lst (H:=H) (n:=3) (p:=a) (Bs:=bs.map fun _=>[]) R.out (by rw[zbz7,R.len];omega) (by rw[zbz7,zbz7]) fun i x B hx hB=>by
  rw[zca1] at hx hB
  obtain⟨b,eb,rfl⟩:=zca6.mp hx
  rw[eb] at hB
  cases hB
  obtain⟨y,ey⟩:∃ y,xs[i]?=some y:=⟨_,zbz6 (by have:=(zbz9.mp eb).1;have:=R.len;omega)⟩
  have t:=MkV.tup (H:=H) (n:=2) (p:=b) (Bs:=[[],[],[]]) (R.row i b y eb ey) (by simp) rfl fun j v B hv hB=>by
   match j with
   | 0=>cases hv;cases hB;exact .flat rfl rfl
   | 1=>cases hv;cases hB;exact .flat rfl rfl
   | 2=>cases hv;cases hB;exact .flat rfl rfl
   | j+3=>simp at hv
  exact t
 have e:(bs.map fun _=>([]:List Addr)).flatten=[]:=by
  induction bs with
  | nil=>rfl
  | cons b bs ih=>simp
 rw[e] at q
 exact q
theorem StAt.mkv {H:Hp}{p:Addr}{rs:List (Addr×List Addr)}{xss:List (List (Int×Int×Int))}(S:StAt H p rs xss) (h1:xss.length<=900) (h2:∀ xs∈xss,xs.length<=900):MkV H 5 (.ref p) (p :: rs.map (·.1))/\(p :: rs.map (·.1)).Nodup:=by
 have sl:=S.len
 have q:=MkV.lst (H:=H) (n:=4) (p:=p) (Bs:=rs.map fun r=>[r.1]) S.out (by rw[zbz7];omega) (by rw[zbz7,zbz7]) fun i x B hx hB=>by
  rw[zca1] at hx hB
  obtain⟨r,er,rfl⟩:=zca6.mp hx
  rw[er] at hB
  cases hB
  obtain⟨xs,ex⟩:∃ y,xss[i]?=some y:=⟨_,zbz6 (by have:=(zbz9.mp er).1;omega)⟩
  exact ((S.row i r xs er ex).same (zp5 _ _)).mkv (h2 xs (zca0 ex))
 have e:(rs.map fun r=>[r.1]).flatten=rs.map (·.1):=by
  have:∀ rs:List (Addr×List Addr),(rs.map fun r=>[r.1]).flatten=rs.map (·.1):=fun rs=>by
   induction rs with
   | nil=>rfl
   | cons r rs ih=>rw[zcd9,zch8,ih];rfl
  exact this rs
 rw[e] at q
 refine⟨q,zcf1.mpr ⟨fun hm=>?_,S.nd⟩⟩
 obtain⟨r,hr,er⟩:=zcb4.mp hm
 obtain⟨i,ei⟩:=zcc5 hr
 obtain⟨xs,ex⟩:∃ y,xss[i]?=some y:=⟨_,zbz6 (by have:=(zbz9.mp ei).1;omega)⟩
 exact (zh4 (S.row i r xs ei ex).out).1 er
theorem zaa8 (xss:List (List (Int×Int×Int))):(za9 (stmD xss)).map rowF=xss:=by
 show (xss.map zh0).map rowF=xss
 rw[zcc8]
 exact (zce1 fun x _=>zv1 x).trans (List.map_id _)
theorem zw9 {ms:List (List Int×Int)}{f:Nat}{xss:List (List (Int×Int×Int))}(S:zaa2 ms f xss) (hf:f<=8) (hl:ms.length<=20):okD 3 (stmD xss):=by
 rw[zbi9]
 refine zbs0 (by rw[S.1];omega) fun xs hx=>?_
 obtain⟨i,ei⟩:=zcc5 hx
 have:=(S.2 i xs ei).2
 omega
theorem OkM.s {h f:Nat}{ms:List (List Int×Int)}(K:OkM h f ms):OkS ms h f:=
 ⟨K.1,by have:=K.2.2.1;omega,fun x hx=>⟨(K.2.2.2 x hx).1,by have:=(K.2.2.2 x hx).2.1;omega,(K.2.2.2 x hx).2.2.1,(K.2.2.2 x hx).2.2.2⟩⟩
def litS:PyData:=stmD [[(2,0,3),(2,1,1)],[(1,1,1),(2,2,3)]]
theorem zao6:zd4 litS=true/\sml litS=true/\(za9 litS).length=2:=by decide +kernel
theorem zbq8 {H:Hp}{t1 t2 l1 t3 t4 l2 p:Addr}(h1:H t1=some (.tup [.int 2,.int 0,.int 3])) (h2:H t2=some (.tup [.int 2,.int 1,.int 1])) (h3:H l1=some (.lst [.ref t1,.ref t2])) (h4:H t3=some (.tup [.int 1,.int 1,.int 1])) (h5:H t4=some (.tup [.int 2,.int 2,.int 3])) (h6:H l2=some (.lst [.ref t3,.ref t4])) (h7:H p=some (.lst [.ref l1,.ref l2])):ShV H (.ref p) litS:=
 .lst h7 (.cons (.lst h3 (.cons (.tup h1 (.cons (.int _) (.cons (.int _) (.cons (.int _) .nil)))) (.cons (.tup h2 (.cons (.int _) (.cons (.int _) (.cons (.int _) .nil)))) .nil))) (.cons (.lst h6 (.cons (.tup h4 (.cons (.int _) (.cons (.int _) (.cons (.int _) .nil)))) (.cons (.tup h5 (.cons (.int _) (.cons (.int _) (.cons (.int _) .nil)))) .nil))) .nil))
set_option maxHeartbeats 0 in
theorem ok_law {f:Addr}{fd:FuncData}(F:Fun K "law" "law" zai2 f fd) (N:Nm mg) (zbw0:Def P w K mg base CX0 4 "_law_bent_one" ["_law_left","_law_stream"] ze1) (zbu8:Def P w K mg base CX0 11 "_law_caught_by" ["_law_stream","_law_field"] zd3) (zbt4:Def P w K mg base CX0 2 "_law_draw" ["_law_left","_law_base"] zd7) (zbv2:Def P w K mg base CX0 4 "_law_drawn_mix" ["_law_left","_law_hosts","_law_many","_law_most"] zd1) (zbv0:Def P w K mg base CX0 1 "_law_flowing" ["_law_mix"] ze8) (zbw1:Def P w K mg base CX0 1 "_law_grown" ["_law_mix","_law_field"] zh2) (zbv5:Def P w K mg base CX0 3 "_law_is_stream" ["_law_thing"] zd2) (zbv3:Def P w K mg base CX0 7 "_law_marked" ["_law_thing"] zh9) (zbv6:Def P w K mg base CX0 7 "_law_once" ["_law_thing"] zk4) (zbw9:Def P w K mg base CX0 1 "_law_opened" ["_law_cell"] zf9) (zbv1:Def P w K mg base (CXR P w) 10 "host_more" ["stream","field"] (zc9 zbt2 zbt3)):FnOk P w K mg base CX0 12 f fd ["_law_script"] (spLaw K):=by
 refine F.ok zp3 (fun vs H Q E h=>by obtain⟨n,k,rfl,_⟩:=h;rfl) (fun cdv A outer s H vs Q E hr h=>?_)
 obtain⟨a,ns0,rfl,hS,hlen,k⟩:=h
 have hu:=hu40 hr
 refine⟨_,(za3 (zt7 PassesOwn.never rfl (zg4 (K:=K) rfl (zb4 oAdd (zg9 (za0 za2 za1)) (zh3 (slXK (K:=K) rfl) (pq 0) zj9 (zo3 za2)))) (za8 (i:=1) zp3.nd rfl (by first|exact Or.inl rfl|exact Or.inr rfl)) (za3 (psS (i:=2) zp3.nd (pD zbw9 hr zb8 (za0 (pq 1) za1)))
   (za3 (psS (i:=3) zp3.nd (zc5 (K:=K) rfl (zg9 (za0 (pD zbt4 hr zb8 (za0 (pq 2) (za0 za2 za1))) (za0 za2 (za0 (pD zbt4 hr zb8 (za0 (pq 2) (za0 za2 za1))) za1)))) (zb4 oAdd (zb4 oDiv (pD zbt4 hr zb8 (za0 (pq 2) (za0 za2 za1))) za2) (pT cInt N.int_ zal2 (za0 (peC (zs1 (K:=K) rfl (by exact hu)) (zb4 oMod (pq 1) za2) za2) za1)))))
   (za3 (psS (i:=4) zp3.nd (pD zbv2 hr zb8 (za0 (pq 2) (za0 (pq 3) (za0 (zb4 oAdd za2 (pD zbt4 hr zb8 (za0 (pq 2) (za0 za2 za1)))) (za0 za2 za1))))))
   (za3 (psS (i:=5) zp3.nd (pD zbv0 hr zb8 (za0 (pq 4) za1)))
   (za3 (psC (i:=6) (N:=["_law_row"]) (ks:=[none]) zp3.nd (zg4 (K:=K) rfl (pq 5)) (fun cl C s3 H3 fp=>(za8 (i:=0) nb_17 rfl (by first|exact Or.inl rfl|exact Or.inr rfl))) (fun cl C s3 H3 fp=>zi7) (fun cl C s3 H3 fp=>(pT (zak5 (K:=K) rfl) N.list_ zl2 (za0 (pq 0) za1))) (.skip .nil))
   (za3 (zt7 PassesOwn.never rfl (zg4 (K:=K) rfl (zb4 oAdd (peLRng N.list_ N.range_ (za0 (pB (zq5 (K:=K) rfl) N.len_ zl1 (za0 (pq 5) za1)) za1)) (zg9 (za0 za2 za1)))) (za8 (i:=7) zp3.nd rfl (by first|exact Or.inl rfl|exact Or.inr rfl)) (za3 (psS (i:=8) zp3.nd (pD zbv1 hr zbb2 (za0 (pq 6) (za0 (pq 7) za1))))
   (za3 (psS (i:=9) zp3.nd (pD zbv0 hr zb8 (za0 (pD zbw1 hr zb8 (za0 (pq 4) (za0 (pq 7) za1))) za1)))
   (za3 (psIf (ptW (pwOr (ptC (zw4 (K:=K) rfl (by exact hu)) (pq 8) (pq 9)) (zr5 (ptC (zw4 (K:=K) rfl (by exact hu)) (pq 6) (pq 5))))) (za6 (zb1 zn1)) zb5)
   (za3 (zl3 (pD zbv1 hr zbb2 (za0 (zg9 (za0 (zg9 (za0 (zr0 (za0 za2 (za0 za2 (za0 za2 za1)))) (za0 (zr0 (za0 za2 (za0 za2 (za0 za2 za1)))) za1))) (za0 (zg9 (za0 (zr0 (za0 za2 (za0 za2 (za0 za2 za1)))) (za0 (zr0 (za0 za2 (za0 za2 (za0 za2 za1)))) za1))) za1))) (za0 za2 za1))))
   (za3 (psIf (ptC (zw4 (K:=K) rfl (by exact hu)) (pq 8) (pq 9)) (za6 (zb1 zn1)) zb5)
   (za3 (zl3 (pD zbv3 hr zb8 (za0 (pq 8) za1)))
   (za6 (psIf (zl8 (ptV (pD zbv6 hr zb8 (za0 (pq 8) za1)))) (za6 (zb1 zn1)) zb5)))))))))
   (za3 (psS (i:=10) zp3.nd (zc5 (K:=K) rfl (zg9 (za0 (zaw0 uNeg za2) (za0 (pB (zq5 (K:=K) rfl) N.len_ zl1 (za0 (pq 5) za1)) (za0 (zb4 oSub (zaw0 uNeg za2) (pD zbt4 hr zb8 (za0 (pq 2) (za0 (zb4 oPow za2 za2) za1)))) (za0 (zb4 oAdd (pB (zq5 (K:=K) rfl) N.len_ zl1 (za0 (pq 5) za1)) (zb4 oPow za2 za2)) za1))))) (pD zbt4 hr zb8 (za0 (pq 2) (za0 za2 za1)))))
   (za3 (psIf (ptC (zw4 (K:=K) rfl (by exact hu)) (pD zbu8 hr zb8 (za0 (pq 6) (za0 (pq 10) za1))) zp8) (za6 (zb1 zn1)) zb5)
   (za3 (psS (i:=11) zp3.nd (pD zbw0 hr zb8 (za0 (pq 2) (za0 (pq 5) za1))))
   (za3 (psS (i:=9) zp3.nd (zc5 (K:=K) rfl (zg9 (za0 zp8 (za0 zp8 za1))) (pT cInt N.int_ zal2 (za0 (pD zbv5 hr zb8 (za0 (pq 11) za1)) za1))))
   (za3 (psIf (ptC (zw4 (K:=K) rfl (by exact hu)) (pD zbu8 hr zb8 (za0 (pq 11) (za0 za2 za1))) (pq 9)) (za6 (zb1 zn1)) zb5)
   (za3 (psIf (ptW (pwAnd (ptC (zs1 (K:=K) rfl (by exact hu)) (pq 9) zp8) (zao0 (ptC (zw4 (K:=K) rfl (by exact hu)) (pD zbu8 hr zb8 (za0 (pq 11) (za0 (pq 10) za1))) zp8)))) (za6 (zb1 zn1)) zb5)
   (za3 (psS (i:=12) zp3.nd (pD zbv2 hr zb8 (za0 (pq 2) (za0 za2 (za0 (zb4 oAdd za2 (pD zbt4 hr zb8 (za0 (pq 2) (za0 za2 za1)))) (za0 za2 za1))))))
   (za3 (zl3 (zbe7 (K:=K) rfl (pq 6)))
   (za3 (zl3 (zaw1 (K:=K) rfl (pq 6) (za0 (pD zbv0 hr zb8 (za0 (pq 12) za1)) za1)))
   (za6 (psIf (ptC (zw4 (K:=K) rfl (by exact hu)) (pD zbv1 hr zbb2 (za0 (pq 6) (za0 za2 za1))) (pD zbv0 hr zb8 (za0 (pD zbw1 hr zb8 (za0 (pq 12) (za0 za2 za1))) za1))) (za6 (zb1 zn1)) zb5))))))))))))))))))
   (za6 (zb1 zn1))),?_⟩
 refine zb0 (fun p1 H1 hf1 hs1 ha1=>?_)
 refine zr2 (hs1.seq hS) (fun p2 H2 hf2 hs2 ha2=>?_)
 refine zl7 (hs2 _ _ ha1) ha2 (zam7 hlen) (fun p3 H3 hf3 hs3 ha3=>?_)
 refine zc3 ha3 ?_
 refine zh5 (xs:=[V.int 3]++cutV (ns0.map V.int) none (some 30)) (fun i σ H4=>∃ x1 x2 x3 x4 x5 x6 x7 x8 x9 x10 x11 x12:Option V,σ=[some (.ref a),x1,x2,x3,x4,x5,x6,x7,x8,x9,x10,x11,x12]/\Same H3 H4) ?_ ?_ ?_ ?_
 ·exact⟨_,_,_,_,_,_,_,_,_,_,_,_,rfl,Same.refl _⟩
 ·rintro i σ H4 _ ⟨_,_,_,_,_,_,_,_,_,_,_,_,_,h⟩
  exact SqL.of (h _ _ ha3)
 ·rintro i x σ H4 hi ⟨x1,x2,x3,x4,x5,x6,x7,x8,x9,x10,x11,x12,rfl,s4⟩
  obtain⟨z,rfl⟩:=zal3 hi
  refine zbc5 (fun pl H5 f5 s5 L5=>?_)
  have fpl:H3 pl=none:=s4.free f5
  have s35:Same H3 H5:=s4.trans s5
  refine zf3 L5 (by walk_at "om") (by walk_at "om") (by walk_at "om") (fun d6 H6 d60 d61 c6 L6=>?_)
  refine zf3 L6 (by walk_at "om") (by walk_at "om") (by walk_at "om") (fun d7 H7 d70 d71 c7 L7=>?_)
  refine zb0 (fun p8 H8 f8 s8 h8=>?_)
  refine zf3 (L7.same s8) (by walk_at "om") (by walk_at "om") (by walk_at "om") (fun d9 H9 d90 d91 c9 L9=>?_)
  have h89:=c9 _ _ (L7.ne f8) h8
  have c59:Chg pl H5 H9:=((c6.trans c7).same s8).trans c9
  have s39:Same H3 H9:=s35.chg fpl c59
  walk_at "st"
  walk_at "st"
  refine zo9 h89 (by split<;>omega) (by simp only[zcd0,zcf2];split<;>omega) ?_
  intro v hv
  obtain⟨hs,rfl,hs1⟩:∃ n:Nat,v=.int n/\n<=39:=by
   simp only[zcb3,zcd4,or_false] at hv
   rcases hv with rfl|rfl|rfl
   ·exact⟨d6.toNat,by rw[show ((d6.toNat:Nat):Int)=d6 by walk_at "om"],by walk_at "om"⟩
   ·exact⟨39,rfl,by walk_at "om"⟩
   ·exact⟨d7.toNat,by rw[show ((d7.toNat:Nat):Int)=d7 by walk_at "om"],by walk_at "om"⟩
  clear hv h89 h8
  refine zf3 L9 (by walk_at "om") (by walk_at "om") (by walk_at "om") (fun d10 H10 d100 d101 c10 L10=>?_)
  obtain⟨f,ef⟩:∃ f:Nat,1+d10=f:=⟨(1+d10).toNat,by walk_at "om"⟩
  have s310:=s39.chg fpl c10
  walk_at "wh"
  rw[ef]
  refine zs0 (g:=6) L10 (by walk_at "om") (by walk_at "om") ⟨by walk_at "om",by walk_at "om"⟩ (by walk_at "om") (by walk_at "om") (fun m ts ms H11 f11 c11 L11 M11 n11 O11 _ _ K11 _ l11=>?_)
  have s311:=s310.chg fpl c11
  have O:=OkM.s K11
  have ol:ms.length<=20:=by walk_at "om"
  have Mr11:zl5 (rm pl H11) m ts ms:=⟨zh6 n11 M11.out,M11.len,fun i t x h1 h2=>⟨zh6 (O11 t (zca0 h1)).1 (M11.part i t x h1 h2).1,zh6 (O11 t (zca0 h1)).2 (M11.part i t x h1 h2).2⟩⟩
  obtain⟨opl,epl⟩:=L11.some
  refine zo0 M11 O (by walk_at "om") ol (fun st rsS xss H12 f12 s12 S12 I12=>?_)
  have Sr12:StAt (rm pl H12) st rsS xss:=S12.same (nw_rm epl)
  have xl:=I12.1
  have xb:∀ xs∈xss,1<=xs.length/\xs.length<=20:=fun xs hx=>by
   obtain⟨i,ei⟩:=zcc5 hx
   obtain⟨R,rl⟩:=I12.2 i xs ei
   refine⟨?_,by walk_at "om"⟩
   obtain⟨x0,ex0⟩:∃ x,ms[0]?=some x:=⟨_,zbz6 (by have:=O.ne;omega)⟩
   have:((x0.1.drop i).sum,x0.1.getD i 0)∈xs.map keyT:=(R.2.1 _).mpr ((zg2 _).2 _ |>.mpr (by
    unfold flw
    rw[zcc8]
    exact zcb4.mpr ⟨x0,zca0 ex0,rfl⟩))
   have:=List.length_pos_of_mem this
   rw[zbz7] at this
   omega
  have od:=zw9 I12 (by walk_at "om") ol
  obtain⟨any12,_⟩:=zaz2 O I12 (by
   unfold zx3
   rw[decide_eq_true (show (0:Int)<=((hs:Nat):Int)/\((hs:Nat):Int)<=40 by walk_at "om"),decide_eq_true (show (1:Int)<=((f:Nat):Int)/\((f:Nat):Int)<=8 by walk_at "om")];rfl)
  have il:(za9 (stmD xss)).length=f:=by show (xss.map zh0).length=f;rw[zbz7,xl]
  have sl:=Sr12.len
  refine zc3 (zh4 Sr12.out).2 ?_
  refine zab6 (Wk.list (SqL.of (zh4 Sr12.out).2)) (by rw[zbz7,sizeLine_eq];omega) (fun i=>.lst ((rsS.getD i (0,[])).2.map V.ref)) (fun j σ=>∃ t:Option V,σ=[t]) ⟨none,rfl⟩ ?_ ?_
  ·rintro i x σ I R S' hi s6 hx ⟨_,rfl⟩ kk
   rw[zca1] at hx
   obtain⟨r0,er0,rfl⟩:=zca6.mp hx
   rw[show rsS.getD i (0,[])=r0 by rw[zca2,er0];rfl] at kk
   obtain⟨xs,ex⟩:∃ xs,xss[i]?=some xs:=⟨_,zbz6 (by have:=(zbz9.mp er0).1;omega)⟩
   have R0:=(zh4 (zh4 (Sr12.row i r0 xs er0 ex).out).2).2
   refine br_T ?_
   refine zw0 (SqL.of (s6 _ _ R0)) (fun q6 I6 f6 s7 h6=>?_)
   walk_at "wh"
   exact kk _ _ _ f6 s7 h6 ⟨_,rfl⟩
  rintro hd qs H13 F13
  rw[zbz7] at F13
  have F13l:=F13.len
  have L13:=(L11.same s12).same F13.same
  have L12:=L11.same s12
  have nhd:hd≠pl:=L12.ne F13.facc
  have fhd:H3 hd=none:=(s311.trans s12).free F13.facc
  have s313:=(s311.trans s12).trans F13.same
  have zl:(qs.zip (rsS.map (·.2))).map (·.1)=qs:=by rw[List.map_fst_zip];rw[zbz7];omega
  have Sh13:StAt (rm pl H13) hd (qs.zip (rsS.map (·.2))) xss:=by
   have e9:(qs.zip (rsS.map (·.2))).map (fun r=>V.ref r.1)=qs.map V.ref:=by
    conv=>rhs;rw[← zl]
    rw[zcc8];rfl
   refine⟨by rw[e9];exact zh6 nhd F13.out,by rw[List.length_zip,zbz7];omega,fun i r xs e1 e2=>?_,by rw[zl];exact F13.nd⟩
   rw[List.getElem?_zip_eq_some] at e1
   obtain⟨g1,g2⟩:=e1
   rw[zca1] at g2
   obtain⟨r0,er0,er2⟩:=zca6.mp g2
   obtain⟨g3,g4⟩:=F13.row i r.1 g1
   rw[show rsS.getD i (0,[])=r0 by rw[zca2,er0];rfl,er2] at g4
   have R0:=Sr12.row i r0 xs er0 e2
   refine⟨zh6 (fun e=>F13.nin (e▸zca0 g1)) (zh6 (L12.ne g3) g4),by rw[← er2];exact R0.len,fun j b x e1 e3=>?_⟩
   have t:=zh4 (R0.row j b x (by rw[er2];exact e1) e3)
   have t2:=zh4 t.2
   exact zh6 (za4 t2.2 F13.facc) (zh6 t2.1 (F13.same _ _ t2.2))
  have Sr13:=Sr12.same (Same.rm F13.same)
  have M13:=Mr11.same (Same.rm (s12.trans F13.same))
  clear Sr12 S12 M11 O11 f12
  refine zi3 (zh4 Sr13.out).2 ?_
  rw[zbz7,sl,xl]
  refine zbq9 (by walk_at "om") (by walk_at "om") (fun l14 H14 f14 s14 h14=>?_)
  rw[zcf3] at h14
  refine zb0 (fun l15 H15 f15 s15 h15=>?_)
  refine zl7 (s15 _ _ h14) h15 (by rw[zbz7,zch9,sizeLine_eq];show _+1<=_;omega) (fun l16 H16 f16 s16 h16=>?_)
  have s1316:=(s14.trans s15).trans s16
  refine zc3 h16 ?_
  refine zh5 (xs:=((List.range f).map fun i=>V.int ((i:Nat):Int))++[V.int 0]) (fun i σ Hx=>∃ y7 y8 y9:Option V,σ=[some (.ref a),some (.int z),some (.ref pl),some (.int hs),some (.ref m),some (.ref st),some (.ref hd),y7,y8,y9,x10,x11,x12]/\Same H16 Hx) ?_ ?_ ?_ ?_
  ·exact⟨_,_,_,rfl,Same.refl _⟩
  ·rintro j σ Hx _ ⟨_,_,_,_,sx⟩
   exact SqL.of (sx _ _ h16)
  ·rintro j v σ Hx hj ⟨y7,y8,y9,rfl,sx⟩
   obtain⟨kf,rfl,hkf⟩:∃ n:Nat,v=.int n/\n<f:=by
    rcases zcc3.mp (zca0 hj) with hj|hj
    ·obtain⟨n,hn,rfl⟩:=zcb4.mp hj
     exact⟨n,rfl,zcf4.mp hn⟩
    ·exact⟨0,by simpa using hj,by walk_at "om"⟩
   have sx13:=s1316.trans sx
   have hH:=((Sh13.same (zp5 pl H13)).same sx13)
   have sH:=((Sr13.same (zp5 pl H13)).same sx13)
   have mH:=((M13.same (zp5 pl H13)).same sx13)
   have SM:=I12.more O hkf
   have om:=zw9 SM (by walk_at "om") (by rw[zbz7];exact ol)
   refine zaa0 hH.sh od.1 any12 (by rw[il];omega) (fun r rs Hy fr sy Ty ny=>?_)
   rw[zaa8,zcf3] at Ty
   refine zag0 (mH.same sy) (fun x hx=>(O.all x hx).2.1) hkf (by walk_at "om") ol (fun g tsg Hz fg sz Gz=>?_)
   refine zo0 Gz (O.grw hkf) (by walk_at "om") (by rw[zbz7];exact ol) (fun du rsD yss Hw fdu sw Dw Iw=>?_)
   obtain rfl:=Iw.unique SM
   have syw:=sz.trans sw
   have Tw:=Ty.same syw
   have Dw':=Dw.same (zab0 _ _)
   refine zaj2 Tw.sh Dw'.sh om.2.1 om.2.1 (zce6 om.2.2 (by decide)) ?_
   rw[om.eqv]
   refine br_F ?_
   have sxw:=sy.trans syw
   refine zaj2 (hH.same sxw).sh (sH.same sxw).sh od.2.1 od.2.1 (zce6 od.2.2 (by decide)) ?_
   rw[od.eqv]
   refine br_F ?_
   refine zg3 (fun q1 Ha fa sa ka=>?_)
   refine zg3 (fun q2 Hb fb sb kb=>?_)
   refine zb0 (fun q3 Hc fc sc' kc=>?_)
   refine zg3 (fun q4 Hd fd' sd kd=>?_)
   refine zg3 (fun q5 He fe se ke=>?_)
   refine zb0 (fun q6 Hf ff sf kf'=>?_)
   refine zb0 (fun q7 Hg fg' sg kg=>?_)
   have tg:=sg
   have tf:=sf.trans tg
   have te:=se.trans tf
   have td:=sd.trans te
   have tc:=sc'.trans td
   have tb:=sb.trans tc
   have ta:=sa.trans tb
   refine zaa0 (zbq8 (tb _ _ ka) (tc _ _ kb) (td _ _ kc) (te _ _ kd) (tf _ _ ke) (tg _ _ kf') kg) zao6.2.1 zao6.1 (by rw[zao6.2.2];omega) (fun r' rs' Hh _ sh _ _=>?_)
   have twh:=ta.trans sh
   refine zaj2 (Tw.same twh).sh (Dw'.same twh).sh om.2.1 om.2.1 (zce6 om.2.2 (by decide)) ?_
   rw[om.eqv]
   refine br_F ?_
   obtain⟨mk1,mk2⟩:=(Tw.same twh).mkv (by rw[Iw.1];omega) (fun xs hx=>by
    obtain⟨i,ei⟩:=zcc5 hx
    have:=(Iw.2 i xs ei).2
    rw[zbz7] at this
    omega)
   refine zay5 mk1 mk2 (fun Hi me=>?_)
   refine zbq3 mk1 me (fun Hj sj=>?_)
   refine zc4 (br_T ?_)
   walk_at "wh"
   refine⟨_,_,_,rfl,sx.trans ((Same.chgS (sxw.trans twh) (fun b hb=>?_) me.1).trans sj)⟩
   rcases zcb3.mp hb with rfl|hb
   ·exact fr
   ·obtain⟨r0,hr0,rfl⟩:=zcb4.mp hb
    exact ny r0 hr0
  rintro σ H17 ⟨y7,y8,y9,rfl,s17⟩
  have s1317:=s1316.trans s17
  have L17:=L13.same s1317
  have Sh17:=Sh13.same (Same.rm s1317)
  have Sr17:=Sr13.same (Same.rm s1317)
  have s317:=s313.trans s1317
  clear Sh13 Sr13 M13 Mr11 L13 L12
  refine zi3 (zh4 Sr17.out).2 ?_
  rw[zbz7,sl,xl]
  walk_at "st"
  refine zf3 L17 (by walk_at "om") (by walk_at "om") (by walk_at "om") (fun d18 H18 d180 d181 c18 L18=>?_)
  have Sr18:=Sr17.same (Chg.rm c18)
  refine zi3 (zh4 Sr18.out).2 ?_
  rw[zbz7,sl,xl]
  walk_at "st"
  refine zb0 (fun p19 H19 f19 s19 h19=>?_)
  refine zf3 (L18.same s19) (by walk_at "om") (by walk_at "om") (by walk_at "om") (fun d20 H20 d200 d201 c20 L20=>?_)
  have h1920:=c20 _ _ (L18.ne f19) h19
  refine zo9 h1920 (by walk_at "om") (by simp only[zcd0,zcf2];omega) ?_
  intro v hv
  obtain⟨wr,rfl,wr1⟩:∃ wr:Int,v=.int wr/\¬ (0<=wr/\wr<(f:Int)):=by
   simp only[zcb3,zcd4,or_false] at hv
   rcases hv with rfl|rfl|rfl|rfl
   ·exact⟨_,rfl,by walk_at "om"⟩
   ·exact⟨_,rfl,by walk_at "om"⟩
   ·exact⟨_,rfl,by walk_at "om"⟩
   ·exact⟨_,rfl,by walk_at "om"⟩
  clear hv h1920 h19
  have c1720:Chg pl H17 H20:=(c18.same s19).trans c20
  have Sh20:=Sh17.same (Chg.rm c1720)
  have Sr20:=Sr17.same (Chg.rm c1720)
  have s320:=s317.chg fpl c1720
  refine zw2 (Sh20.same (zp5 _ _)).sh od.1 (fun H21 s21=>?_)
  rw[if_pos any12,if_neg (by rw[il];exact wr1)]
  walk_at "wh"
  first|refine br_F ?_|refine zan8 (by decide) ?_|refine zc4 (zah3 rfl ?_)
  have L21:=L20.same s21
  have Sh21:=Sh20.same (Same.rm s21)
  have Sr21:=Sr20.same (Same.rm s21)
  refine zap3 L21 (by walk_at "om") Sr21 (by walk_at "om") (by walk_at "om") xb (fun bv H22 c22 L22 R22=>?_)
  obtain⟨db,hdb,okb,_⟩:=R22
  have Sh22:=Sh21.same (Chg.rm c22)
  have s322:=(s320.trans s21).chg fpl c22
  refine zb0 (fun p23 H23 f23 s23 h23=>?_)
  have hdb23:=(hdb.same (zp5 _ _)).same s23
  refine zbq5 hdb23 okb.1 (fun H24 s24=>?_)
  have h24:=s24 _ _ h23
  have hdb24:=hdb23.same s24
  have s2224:=s23.trans s24
  have len1:zd4 db=true->(0:Int)<=0/\(0:Int)<(za9 db).length:=fun e=>by
   obtain⟨ds,rfl,_,_,dl,_⟩:=zbm7 e okb.1
   exact⟨Int.le_refl _,by show (0:Int)<(ds.length:Int);omega⟩
  have L24:=L22.same s2224
  have Sh24:=Sh22.same (Same.rm s2224)
  have s324:=s322.trans s2224
  cases eb:zd4 db
  ·walk_at "wh"
   refine zd8 (v:=.str "stream") h24 (by rfl) ?_
   refine zw2 hdb24 okb.1 (fun H25 s25=>?_)
   rw[if_neg (by rw[eb];exact zca5)]
   walk_at "wh"
   first|refine br_F ?_|refine zan8 (by decide) ?_|refine zc4 (zah3 rfl ?_)
   walk_at "wh"
   first|refine br_T ?_|refine zah3 rfl ?_
   refine zw2 (hdb24.same s25) okb.1 (fun H26 s26=>?_)
   rw[if_neg (by rw[eb];exact zca5)]
   walk_at "wh"
   first|refine br_F ?_|refine zan8 (by decide) ?_|refine zc4 (zah3 rfl ?_)
   have s2426:=s25.trans s26
   have L26:=L24.same s2426
   have Sh26:=Sh24.same (Same.rm s2426)
   have s326:=s324.trans s2426
   clear L24 Sh24
   refine zf3 L26 (by walk_at "om") (by walk_at "om") (by walk_at "om") (fun d27 H27 d270 d271 c27 L27=>?_)
   obtain⟨fo,efo⟩:∃ f:Nat,1+d27=f:=⟨(1+d27).toNat,by walk_at "om"⟩
   walk_at "wh"
   rw[efo]
   refine zs0 (h:=5) (g:=3) L27 (by walk_at "om") (by walk_at "om") ⟨by walk_at "om",by walk_at "om"⟩ (by walk_at "om") (by walk_at "om") (fun mo tso mso H28 f28 c28 L28 M28 n28 O28 P28 N28 K28 _ l28=>?_)
   have Oo:=OkM.s K28
   have Sh27:=Sh26.same (Chg.rm c27)
   have hd27:=(zh4 Sh27.out).2
   have Sh28:=Sh27.same (Chg.rm c28)
   have hd28:=(zh4 Sh28.out).2
   have s328:=(s326.chg fpl c27).chg fpl c28
   have nmo:mo≠hd:=Ne.symm (za4 hd27 f28)
   have offo:Off hd tso:=fun t ht=>⟨Ne.symm (za4 hd27 (N28 t ht).1),Ne.symm (za4 hd27 (N28 t ht).2)⟩
   refine zo5 hd28 ?_
   refine zbl4 hd28 (fun H29 c29 h29=>?_)
   have M29:=M28.chg c29 nmo offo
   refine zo5 h29 ?_
   refine zo0 M29 Oo (by walk_at "om") (by walk_at "om") (fun so rso yss H30 f30 s30 S30 I30=>?_)
   have h2930:=s30 _ _ h29
   refine zbm3 h2930 (zu3 S30.out).2 (by rw[zbz7,S30.len,I30.1,sizeLine_eq];show 0+fo<=_;omega) (fun H31 c31 h31=>?_)
   rw[List.nil_append] at h31
   have up31:Same (rm so (nw H29 H30)) (rm hd H31):=fun b o e=>by
    obtain⟨g1,g2⟩:=zh4 e
    obtain⟨g3,g4⟩:=zu3 g2
    have nb:b≠hd:=Ne.symm (za4 h29 g3)
    exact zh6 nb (c31 _ _ nb g4)
   have St31:StAt H31 hd rso yss:=⟨h31,S30.len,fun i r xs e1 e2=>(S30.row i r xs e1 e2).same up31,S30.nd⟩
   have M31:=(M29.same s30).chg c31 nmo offo
   have s331:Same H3 H31:=((s328.chg fhd c29).trans s30).chg fhd c31
   have odo:=zw9 I30 (by walk_at "om") (by walk_at "om")
   obtain⟨anyo,_⟩:=zaz2 Oo I30 (by
    unfold zx3
    rw[decide_eq_true (show (0:Int)<=((5:Nat):Int)/\((5:Nat):Int)<=40 by decide),decide_eq_true (show (1:Int)<=((fo:Nat):Int)/\((fo:Nat):Int)<=8 by walk_at "om")];rfl)
   have ilo:(za9 (stmD yss)).length=fo:=by show (yss.map zh0).length=fo;rw[zbz7,I30.1]
   have SMo:=I30.more Oo (show 0<fo by walk_at "om")
   have omo:=zw9 SMo (by walk_at "om") (by rw[zbz7];omega)
   refine zaa0 St31.sh odo.1 anyo (by rw[ilo];omega) (fun r32 rs32 H32 fr32 s32 T32 _=>?_)
   rw[zaa8,show (0:Int).toNat=0 from rfl] at T32
   refine zag0 (f:=0) (M31.same s32) (fun x hx=>(Oo.all x hx).2.1) (by walk_at "om") (by walk_at "om") (by walk_at "om") (fun g33 tsg H33 fg s33 G33=>?_)
   refine zo0 G33 (Oo.grw (by walk_at "om")) (by walk_at "om") (by rw[zbz7];omega) (fun du34 rsD34 zss H34 fdu s34 D34 I34=>?_)
   obtain rfl:=I34.unique SMo
   refine zaj2 (T32.same (s33.trans s34)).sh (D34.same (zab0 _ _)).sh omo.2.1 omo.2.1 (zce6 omo.2.2 (by decide)) ?_
   rw[omo.eqv]
   refine br_F ?_
   walk_at "wh"
   exact⟨_,_,_,_,_,_,_,_,_,_,_,_,rfl,((s331.trans s32).trans s33).trans s34⟩
  ·walk_at "wh"
   refine zd8 (v:=.str "") h24 (by rfl) ?_
   refine zw2 hdb24 okb.1 (fun H26 s26=>?_)
   rw[if_pos eb,if_pos (len1 eb)]
   walk_at "wh"
   first|refine br_F ?_|refine zan8 (by decide) ?_|refine zc4 (zah3 rfl ?_)
   walk_at "wh"
   first|refine br_F ?_|refine zan8 (by decide) ?_
   refine br_F ?_
   have L26:=L24.same s26
   have Sh26:=Sh24.same (Same.rm s26)
   have s326:=s324.trans s26
   clear L24 Sh24
   refine zf3 L26 (by walk_at "om") (by walk_at "om") (by walk_at "om") (fun d27 H27 d270 d271 c27 L27=>?_)
   obtain⟨fo,efo⟩:∃ f:Nat,1+d27=f:=⟨(1+d27).toNat,by walk_at "om"⟩
   walk_at "wh"
   rw[efo]
   refine zs0 (h:=5) (g:=3) L27 (by walk_at "om") (by walk_at "om") ⟨by walk_at "om",by walk_at "om"⟩ (by walk_at "om") (by walk_at "om") (fun mo tso mso H28 f28 c28 L28 M28 n28 O28 P28 N28 K28 _ l28=>?_)
   have Oo:=OkM.s K28
   have Sh27:=Sh26.same (Chg.rm c27)
   have hd27:=(zh4 Sh27.out).2
   have Sh28:=Sh27.same (Chg.rm c28)
   have hd28:=(zh4 Sh28.out).2
   have s328:=(s326.chg fpl c27).chg fpl c28
   have nmo:mo≠hd:=Ne.symm (za4 hd27 f28)
   have offo:Off hd tso:=fun t ht=>⟨Ne.symm (za4 hd27 (N28 t ht).1),Ne.symm (za4 hd27 (N28 t ht).2)⟩
   refine zo5 hd28 ?_
   refine zbl4 hd28 (fun H29 c29 h29=>?_)
   have M29:=M28.chg c29 nmo offo
   refine zo5 h29 ?_
   refine zo0 M29 Oo (by walk_at "om") (by walk_at "om") (fun so rso yss H30 f30 s30 S30 I30=>?_)
   have h2930:=s30 _ _ h29
   refine zbm3 h2930 (zu3 S30.out).2 (by rw[zbz7,S30.len,I30.1,sizeLine_eq];show 0+fo<=_;omega) (fun H31 c31 h31=>?_)
   rw[List.nil_append] at h31
   have up31:Same (rm so (nw H29 H30)) (rm hd H31):=fun b o e=>by
    obtain⟨g1,g2⟩:=zh4 e
    obtain⟨g3,g4⟩:=zu3 g2
    have nb:b≠hd:=Ne.symm (za4 h29 g3)
    exact zh6 nb (c31 _ _ nb g4)
   have St31:StAt H31 hd rso yss:=⟨h31,S30.len,fun i r xs e1 e2=>(S30.row i r xs e1 e2).same up31,S30.nd⟩
   have M31:=(M29.same s30).chg c31 nmo offo
   have s331:Same H3 H31:=((s328.chg fhd c29).trans s30).chg fhd c31
   have odo:=zw9 I30 (by walk_at "om") (by walk_at "om")
   obtain⟨anyo,_⟩:=zaz2 Oo I30 (by
    unfold zx3
    rw[decide_eq_true (show (0:Int)<=((5:Nat):Int)/\((5:Nat):Int)<=40 by decide),decide_eq_true (show (1:Int)<=((fo:Nat):Int)/\((fo:Nat):Int)<=8 by walk_at "om")];rfl)
   have ilo:(za9 (stmD yss)).length=fo:=by show (yss.map zh0).length=fo;rw[zbz7,I30.1]
   have SMo:=I30.more Oo (show 0<fo by walk_at "om")
   have omo:=zw9 SMo (by walk_at "om") (by rw[zbz7];omega)
   refine zaa0 St31.sh odo.1 anyo (by rw[ilo];omega) (fun r32 rs32 H32 fr32 s32 T32 _=>?_)
   rw[zaa8,show (0:Int).toNat=0 from rfl] at T32
   refine zag0 (f:=0) (M31.same s32) (fun x hx=>(Oo.all x hx).2.1) (by walk_at "om") (by walk_at "om") (by walk_at "om") (fun g33 tsg H33 fg s33 G33=>?_)
   refine zo0 G33 (Oo.grw (by walk_at "om")) (by walk_at "om") (by rw[zbz7];omega) (fun du34 rsD34 zss H34 fdu s34 D34 I34=>?_)
   obtain rfl:=I34.unique SMo
   refine zaj2 (T32.same (s33.trans s34)).sh (D34.same (zab0 _ _)).sh omo.2.1 omo.2.1 (zce6 omo.2.2 (by decide)) ?_
   rw[omo.eqv]
   refine br_F ?_
   walk_at "wh"
   exact⟨_,_,_,_,_,_,_,_,_,_,_,_,rfl,((s331.trans s32).trans s33).trans s34⟩
 ·rintro σ H4 ⟨_,_,_,_,_,_,_,_,_,_,_,_,rfl,_⟩
  exact k H4
end
theorem all_mk {l:PySem.W.OpenLaw}{w:World}{K:zbz8}{h:Heap}{mg:Str->Option Value}{fa:Addr}(X:K.In h) (G:h.Ns mainGlobals mg) (hfa:mg "law"=some (.ref fa))
  {zbw6:Tok}{zbw2:Tok}{f_0:Addr}{od_0 an_0:Option Addr}{sl_0:Array (Option Value)}{oc_0 kV_0 dc_0 pm_0 cd_0 ct_0:Value}{f_1:Addr}{od_1 an_1:Option Addr}{sl_1:Array (Option Value)}{oc_1 kV_1 dc_1 pm_1 cd_1 ct_1:Value}{f_2:Addr}{od_2 an_2:Option Addr}{sl_2:Array (Option Value)}{oc_2 kV_2 dc_2 pm_2 cd_2 ct_2:Value}{f_3:Addr}{od_3 an_3:Option Addr}{sl_3:Array (Option Value)}{oc_3 kV_3 dc_3 pm_3 cd_3 ct_3:Value}{f_4:Addr}{od_4 an_4:Option Addr}{sl_4:Array (Option Value)}{oc_4 kV_4 dc_4 pm_4 cd_4 ct_4:Value}{f_5:Addr}{od_5 an_5:Option Addr}{sl_5:Array (Option Value)}{oc_5 kV_5 dc_5 pm_5 cd_5 ct_5:Value}{f_6:Addr}{od_6 an_6:Option Addr}{sl_6:Array (Option Value)}{oc_6 kV_6 dc_6 pm_6 cd_6 ct_6:Value}{f_7:Addr}{od_7 an_7:Option Addr}{sl_7:Array (Option Value)}{oc_7 kV_7 dc_7 pm_7 cd_7 ct_7:Value}{f_8:Addr}{od_8 an_8:Option Addr}{sl_8:Array (Option Value)}{oc_8 kV_8 dc_8 pm_8 cd_8 ct_8:Value}{f_9:Addr}{od_9 an_9:Option Addr}{sl_9:Array (Option Value)}{oc_9 kV_9 dc_9 pm_9 cd_9 ct_9:Value}{f_10:Addr}{od_10 an_10:Option Addr}{sl_10:Array (Option Value)}{oc_10 kV_10 dc_10 pm_10 cd_10 ct_10:Value}{f_11:Addr}{od_11 an_11:Option Addr}{sl_11:Array (Option Value)}{oc_11 kV_11 dc_11 pm_11 cd_11 ct_11:Value}{f_12:Addr}{od_12 an_12:Option Addr}{sl_12:Array (Option Value)}{oc_12 kV_12 dc_12 pm_12 cd_12 ct_12:Value}{f_13:Addr}{od_13 an_13:Option Addr}{sl_13:Array (Option Value)}{oc_13 kV_13 dc_13 pm_13 cd_13 ct_13:Value}{f_14:Addr}{od_14 an_14:Option Addr}{sl_14:Array (Option Value)}{oc_14 kV_14 dc_14 pm_14 cd_14 ct_14:Value}{f_15:Addr}{od_15 an_15:Option Addr}{sl_15:Array (Option Value)}{oc_15 kV_15 dc_15 pm_15 cd_15 ct_15:Value}{f_16:Addr}{od_16 an_16:Option Addr}{sl_16:Array (Option Value)}{oc_16 kV_16 dc_16 pm_16 cd_16 ct_16:Value}{f_17:Addr}{od_17 an_17:Option Addr}{sl_17:Array (Option Value)}{oc_17 kV_17 dc_17 pm_17 cd_17 ct_17:Value}{f_18:Addr}{od_18 an_18:Option Addr}{sl_18:Array (Option Value)}{oc_18 kV_18 dc_18 pm_18 cd_18 ct_18:Value}{f_19:Addr}{od_19 an_19:Option Addr}{sl_19:Array (Option Value)}{oc_19 kV_19 dc_19 pm_19 cd_19 ct_19:Value}{f_20:Addr}{od_20 an_20:Option Addr}{sl_20:Array (Option Value)}{oc_20 kV_20 dc_20 pm_20 cd_20 ct_20:Value}{f_21:Addr}{od_21 an_21:Option Addr}{sl_21:Array (Option Value)}{oc_21 kV_21 dc_21 pm_21 cd_21 ct_21:Value}{f_22:Addr}{od_22 an_22:Option Addr}{sl_22:Array (Option Value)}{oc_22 kV_22 dc_22 pm_22 cd_22 ct_22:Value}{f_23:Addr}{od_23 an_23:Option Addr}{sl_23:Array (Option Value)}{oc_23 kV_23 dc_23 pm_23 cd_23 ct_23:Value}{f_24:Addr}{od_24 an_24:Option Addr}{sl_24:Array (Option Value)}{oc_24 kV_24 dc_24 pm_24 cd_24 ct_24:Value}{f_25:Addr}{od_25 an_25:Option Addr}{sl_25:Array (Option Value)}{oc_25 kV_25 dc_25 pm_25 cd_25 ct_25:Value}{f_26:Addr}{od_26 an_26:Option Addr}{sl_26:Array (Option Value)}{oc_26 kV_26 dc_26 pm_26 cd_26 ct_26:Value}{f_27:Addr}{od_27 an_27:Option Addr}{sl_27:Array (Option Value)}{oc_27 kV_27 dc_27 pm_27 cd_27 ct_27:Value}{f_28:Addr}{od_28 an_28:Option Addr}{sl_28:Array (Option Value)}{oc_28 kV_28 dc_28 pm_28 cd_28 ct_28:Value}{f_29:Addr}{od_29 an_29:Option Addr}{sl_29:Array (Option Value)}{oc_29 kV_29 dc_29 pm_29 cd_29 ct_29:Value}{f_30:Addr}{od_30 an_30:Option Addr}{sl_30:Array (Option Value)}{oc_30 kV_30 dc_30 pm_30 cd_30 ct_30:Value}{f_31:Addr}{od_31 an_31:Option Addr}{sl_31:Array (Option Value)}{oc_31 kV_31 dc_31 pm_31 cd_31 ct_31:Value}{f_32:Addr}{od_32 an_32:Option Addr}{sl_32:Array (Option Value)}{oc_32 kV_32 dc_32 pm_32 cd_32 ct_32:Value}{zbt5:Addr}{zby0:ClassData}{zbt6:Addr}{zby3:ClassData}{zbt3:Addr}{zby9:ClassData}{zbu6:Addr}{zbz4:ClassData}{zbt2:Addr}{zby4:ClassData}{zbu1:Addr}{zbz0:ClassData}{zbt9:Addr}{zby7:ClassData}{zbt7:Addr}{zby5:ClassData}{zbt8:Addr}{zby6:ClassData}{zbu2:Addr}{zbz1:ClassData}{zbu3:Addr}{zbz2:ClassData}{zbu7:Addr}{zbz5:ClassData}{zbu4:Addr}{zbz3:ClassData}{zbu0:Addr}{zby8:ClassData}
  (e_MOST_HOSTS:zca9 K mainGlobals "MOST_HOSTS"=some (some (.int 40 zbw6)))
  (e_MOST_FIELDS:zca9 K mainGlobals "MOST_FIELDS"=some (some (.int 8 zbw2)))
  (a_0:zca9 K mainGlobals "is_whole"=some (some (.ref f_0)))
  (l_0:K.lookup f_0=some ⟨oc_0,od_0,.func (zcc1 "is_whole" "is_whole" (zb6 zo1) (zb2 zo1) (za5 zo1) .none kV_0 dc_0 pm_0 an_0 cd_0 ct_0),sl_0⟩)
  (c_0:zcb9 K cd_0 "is_whole"=true)
  (k_0:zcb5 K (.ref f_0)=true)
  (a_1:zca9 K mainGlobals "is_from"=some (some (.ref f_1)))
  (l_1:K.lookup f_1=some ⟨oc_1,od_1,.func (zcc1 "is_from" "is_from" (zb6 zq3) (zb2 zq3) (za5 zq3) .none kV_1 dc_1 pm_1 an_1 cd_1 ct_1),sl_1⟩)
  (c_1:zcb9 K cd_1 "is_from"=true)
  (k_1:zcb5 K (.ref f_1)=true)
  (a_2:zca9 K mainGlobals "is_between"=some (some (.ref f_2)))
  (l_2:K.lookup f_2=some ⟨oc_2,od_2,.func (zcc1 "is_between" "is_between" (zb6 zk5) (zb2 zk5) (za5 zk5) .none kV_2 dc_2 pm_2 an_2 cd_2 ct_2),sl_2⟩)
  (c_2:zcb9 K cd_2 "is_between"=true)
  (k_2:zcb5 K (.ref f_2)=true)
  (a_3:zca9 K mainGlobals "is_size"=some (some (.ref f_3)))
  (l_3:K.lookup f_3=some ⟨oc_3,od_3,.func (zcc1 "is_size" "is_size" (zb6 zq1) (zb2 zq1) (za5 zq1) .none kV_3 dc_3 pm_3 an_3 cd_3 ct_3),sl_3⟩)
  (c_3:zcb9 K cd_3 "is_size"=true)
  (k_3:zcb5 K (.ref f_3)=true)
  (a_4:zca9 K mainGlobals "is_flow"=some (some (.ref f_4)))
  (l_4:K.lookup f_4=some ⟨oc_4,od_4,.func (zcc1 "is_flow" "is_flow" (zb6 zq2) (zb2 zq2) (za5 zq2) .none kV_4 dc_4 pm_4 an_4 cd_4 ct_4),sl_4⟩)
  (c_4:zcb9 K cd_4 "is_flow"=true)
  (k_4:zcb5 K (.ref f_4)=true)
  (a_5:zca9 K mainGlobals "is_row"=some (some (.ref f_5)))
  (l_5:K.lookup f_5=some ⟨oc_5,od_5,.func (zcc1 "is_row" "is_row" (zb6 zs9) (zb2 zs9) (za5 zs9) .none kV_5 dc_5 pm_5 an_5 cd_5 ct_5),sl_5⟩)
  (c_5:zcb9 K cd_5 "is_row"=true)
  (k_5:zcb5 K (.ref f_5)=true)
  (a_6:zca9 K mainGlobals "begins"=some (some (.ref f_6)))
  (l_6:K.lookup f_6=some ⟨oc_6,od_6,.func (zcc1 "begins" "begins" (zb6 zs8) (zb2 zs8) (za5 zs8) .none kV_6 dc_6 pm_6 an_6 cd_6 ct_6),sl_6⟩)
  (c_6:zcb9 K cd_6 "begins"=true)
  (k_6:zcb5 K (.ref f_6)=true)
  (a_7:zca9 K mainGlobals "summed"=some (some (.ref f_7)))
  (l_7:K.lookup f_7=some ⟨oc_7,od_7,.func (zcc1 "summed" "summed" (zb6 zt2) (zb2 zt2) (za5 zt2) .none kV_7 dc_7 pm_7 an_7 cd_7 ct_7),sl_7⟩)
  (c_7:zcb9 K cd_7 "summed"=true)
  (k_7:zcb5 K (.ref f_7)=true)
  (a_8:zca9 K mainGlobals "meets"=some (some (.ref f_8)))
  (l_8:K.lookup f_8=some ⟨oc_8,od_8,.func (zcc1 "meets" "meets" (zb6 zw5) (zb2 zw5) (za5 zw5) .none kV_8 dc_8 pm_8 an_8 cd_8 ct_8),sl_8⟩)
  (c_8:zcb9 K cd_8 "meets"=true)
  (k_8:zcb5 K (.ref f_8)=true)
  (a_9:zca9 K mainGlobals "is_stream"=some (some (.ref f_9)))
  (l_9:K.lookup f_9=some ⟨oc_9,od_9,.func (zcc1 "is_stream" "is_stream" (zb6 zl9) (zb2 zl9) (za5 zl9) .none kV_9 dc_9 pm_9 an_9 cd_9 ct_9),sl_9⟩)
  (c_9:zcb9 K cd_9 "is_stream"=true)
  (k_9:zcb5 K (.ref f_9)=true)
  (a_10:zca9 K mainGlobals "hosts_in"=some (some (.ref f_10)))
  (l_10:K.lookup f_10=some ⟨oc_10,od_10,.func (zcc1 "hosts_in" "hosts_in" (zb6 zo2) (zb2 zo2) (za5 zo2) .none kV_10 dc_10 pm_10 an_10 cd_10 ct_10),sl_10⟩)
  (c_10:zcb9 K cd_10 "hosts_in"=true)
  (k_10:zcb5 K (.ref f_10)=true)
  (a_11:zca9 K mainGlobals "is_any_stream"=some (some (.ref f_11)))
  (l_11:K.lookup f_11=some ⟨oc_11,od_11,.func (zcc1 "is_any_stream" "is_any_stream" (zb6 zg8) (zb2 zg8) (za5 zg8) .none kV_11 dc_11 pm_11 an_11 cd_11 ct_11),sl_11⟩)
  (c_11:zcb9 K cd_11 "is_any_stream"=true)
  (k_11:zcb5 K (.ref f_11)=true)
  (a_12:zca9 K mainGlobals "look_stream"=some (some (.ref f_12)))
  (l_12:K.lookup f_12=some ⟨oc_12,od_12,.func (zcc1 "look_stream" "look_stream" (zb6 zj0) (zb2 zj0) (za5 zj0) .none kV_12 dc_12 pm_12 an_12 cd_12 ct_12),sl_12⟩)
  (c_12:zcb9 K cd_12 "look_stream"=true)
  (k_12:zcb5 K (.ref f_12)=true)
  (a_13:zca9 K mainGlobals "row_more"=some (some (.ref f_13)))
  (l_13:K.lookup f_13=some ⟨oc_13,od_13,.func (zcc1 "row_more" "row_more" (zb6 zn9) (zb2 zn9) (za5 zn9) .none kV_13 dc_13 pm_13 an_13 cd_13 ct_13),sl_13⟩)
  (c_13:zcb9 K cd_13 "row_more"=true)
  (k_13:zcb5 K (.ref f_13)=true)
  (a_14:zca9 K mainGlobals "host_more"=some (some (.ref f_14)))
  (l_14:K.lookup f_14=some ⟨oc_14,od_14,.func (zcc1 "host_more" "host_more" (zb6 zm2) (zb2 zm2) (za5 zm2) .none kV_14 dc_14 pm_14 an_14 cd_14 ct_14),sl_14⟩)
  (c_14:zcb9 K cd_14 "host_more"=true)
  (k_14:zcb5 K (.ref f_14)=true)
  (a_15:zca9 K mainGlobals "_law_stirred"=some (some (.ref f_15)))
  (l_15:K.lookup f_15=some ⟨oc_15,od_15,.func (zcc1 "_law_stirred" "_law_stirred" (zb6 zi2) (zb2 zi2) (za5 zi2) .none kV_15 dc_15 pm_15 an_15 cd_15 ct_15),sl_15⟩)
  (c_15:zcb9 K cd_15 "_law_stirred"=true)
  (k_15:zcb5 K (.ref f_15)=true)
  (a_16:zca9 K mainGlobals "_law_opened"=some (some (.ref f_16)))
  (l_16:K.lookup f_16=some ⟨oc_16,od_16,.func (zcc1 "_law_opened" "_law_opened" (zb6 zj4) (zb2 zj4) (za5 zj4) .none kV_16 dc_16 pm_16 an_16 cd_16 ct_16),sl_16⟩)
  (c_16:zcb9 K cd_16 "_law_opened"=true)
  (k_16:zcb5 K (.ref f_16)=true)
  (a_17:zca9 K mainGlobals "_law_draw"=some (some (.ref f_17)))
  (l_17:K.lookup f_17=some ⟨oc_17,od_17,.func (zcc1 "_law_draw" "_law_draw" (zb6 zm7) (zb2 zm7) (za5 zm7) .none kV_17 dc_17 pm_17 an_17 cd_17 ct_17),sl_17⟩)
  (c_17:zcb9 K cd_17 "_law_draw"=true)
  (k_17:zcb5 K (.ref f_17)=true)
  (a_18:zca9 K mainGlobals "_law_drawn_plan"=some (some (.ref f_18)))
  (l_18:K.lookup f_18=some ⟨oc_18,od_18,.func (zcc1 "_law_drawn_plan" "_law_drawn_plan" (zb6 ze4) (zb2 ze4) (za5 ze4) .none kV_18 dc_18 pm_18 an_18 cd_18 ct_18),sl_18⟩)
  (c_18:zcb9 K cd_18 "_law_drawn_plan"=true)
  (k_18:zcb5 K (.ref f_18)=true)
  (a_19:zca9 K mainGlobals "_law_drawn_mix"=some (some (.ref f_19)))
  (l_19:K.lookup f_19=some ⟨oc_19,od_19,.func (zcc1 "_law_drawn_mix" "_law_drawn_mix" (zb6 zf5) (zb2 zf5) (za5 zf5) .none kV_19 dc_19 pm_19 an_19 cd_19 ct_19),sl_19⟩)
  (c_19:zcb9 K cd_19 "_law_drawn_mix"=true)
  (k_19:zcb5 K (.ref f_19)=true)
  (a_20:zca9 K mainGlobals "_law_flowing"=some (some (.ref f_20)))
  (l_20:K.lookup f_20=some ⟨oc_20,od_20,.func (zcc1 "_law_flowing" "_law_flowing" (zb6 zh8) (zb2 zh8) (za5 zh8) .none kV_20 dc_20 pm_20 an_20 cd_20 ct_20),sl_20⟩)
  (c_20:zcb9 K cd_20 "_law_flowing"=true)
  (k_20:zcb5 K (.ref f_20)=true)
  (a_21:zca9 K mainGlobals "_law_odd_one"=some (some (.ref f_21)))
  (l_21:K.lookup f_21=some ⟨oc_21,od_21,.func (zcc1 "_law_odd_one" "_law_odd_one" (zb6 zi1) (zb2 zi1) (za5 zi1) .none kV_21 dc_21 pm_21 an_21 cd_21 ct_21),sl_21⟩)
  (c_21:zcb9 K cd_21 "_law_odd_one"=true)
  (k_21:zcb5 K (.ref f_21)=true)
  (a_22:zca9 K mainGlobals "_law_bent_one"=some (some (.ref f_22)))
  (l_22:K.lookup f_22=some ⟨oc_22,od_22,.func (zcc1 "_law_bent_one" "_law_bent_one" (zb6 zg7) (zb2 zg7) (za5 zg7) .none kV_22 dc_22 pm_22 an_22 cd_22 ct_22),sl_22⟩)
  (c_22:zcb9 K cd_22 "_law_bent_one"=true)
  (k_22:zcb5 K (.ref f_22)=true)
  (a_23:zca9 K mainGlobals "_law_is_whole"=some (some (.ref f_23)))
  (l_23:K.lookup f_23=some ⟨oc_23,od_23,.func (zcc1 "_law_is_whole" "_law_is_whole" (zb6 zg6) (zb2 zg6) (za5 zg6) .none kV_23 dc_23 pm_23 an_23 cd_23 ct_23),sl_23⟩)
  (c_23:zcb9 K cd_23 "_law_is_whole"=true)
  (k_23:zcb5 K (.ref f_23)=true)
  (a_24:zca9 K mainGlobals "_law_is_row"=some (some (.ref f_24)))
  (l_24:K.lookup f_24=some ⟨oc_24,od_24,.func (zcc1 "_law_is_row" "_law_is_row" (zb6 zi9) (zb2 zi9) (za5 zi9) .none kV_24 dc_24 pm_24 an_24 cd_24 ct_24),sl_24⟩)
  (c_24:zcb9 K cd_24 "_law_is_row"=true)
  (k_24:zcb5 K (.ref f_24)=true)
  (a_25:zca9 K mainGlobals "_law_goes_on"=some (some (.ref f_25)))
  (l_25:K.lookup f_25=some ⟨oc_25,od_25,.func (zcc1 "_law_goes_on" "_law_goes_on" (zb6 zi0) (zb2 zi0) (za5 zi0) .none kV_25 dc_25 pm_25 an_25 cd_25 ct_25),sl_25⟩)
  (c_25:zcb9 K cd_25 "_law_goes_on"=true)
  (k_25:zcb5 K (.ref f_25)=true)
  (a_26:zca9 K mainGlobals "_law_is_stream"=some (some (.ref f_26)))
  (l_26:K.lookup f_26=some ⟨oc_26,od_26,.func (zcc1 "_law_is_stream" "_law_is_stream" (zb6 zf4) (zb2 zf4) (za5 zf4) .none kV_26 dc_26 pm_26 an_26 cd_26 ct_26),sl_26⟩)
  (c_26:zcb9 K cd_26 "_law_is_stream"=true)
  (k_26:zcb5 K (.ref f_26)=true)
  (a_27:zca9 K mainGlobals "_law_kind_of"=some (some (.ref f_27)))
  (l_27:K.lookup f_27=some ⟨oc_27,od_27,.func (zcc1 "_law_kind_of" "_law_kind_of" (zb6 zh7) (zb2 zh7) (za5 zh7) .none kV_27 dc_27 pm_27 an_27 cd_27 ct_27),sl_27⟩)
  (c_27:zcb9 K cd_27 "_law_kind_of"=true)
  (k_27:zcb5 K (.ref f_27)=true)
  (a_28:zca9 K mainGlobals "_law_grown"=some (some (.ref f_28)))
  (l_28:K.lookup f_28=some ⟨oc_28,od_28,.func (zcc1 "_law_grown" "_law_grown" (zb6 zk6) (zb2 zk6) (za5 zk6) .none kV_28 dc_28 pm_28 an_28 cd_28 ct_28),sl_28⟩)
  (c_28:zcb9 K cd_28 "_law_grown"=true)
  (k_28:zcb5 K (.ref f_28)=true)
  (a_29:zca9 K mainGlobals "_law_caught_by"=some (some (.ref f_29)))
  (l_29:K.lookup f_29=some ⟨oc_29,od_29,.func (zcc1 "_law_caught_by" "_law_caught_by" (zb6 zf6) (zb2 zf6) (za5 zf6) .none kV_29 dc_29 pm_29 an_29 cd_29 ct_29),sl_29⟩)
  (c_29:zcb9 K cd_29 "_law_caught_by"=true)
  (k_29:zcb5 K (.ref f_29)=true)
  (a_30:zca9 K mainGlobals "_law_marked"=some (some (.ref f_30)))
  (l_30:K.lookup f_30=some ⟨oc_30,od_30,.func (zcc1 "_law_marked" "_law_marked" (zb6 zj3) (zb2 zj3) (za5 zj3) .none kV_30 dc_30 pm_30 an_30 cd_30 ct_30),sl_30⟩)
  (c_30:zcb9 K cd_30 "_law_marked"=true)
  (k_30:zcb5 K (.ref f_30)=true)
  (a_31:zca9 K mainGlobals "_law_once"=some (some (.ref f_31)))
  (l_31:K.lookup f_31=some ⟨oc_31,od_31,.func (zcc1 "_law_once" "_law_once" (zb6 zm1) (zb2 zm1) (za5 zm1) .none kV_31 dc_31 pm_31 an_31 cd_31 ct_31),sl_31⟩)
  (c_31:zcb9 K cd_31 "_law_once"=true)
  (k_31:zcb5 K (.ref f_31)=true)
  (a_32:zca9 K mainGlobals "law"=some (some (.ref f_32)))
  (l_32:K.lookup f_32=some ⟨oc_32,od_32,.func (zcc1 "law" "law" (zb6 zai2) (zb2 zai2) (za5 zai2) .none kV_32 dc_32 pm_32 an_32 cd_32 ct_32),sl_32⟩)
  (c_32:zcb9 K cd_32 "law"=true)
  (k_32:zcb5 K (.ref f_32)=true)
  (z_ValueError:zca9 K mainGlobals "ValueError"=some none)
  (z_all:zca9 K mainGlobals "all"=some none)
  (z_bool:zca9 K mainGlobals "bool"=some none)
  (z_int:zca9 K mainGlobals "int"=some none)
  (z_isinstance:zca9 K mainGlobals "isinstance"=some none)
  (z_len:zca9 K mainGlobals "len"=some none)
  (z_list:zca9 K mainGlobals "list"=some none)
  (z_range:zca9 K mainGlobals "range"=some none)
  (z_sorted:zca9 K mainGlobals "sorted"=some none)
  (z_sum:zca9 K mainGlobals "sum"=some none)
  (z_tuple:zca9 K mainGlobals "tuple"=some none)
  (z_zip:zca9 K mainGlobals "zip"=some none)
  (e_HostError:zca9 K mainGlobals "HostError"=some (some (.ref zbt5)))
  (kk_HostError:zce0 K zbt5=some zby0)
  (tt_HostError:zce9 K (.ref zbt5)=some (.type "type"))
  (nn_HostError:zcb2 K (.type "NoneType") (.ref zbt5)=some false)
  (e_NoBattle:zca9 K mainGlobals "NoBattle"=some (some (.ref zbt6)))
  (kk_NoBattle:zce0 K zbt6=some zby3)
  (tt_NoBattle:zce9 K (.ref zbt6)=some (.type "type"))
  (nn_NoBattle:zcb2 K (.type "NoneType") (.ref zbt6)=some false)
  (e_NoPlan:zca9 K mainGlobals "NoPlan"=some (some (.ref zbt3)))
  (kk_NoPlan:zce0 K zbt3=some zby9)
  (tt_NoPlan:zce9 K (.ref zbt3)=some (.type "type"))
  (nn_NoPlan:zcb2 K (.type "NoneType") (.ref zbt3)=some false)
  (e_NoMix:zca9 K mainGlobals "NoMix"=some (some (.ref zbu6)))
  (kk_NoMix:zce0 K zbu6=some zbz4)
  (tt_NoMix:zce9 K (.ref zbu6)=some (.type "type"))
  (nn_NoMix:zcb2 K (.type "NoneType") (.ref zbu6)=some false)
  (e_NoStream:zca9 K mainGlobals "NoStream"=some (some (.ref zbt2)))
  (kk_NoStream:zce0 K zbt2=some zby4)
  (tt_NoStream:zce9 K (.ref zbt2)=some (.type "type"))
  (nn_NoStream:zcb2 K (.type "NoneType") (.ref zbt2)=some false)
  (e_NoSide:zca9 K mainGlobals "NoSide"=some (some (.ref zbu1)))
  (kk_NoSide:zce0 K zbu1=some zbz0)
  (tt_NoSide:zce9 K (.ref zbu1)=some (.type "type"))
  (nn_NoSide:zcb2 K (.type "NoneType") (.ref zbu1)=some false)
  (e_NoAlike:zca9 K mainGlobals "NoAlike"=some (some (.ref zbt9)))
  (kk_NoAlike:zce0 K zbt9=some zby7)
  (tt_NoAlike:zce9 K (.ref zbt9)=some (.type "type"))
  (nn_NoAlike:zcb2 K (.type "NoneType") (.ref zbt9)=some false)
  (e_NoNumber:zca9 K mainGlobals "NoNumber"=some (some (.ref zbt7)))
  (kk_NoNumber:zce0 K zbt7=some zby5)
  (tt_NoNumber:zce9 K (.ref zbt7)=some (.type "type"))
  (nn_NoNumber:zcb2 K (.type "NoneType") (.ref zbt7)=some false)
  (e_TooGreat:zca9 K mainGlobals "TooGreat"=some (some (.ref zbt8)))
  (kk_TooGreat:zce0 K zbt8=some zby6)
  (tt_TooGreat:zce9 K (.ref zbt8)=some (.type "type"))
  (nn_TooGreat:zcb2 K (.type "NoneType") (.ref zbt8)=some false)
  (e_NoEven:zca9 K mainGlobals "NoEven"=some (some (.ref zbu2)))
  (kk_NoEven:zce0 K zbu2=some zbz1)
  (tt_NoEven:zce9 K (.ref zbu2)=some (.type "type"))
  (nn_NoEven:zcb2 K (.type "NoneType") (.ref zbu2)=some false)
  (e_NoText:zca9 K mainGlobals "NoText"=some (some (.ref zbu3)))
  (kk_NoText:zce0 K zbu3=some zbz2)
  (tt_NoText:zce9 K (.ref zbu3)=some (.type "type"))
  (nn_NoText:zcb2 K (.type "NoneType") (.ref zbu3)=some false)
  (e_NoRow:zca9 K mainGlobals "NoRow"=some (some (.ref zbu7)))
  (kk_NoRow:zce0 K zbu7=some zbz5)
  (tt_NoRow:zce9 K (.ref zbu7)=some (.type "type"))
  (nn_NoRow:zcb2 K (.type "NoneType") (.ref zbu7)=some false)
  (e_NoName:zca9 K mainGlobals "NoName"=some (some (.ref zbu4)))
  (kk_NoName:zce0 K zbu4=some zbz3)
  (tt_NoName:zce9 K (.ref zbu4)=some (.type "type"))
  (nn_NoName:zcb2 K (.type "NoneType") (.ref zbu4)=some false)
  (e_NoPlace:zca9 K mainGlobals "NoPlace"=some (some (.ref zbu0)))
  (kk_NoPlace:zce0 K zbu0=some zby8)
  (tt_NoPlace:zce9 K (.ref zbu0)=some (.type "type"))
  (nn_NoPlace:zcb2 K (.type "NoneType") (.ref zbu0)=some false)
  (bb_HostError:zcb2 K (.ref zbt5) (.type "BaseException")=some true)
  (x_NoStream:PySem.W.excIn K zbt2 bmV newV=true)
  (f1_NoStream:zcf5 K (.ref zbt2) "__getattribute__"=some (some (.builtin "BaseException.__getattribute__")))
  (f2_NoStream:zcf5 K (.ref zbt2) "__getattr__"=some none)
  (f3_NoStream:zcf5 K (.ref zbt2) "__class__"=some (some (.builtin "object.__class__")))
  (f4_NoStream:zcb2 K (.ref zbt2) (.type "BaseException")=some true)
  (f5_NoStream:PySem.W.mroIn K zbt2 (.type "object")=some true)
  (f6_NoStream:zcb2 K (.ref zbt2) (.type "ValueError")=some true)
  (s_NoStream_HostError:zcb2 K (.ref zbt2) (.ref zbt5)=some true)
  (s_NoStream_NoBattle:zcb2 K (.ref zbt2) (.ref zbt6)=some false)
  (s_NoStream_NoPlan:zcb2 K (.ref zbt2) (.ref zbt3)=some false)
  (s_NoStream_NoMix:zcb2 K (.ref zbt2) (.ref zbu6)=some false)
  (s_NoStream_NoStream:zcb2 K (.ref zbt2) (.ref zbt2)=some true)
  (s_NoStream_NoSide:zcb2 K (.ref zbt2) (.ref zbu1)=some false)
  (s_NoStream_NoAlike:zcb2 K (.ref zbt2) (.ref zbt9)=some false)
  (s_NoStream_NoNumber:zcb2 K (.ref zbt2) (.ref zbt7)=some false)
  (s_NoStream_TooGreat:zcb2 K (.ref zbt2) (.ref zbt8)=some false)
  (s_NoStream_NoEven:zcb2 K (.ref zbt2) (.ref zbu2)=some false)
  (s_NoStream_NoText:zcb2 K (.ref zbt2) (.ref zbu3)=some false)
  (s_NoStream_NoRow:zcb2 K (.ref zbt2) (.ref zbu7)=some false)
  (s_NoStream_NoName:zcb2 K (.ref zbt2) (.ref zbu4)=some false)
  (s_NoStream_NoPlace:zcb2 K (.ref zbt2) (.ref zbu0)=some false)
  (x_NoPlan:PySem.W.excIn K zbt3 bmV newV=true)
  (f1_NoPlan:zcf5 K (.ref zbt3) "__getattribute__"=some (some (.builtin "BaseException.__getattribute__")))
  (f2_NoPlan:zcf5 K (.ref zbt3) "__getattr__"=some none)
  (f3_NoPlan:zcf5 K (.ref zbt3) "__class__"=some (some (.builtin "object.__class__")))
  (f4_NoPlan:zcb2 K (.ref zbt3) (.type "BaseException")=some true)
  (f5_NoPlan:PySem.W.mroIn K zbt3 (.type "object")=some true)
  (f6_NoPlan:zcb2 K (.ref zbt3) (.type "ValueError")=some true)
  (s_NoPlan_HostError:zcb2 K (.ref zbt3) (.ref zbt5)=some true)
  (s_NoPlan_NoBattle:zcb2 K (.ref zbt3) (.ref zbt6)=some false)
  (s_NoPlan_NoPlan:zcb2 K (.ref zbt3) (.ref zbt3)=some true)
  (s_NoPlan_NoMix:zcb2 K (.ref zbt3) (.ref zbu6)=some false)
  (s_NoPlan_NoStream:zcb2 K (.ref zbt3) (.ref zbt2)=some false)
  (s_NoPlan_NoSide:zcb2 K (.ref zbt3) (.ref zbu1)=some false)
  (s_NoPlan_NoAlike:zcb2 K (.ref zbt3) (.ref zbt9)=some false)
  (s_NoPlan_NoNumber:zcb2 K (.ref zbt3) (.ref zbt7)=some false)
  (s_NoPlan_TooGreat:zcb2 K (.ref zbt3) (.ref zbt8)=some false)
  (s_NoPlan_NoEven:zcb2 K (.ref zbt3) (.ref zbu2)=some false)
  (s_NoPlan_NoText:zcb2 K (.ref zbt3) (.ref zbu3)=some false)
  (s_NoPlan_NoRow:zcb2 K (.ref zbt3) (.ref zbu7)=some false)
  (s_NoPlan_NoName:zcb2 K (.ref zbt3) (.ref zbu4)=some false)
  (s_NoPlan_NoPlace:zcb2 K (.ref zbt3) (.ref zbu0)=some false) :
  ∃ fd:FuncData,(∀ (s:Shared) (v:Value),BindsTo s fd ⟨[v],[]⟩ [("_law_script",v)])/\∀ base:Heap,K.In base->base.Ns mainGlobals mg->FnOk l.prog w K mg base CX0 12 fa fd ["_law_script"] (spLaw K):=by
 have e:=hfa.symm.trans (zcb0 X G a_32)
 cases e
 have N:Nm mg:=⟨zce4 X G z_ValueError,zce4 X G z_all,zce4 X G z_bool,zce4 X G z_int,zce4 X G z_isinstance,zce4 X G z_len,zce4 X G z_list,zce4 X G z_range,zce4 X G z_sorted,zce4 X G z_sum,zce4 X G z_tuple,zce4 X G z_zip⟩
 have zby1:=zcb0 X G e_MOST_HOSTS
 have zbx9:=zcb0 X G e_MOST_FIELDS
 have F_0:=ze3 (st:=zo1) l_0 c_0 k_0
 have F_1:=ze3 (st:=zq3) l_1 c_1 k_1
 have F_2:=ze3 (st:=zk5) l_2 c_2 k_2
 have F_3:=ze3 (st:=zq1) l_3 c_3 k_3
 have F_4:=ze3 (st:=zq2) l_4 c_4 k_4
 have F_5:=ze3 (st:=zs9) l_5 c_5 k_5
 have F_6:=ze3 (st:=zs8) l_6 c_6 k_6
 have F_7:=ze3 (st:=zt2) l_7 c_7 k_7
 have F_8:=ze3 (st:=zw5) l_8 c_8 k_8
 have F_9:=ze3 (st:=zl9) l_9 c_9 k_9
 have F_10:=ze3 (st:=zo2) l_10 c_10 k_10
 have F_11:=ze3 (st:=zg8) l_11 c_11 k_11
 have F_12:=ze3 (st:=zj0) l_12 c_12 k_12
 have F_13:=ze3 (st:=zn9) l_13 c_13 k_13
 have F_14:=ze3 (st:=zm2) l_14 c_14 k_14
 have F_15:=ze3 (st:=zi2) l_15 c_15 k_15
 have F_16:=ze3 (st:=zj4) l_16 c_16 k_16
 have F_17:=ze3 (st:=zm7) l_17 c_17 k_17
 have F_18:=ze3 (st:=ze4) l_18 c_18 k_18
 have F_19:=ze3 (st:=zf5) l_19 c_19 k_19
 have F_20:=ze3 (st:=zh8) l_20 c_20 k_20
 have F_21:=ze3 (st:=zi1) l_21 c_21 k_21
 have F_22:=ze3 (st:=zg7) l_22 c_22 k_22
 have F_23:=ze3 (st:=zg6) l_23 c_23 k_23
 have F_24:=ze3 (st:=zi9) l_24 c_24 k_24
 have F_25:=ze3 (st:=zi0) l_25 c_25 k_25
 have F_26:=ze3 (st:=zf4) l_26 c_26 k_26
 have F_27:=ze3 (st:=zh7) l_27 c_27 k_27
 have F_28:=ze3 (st:=zk6) l_28 c_28 k_28
 have F_29:=ze3 (st:=zf6) l_29 c_29 k_29
 have F_30:=ze3 (st:=zj3) l_30 c_30 k_30
 have F_31:=ze3 (st:=zm1) l_31 c_31 k_31
 have F_32:=ze3 (st:=zai2) l_32 c_32 k_32
 refine⟨zcc1 "law" "law" (zb6 zai2) (zb2 zai2) (za5 zai2) .none kV_32 dc_32 pm_32 an_32 cd_32 ct_32,fun s v=>.of_eq rfl,fun base XB GB=>?_⟩
 have Z:Cz K mg base zbt5 zbt6 zbt3 zbu6 zbt2 zbu1 zbt9 zbt7 zbt8 zbu2 zbu3 zbu7 zbu4 zbu0:=⟨zcb0 X G e_HostError,zcb0 X G e_NoBattle,zcb0 X G e_NoPlan,zcb0 X G e_NoMix,zcb0 X G e_NoStream,zcb0 X G e_NoSide,zcb0 X G e_NoAlike,zcb0 X G e_NoNumber,zcb0 X G e_TooGreat,zcb0 X G e_NoEven,zcb0 X G e_NoText,zcb0 X G e_NoRow,zcb0 X G e_NoName,zcb0 X G e_NoPlace,zas2 XB GB e_NoStream x_NoStream,⟨f1_NoStream,f2_NoStream,f3_NoStream,f4_NoStream,f5_NoStream⟩,by rw[kk_NoStream];rfl,zaz1 bb_HostError kk_HostError tt_HostError s_NoStream_HostError,zu1 f6_NoStream,zd0 kk_HostError tt_HostError s_NoStream_HostError s_NoStream_NoStream,zd0 kk_NoBattle tt_NoBattle s_NoStream_NoBattle s_NoStream_NoStream,zd0 kk_NoPlan tt_NoPlan s_NoStream_NoPlan s_NoStream_NoStream,zd0 kk_NoMix tt_NoMix s_NoStream_NoMix s_NoStream_NoStream,zd0 kk_NoStream tt_NoStream s_NoStream_NoStream s_NoStream_NoStream,zd0 kk_NoSide tt_NoSide s_NoStream_NoSide s_NoStream_NoStream,zd0 kk_NoAlike tt_NoAlike s_NoStream_NoAlike s_NoStream_NoStream,zd0 kk_NoNumber tt_NoNumber s_NoStream_NoNumber s_NoStream_NoStream,zd0 kk_TooGreat tt_TooGreat s_NoStream_TooGreat s_NoStream_NoStream,zd0 kk_NoEven tt_NoEven s_NoStream_NoEven s_NoStream_NoStream,zd0 kk_NoText tt_NoText s_NoStream_NoText s_NoStream_NoStream,zd0 kk_NoRow tt_NoRow s_NoStream_NoRow s_NoStream_NoStream,zd0 kk_NoName tt_NoName s_NoStream_NoName s_NoStream_NoStream,zd0 kk_NoPlace tt_NoPlace s_NoStream_NoPlace s_NoStream_NoStream,zas2 XB GB e_NoPlan x_NoPlan,⟨f1_NoPlan,f2_NoPlan,f3_NoPlan,f4_NoPlan,f5_NoPlan⟩,by rw[kk_NoPlan];rfl,zaz1 bb_HostError kk_HostError tt_HostError s_NoPlan_HostError,zu1 f6_NoPlan,zd0 kk_HostError tt_HostError s_NoPlan_HostError s_NoPlan_NoPlan,zd0 kk_NoBattle tt_NoBattle s_NoPlan_NoBattle s_NoPlan_NoPlan,zd0 kk_NoPlan tt_NoPlan s_NoPlan_NoPlan s_NoPlan_NoPlan,zd0 kk_NoMix tt_NoMix s_NoPlan_NoMix s_NoPlan_NoPlan,zd0 kk_NoStream tt_NoStream s_NoPlan_NoStream s_NoPlan_NoPlan,zd0 kk_NoSide tt_NoSide s_NoPlan_NoSide s_NoPlan_NoPlan,zd0 kk_NoAlike tt_NoAlike s_NoPlan_NoAlike s_NoPlan_NoPlan,zd0 kk_NoNumber tt_NoNumber s_NoPlan_NoNumber s_NoPlan_NoPlan,zd0 kk_TooGreat tt_TooGreat s_NoPlan_TooGreat s_NoPlan_NoPlan,zd0 kk_NoEven tt_NoEven s_NoPlan_NoEven s_NoPlan_NoPlan,zd0 kk_NoText tt_NoText s_NoPlan_NoText s_NoPlan_NoPlan,zd0 kk_NoRow tt_NoRow s_NoPlan_NoRow s_NoPlan_NoPlan,zd0 kk_NoName tt_NoName s_NoPlan_NoName s_NoPlan_NoPlan,zd0 kk_NoPlace tt_NoPlace s_NoPlan_NoPlace s_NoPlan_NoPlan,zi5 kk_HostError tt_HostError nn_HostError,zi5 kk_NoBattle tt_NoBattle nn_NoBattle,zi5 kk_NoPlan tt_NoPlan nn_NoPlan,zi5 kk_NoMix tt_NoMix nn_NoMix,zi5 kk_NoStream tt_NoStream nn_NoStream,zi5 kk_NoSide tt_NoSide nn_NoSide,zi5 kk_NoAlike tt_NoAlike nn_NoAlike,zi5 kk_NoNumber tt_NoNumber nn_NoNumber,zi5 kk_TooGreat tt_TooGreat nn_TooGreat,zi5 kk_NoEven tt_NoEven nn_NoEven,zi5 kk_NoText tt_NoText nn_NoText,zi5 kk_NoRow tt_NoRow nn_NoRow,zi5 kk_NoName tt_NoName nn_NoName,zi5 kk_NoPlace tt_NoPlace nn_NoPlace⟩
 have zbx5:Def l.prog w K mg base CX0 1 "is_whole" ["thing"] zk1:=⟨⟨_,_,zap4 (P:=l.prog) (w:=w) (base:=base) F_0 N ,zcb0 X G a_0,k_0,F_0.binds fun _ _ _ _ _ _ us hl=>match us,hl with | [_],_=>rfl⟩⟩
 have zbv7:Def l.prog w K mg base CX0 2 "is_from" ["thing","least"] zk8:=⟨⟨_,_,zaw5 (P:=l.prog) (w:=w) (base:=base) F_1 N zbx5,zcb0 X G a_1,k_1,F_1.binds fun _ _ _ _ _ _ us hl=>match us,hl with | [_,_],_=>rfl⟩⟩
 have zbu5:Def l.prog w K mg base CX0 3 "is_between" ["thing","least","most"] zd6:=⟨⟨_,_,zai7 (P:=l.prog) (w:=w) (base:=base) F_2 N zbv7,zcb0 X G a_2,k_2,F_2.binds fun _ _ _ _ _ _ us hl=>match us,hl with | [_,_,_],_=>rfl⟩⟩
 have zbx8:Def l.prog w K mg base CX0 4 "is_size" ["hosts","fields"] zm3:=⟨⟨_,_,zau1 (P:=l.prog) (w:=w) (base:=base) F_3 N zbx9 zby1 zbu5,zcb0 X G a_3,k_3,F_3.binds fun _ _ _ _ _ _ us hl=>match us,hl with | [_,_],_=>rfl⟩⟩
 have zbx7:Def l.prog w K mg base CX0 4 "is_flow" ["thing"] zm4:=⟨⟨_,_,zau4 (P:=l.prog) (w:=w) (base:=base) F_4 N zbu5 zbv7,zcb0 X G a_4,k_4,F_4.binds fun _ _ _ _ _ _ us hl=>match us,hl with | [_],_=>rfl⟩⟩
 have zbx0:Def l.prog w K mg base CX0 5 "is_row" ["row"] zn0:=⟨⟨_,_,zbd5 (P:=l.prog) (w:=w) (base:=base) F_5 N zbx7,zcb0 X G a_5,k_5,F_5.binds fun _ _ _ _ _ _ us hl=>match us,hl with | [_],_=>rfl⟩⟩
 have zbx1:Def l.prog w K mg base CX0 6 "begins" ["stream"] zn2:=⟨⟨_,_,zba3 (P:=l.prog) (w:=w) (base:=base) F_6 N zbx0,zcb0 X G a_6,k_6,F_6.binds fun _ _ _ _ _ _ us hl=>match us,hl with | [_],_=>rfl⟩⟩
 have zbx6:Def l.prog w K mg base CX0 1 "summed" ["pairs"] zo8:=⟨⟨_,_,zax8 (P:=l.prog) (w:=w) (base:=base) F_7 N ,zcb0 X G a_7,k_7,F_7.binds fun _ _ _ _ _ _ us hl=>match us,hl with | [_],_=>rfl⟩⟩
 have zby2:Def l.prog w K mg base CX0 2 "meets" ["ahead","row"] zq6:=⟨⟨_,_,zbh9 (P:=l.prog) (w:=w) (base:=base) F_8 N zbx6,zcb0 X G a_8,k_8,F_8.binds fun _ _ _ _ _ _ us hl=>match us,hl with | [_,_],_=>rfl⟩⟩
 have zbx4:Def l.prog w K mg base CX0 7 "is_stream" ["hosts","fields","stream"] zi8:=⟨⟨_,_,zak4 (P:=l.prog) (w:=w) (base:=base) F_9 N zbx1 zbx0 zby2,zcb0 X G a_9,k_9,F_9.binds fun _ _ _ _ _ _ us hl=>match us,hl with | [_,_,_],_=>rfl⟩⟩
 have zbx2:Def l.prog w K mg base CX0 1 "hosts_in" ["stream"] zk2:=⟨⟨_,_,zap5 (P:=l.prog) (w:=w) (base:=base) F_10 N ,zcb0 X G a_10,k_10,F_10.binds fun _ _ _ _ _ _ us hl=>match us,hl with | [_],_=>rfl⟩⟩
 have zbv8:Def l.prog w K mg base CX0 8 "is_any_stream" ["stream"] ze2:=⟨⟨_,_,zy4 (P:=l.prog) (w:=w) (base:=base) F_11 N zbx1 zbx2 zbx8 zbx4,zcb0 X G a_11,k_11,F_11.binds fun _ _ _ _ _ _ us hl=>match us,hl with | [_],_=>rfl⟩⟩
 have zbw7:Def l.prog w K mg base (CXR l.prog w) 9 "look_stream" ["stream"] (zg0 zbt2):=⟨⟨_,_,zad5 (P:=l.prog) (w:=w) (base:=base) F_12 N zbv8 Z,zcb0 X G a_12,k_12,F_12.binds fun _ _ _ _ _ _ us hl=>match us,hl with | [_],_=>rfl⟩⟩
 have zbx3:Def l.prog w K mg base CX0 1 "row_more" ["row","sent_more"] zk3:=⟨⟨_,_,zap6 (P:=l.prog) (w:=w) (base:=base) F_13 N ,zcb0 X G a_13,k_13,F_13.binds fun _ _ _ _ _ _ us hl=>match us,hl with | [_,_],_=>rfl⟩⟩
 have zbv1:Def l.prog w K mg base (CXR l.prog w) 10 "host_more" ["stream","field"] (zc9 zbt2 zbt3):=⟨⟨_,_,zaj6 (P:=l.prog) (w:=w) (base:=base) F_14 N zbu5 zbw7 zbx3 Z,zcb0 X G a_14,k_14,F_14.binds fun _ _ _ _ _ _ us hl=>match us,hl with | [_,_],_=>rfl⟩⟩
 have zbw3:Def l.prog w K mg base CX0 1 "_law_stirred" ["_law_number","_law_k"] zf1:=⟨⟨_,_,zac4 (P:=l.prog) (w:=w) (base:=base) F_15 N ,zcb0 X G a_15,k_15,F_15.binds fun _ _ _ _ _ _ us hl=>match us,hl with | [_,_],_=>rfl⟩⟩
 have zbw9:Def l.prog w K mg base CX0 1 "_law_opened" ["_law_cell"] zf9:=⟨⟨_,_,zae2 (P:=l.prog) (w:=w) (base:=base) F_16 N ,zcb0 X G a_16,k_16,F_16.binds fun _ _ _ _ _ _ us hl=>match us,hl with | [_],_=>rfl⟩⟩
 have zbt4:Def l.prog w K mg base CX0 2 "_law_draw" ["_law_left","_law_base"] zd7:=⟨⟨_,_,zaj5 (P:=l.prog) (w:=w) (base:=base) F_17 N zbw3,zcb0 X G a_17,k_17,F_17.binds fun _ _ _ _ _ _ us hl=>match us,hl with | [_,_],_=>rfl⟩⟩
 have zbv4:Def l.prog w K mg base CX0 3 "_law_drawn_plan" ["_law_left","_law_hosts","_law_many"] zc8:=⟨⟨_,_,zw1 (P:=l.prog) (w:=w) (base:=base) F_18 N zbt4,zcb0 X G a_18,k_18,F_18.binds fun _ _ _ _ _ _ us hl=>match us,hl with | [_,_,_],_=>rfl⟩⟩
 have zbv2:Def l.prog w K mg base CX0 4 "_law_drawn_mix" ["_law_left","_law_hosts","_law_many","_law_most"] zd1:=⟨⟨_,_,zx1 (P:=l.prog) (w:=w) (base:=base) F_19 N zbt4 zbv4,zcb0 X G a_19,k_19,F_19.binds fun _ _ _ _ _ _ us hl=>match us,hl with | [_,_,_,_],_=>rfl⟩⟩
 have zbv0:Def l.prog w K mg base CX0 1 "_law_flowing" ["_law_mix"] ze8:=⟨⟨_,_,zac2 (P:=l.prog) (w:=w) (base:=base) F_20 N ,zcb0 X G a_20,k_20,F_20.binds fun _ _ _ _ _ _ us hl=>match us,hl with | [_],_=>rfl⟩⟩
 have zbu9:Def l.prog w K mg base CX0 3 "_law_odd_one" ["_law_left"] ze9:=⟨⟨_,_,zac3 (P:=l.prog) (w:=w) (base:=base) F_21 N zbt4,zcb0 X G a_21,k_21,F_21.binds fun _ _ _ _ _ _ us hl=>match us,hl with | [_],_=>rfl⟩⟩
 have zbw0:Def l.prog w K mg base CX0 4 "_law_bent_one" ["_law_left","_law_stream"] ze1:=⟨⟨_,_,zz0 (P:=l.prog) (w:=w) (base:=base) F_22 N zbt4 zbu9,zcb0 X G a_22,k_22,F_22.binds fun _ _ _ _ _ _ us hl=>match us,hl with | [_,_],_=>rfl⟩⟩
 have zbv9:Def l.prog w K mg base CX0 1 "_law_is_whole" ["_law_one"] ze0:=⟨⟨_,_,zy6 (P:=l.prog) (w:=w) (base:=base) F_23 N ,zcb0 X G a_23,k_23,F_23.binds fun _ _ _ _ _ _ us hl=>match us,hl with | [_],_=>rfl⟩⟩
 have zbw8:Def l.prog w K mg base CX0 2 "_law_is_row" ["_law_row"] zf8:=⟨⟨_,_,zad9 (P:=l.prog) (w:=w) (base:=base) F_24 N zbv9,zcb0 X G a_24,k_24,F_24.binds fun _ _ _ _ _ _ us hl=>match us,hl with | [_],_=>rfl⟩⟩
 have zbw4:Def l.prog w K mg base CX0 1 "_law_goes_on" ["_law_row","_law_ahead"] zf0:=⟨⟨_,_,zab7 (P:=l.prog) (w:=w) (base:=base) F_25 N ,zcb0 X G a_25,k_25,F_25.binds fun _ _ _ _ _ _ us hl=>match us,hl with | [_,_],_=>rfl⟩⟩
 have zbv5:Def l.prog w K mg base CX0 3 "_law_is_stream" ["_law_thing"] zd2:=⟨⟨_,_,zx2 (P:=l.prog) (w:=w) (base:=base) F_26 N zbw4 zbw8,zcb0 X G a_26,k_26,F_26.binds fun _ _ _ _ _ _ us hl=>match us,hl with | [_],_=>rfl⟩⟩
 have zbw5:Def l.prog w K mg base CX0 1 "_law_kind_of" ["_law_caught"] (zb9 zbt2 zbt3):=⟨⟨_,_,zaa5 (P:=l.prog) (w:=w) (base:=base) F_27 N Z,zcb0 X G a_27,k_27,F_27.binds fun _ _ _ _ _ _ us hl=>match us,hl with | [_],_=>rfl⟩⟩
 have zbw1:Def l.prog w K mg base CX0 1 "_law_grown" ["_law_mix","_law_field"] zh2:=⟨⟨_,_,zah7 (P:=l.prog) (w:=w) (base:=base) F_28 N ,zcb0 X G a_28,k_28,F_28.binds fun _ _ _ _ _ _ us hl=>match us,hl with | [_,_],_=>rfl⟩⟩
 have zbu8:Def l.prog w K mg base CX0 11 "_law_caught_by" ["_law_stream","_law_field"] zd3:=⟨⟨_,_,zw3 (P:=l.prog) (w:=w) (base:=base) F_29 N zbw5 zbv1 Z,zcb0 X G a_29,k_29,F_29.binds fun _ _ _ _ _ _ us hl=>match us,hl with | [_,_],_=>rfl⟩⟩
 have zbv3:Def l.prog w K mg base CX0 7 "_law_marked" ["_law_thing"] zh9:=⟨⟨_,_,zad8 (P:=l.prog) (w:=w) (base:=base) F_30 N  (zcb0 X G a_30) k_30 (F_30.binds fun _ _ _ _ _ _ us hl=>match us,hl with | [_],_=>rfl),zcb0 X G a_30,k_30,F_30.binds fun _ _ _ _ _ _ us hl=>match us,hl with | [_],_=>rfl⟩⟩
 have zbv6:Def l.prog w K mg base CX0 7 "_law_once" ["_law_thing"] zk4:=⟨⟨_,_,zak7 (P:=l.prog) (w:=w) (base:=base) F_31 N  (zcb0 X G a_31) k_31 (F_31.binds fun _ _ _ _ _ _ us hl=>match us,hl with | [_],_=>rfl),zcb0 X G a_31,k_31,F_31.binds fun _ _ _ _ _ _ us hl=>match us,hl with | [_],_=>rfl⟩⟩
 exact ok_law (P:=l.prog) (w:=w) (base:=base) F_32 N zbw0 zbu8 zbt4 zbv2 zbv0 zbw1 zbv5 zbv3 zbv6 zbw9 zbv1
theorem walk {l:PySem.W.OpenLaw}{q:Program}{loose:List Str}{XP:(Str->Option Value)->Heap->Prop}{YP:World->Heap->Prop}{d:DefRec}{K:Params->zbz8}(hn:l.most=some 63) (hdf:d.params.defaults=[])
  (hY:∀ (w:World) (h:Heap),YP w h->(K w.params).In h)
  (F:∀ (w:World) (mg:Str->Option Value) (fa:Addr) (h:Heap),(K w.params).In h->h.Ns mainGlobals mg->mg d.name=some (.ref fa) ->
   ∃ fd:FuncData,(∀ (s:Shared) (u:Value),BindsTo s fd ⟨[u],[]⟩ [("_law_script",u)])/\∀ base:Heap,(K w.params).In base->base.Ns mainGlobals mg->FnOk l.prog w (K w.params) mg base CX0 12 fa fd ["_law_script"] (spLaw (K w.params))) :
  PySem.W.WalkO q loose XP YP l.row.toRowW d [] (fun f vs=>PySem.call f vs):=
 L2.walk_of (n:=63) (k:=12) (x:="_law_script") (CX:=fun _=>CX0) (sp:=fun w=>spLaw (K w.params)) hn (by decide) hdf ⟨rfl,by decide,by decide,rfl⟩ hY F (fun _ _ a ns hl _ hS=>⟨a,ns,rfl,hS,hl,fun _=>rfl⟩) fun _ _ _ _ _ z=>z
end G
theorem PySem.W.Fast.tw13097320653623961337 : True := trivial
theorem PySem.W.Fast.tw3659989657285735288 : True := trivial
theorem PySem.W.Fast.tw2124381916658268369 : True := trivial
theorem PySem.W.Fast.tw16653219132758558042 : True := trivial
theorem PySem.W.Fast.tw17920627521545331109 : True := trivial
theorem PySem.W.Fast.tw17099860991132327402 : True := trivial
theorem PySem.W.Fast.tw10651064969590289683 : True := trivial
theorem PySem.W.Fast.tw12554870891866360912 : True := trivial
theorem PySem.W.Fast.tw5236874934709996377 : True := trivial
theorem PySem.W.Fast.tw12307547198934041468 : True := trivial
theorem PySem.W.Fast.tw1649866056346853382 : True := trivial
theorem PySem.W.Fast.tw12474891837369264222 : True := trivial
theorem PySem.W.Fast.tw14369601879207698880 : True := trivial
theorem PySem.W.Fast.tw16243308745079770985 : True := trivial
theorem PySem.W.Fast.tw10055143239589448278 : True := trivial
theorem PySem.W.Fast.tw4216532672649338132 : True := trivial
theorem PySem.W.Fast.tw15562757813728933967 : True := trivial
theorem PySem.W.Fast.tw10083273475660844904 : True := trivial
theorem PySem.W.Fast.tw11204364932581318864 : True := trivial
theorem PySem.W.Fast.tw15264436589683980476 : True := trivial
theorem PySem.W.Fast.tw12229109738457441669 : True := trivial
open PySem PySem.W PyProof.Rows
set_option maxRecDepth 100000 in
set_option maxHeartbeats 0 in
theorem PySem.Challenge.cw_hostfields_k68_a_host_more_holds : PySem.Challenge.rw_hostfields_k68_a_host_more.Holds := by
 w_on;o_law;k_head;(case hw=>w_witness2)
 k_fill
 first|refine G.walk (l:=PySem.Challenge.rw_hostfields_k68_a_host_more) rfl rfl (fun w h Y=>PySem.W.kIn_of Y) ?F|refine G.walk (l:=PySem.Challenge.rw_hostfields_k68_a_host_more) rfl rfl (fun w h Y=>PySem.W.km_in_of Y) ?F
 case F=>
  intro w mg fa h KX GG hmg
  refine' G.all_mk KX GG hmg ?e_MOST_HOSTS ?e_MOST_FIELDS ?a_0 ?l_0 ?c_0 ?k_0 ?a_1 ?l_1 ?c_1 ?k_1 ?a_2 ?l_2 ?c_2 ?k_2 ?a_3 ?l_3 ?c_3 ?k_3 ?a_4 ?l_4 ?c_4 ?k_4 ?a_5 ?l_5 ?c_5 ?k_5 ?a_6 ?l_6 ?c_6 ?k_6 ?a_7 ?l_7 ?c_7 ?k_7 ?a_8 ?l_8 ?c_8 ?k_8 ?a_9 ?l_9 ?c_9 ?k_9 ?a_10 ?l_10 ?c_10 ?k_10 ?a_11 ?l_11 ?c_11 ?k_11 ?a_12 ?l_12 ?c_12 ?k_12 ?a_13 ?l_13 ?c_13 ?k_13 ?a_14 ?l_14 ?c_14 ?k_14 ?a_15 ?l_15 ?c_15 ?k_15 ?a_16 ?l_16 ?c_16 ?k_16 ?a_17 ?l_17 ?c_17 ?k_17 ?a_18 ?l_18 ?c_18 ?k_18 ?a_19 ?l_19 ?c_19 ?k_19 ?a_20 ?l_20 ?c_20 ?k_20 ?a_21 ?l_21 ?c_21 ?k_21 ?a_22 ?l_22 ?c_22 ?k_22 ?a_23 ?l_23 ?c_23 ?k_23 ?a_24 ?l_24 ?c_24 ?k_24 ?a_25 ?l_25 ?c_25 ?k_25 ?a_26 ?l_26 ?c_26 ?k_26 ?a_27 ?l_27 ?c_27 ?k_27 ?a_28 ?l_28 ?c_28 ?k_28 ?a_29 ?l_29 ?c_29 ?k_29 ?a_30 ?l_30 ?c_30 ?k_30 ?a_31 ?l_31 ?c_31 ?k_31 ?a_32 ?l_32 ?c_32 ?k_32 ?z_ValueError ?z_all ?z_bool ?z_int ?z_isinstance ?z_len ?z_list ?z_range ?z_sorted ?z_sum ?z_tuple ?z_zip ?e_HostError ?kk_HostError ?tt_HostError ?nn_HostError ?e_NoBattle ?kk_NoBattle ?tt_NoBattle ?nn_NoBattle ?e_NoPlan ?kk_NoPlan ?tt_NoPlan ?nn_NoPlan ?e_NoMix ?kk_NoMix ?tt_NoMix ?nn_NoMix ?e_NoStream ?kk_NoStream ?tt_NoStream ?nn_NoStream ?e_NoSide ?kk_NoSide ?tt_NoSide ?nn_NoSide ?e_NoAlike ?kk_NoAlike ?tt_NoAlike ?nn_NoAlike ?e_NoNumber ?kk_NoNumber ?tt_NoNumber ?nn_NoNumber ?e_TooGreat ?kk_TooGreat ?tt_TooGreat ?nn_TooGreat ?e_NoEven ?kk_NoEven ?tt_NoEven ?nn_NoEven ?e_NoText ?kk_NoText ?tt_NoText ?nn_NoText ?e_NoRow ?kk_NoRow ?tt_NoRow ?nn_NoRow ?e_NoName ?kk_NoName ?tt_NoName ?nn_NoName ?e_NoPlace ?kk_NoPlace ?tt_NoPlace ?nn_NoPlace ?bb_HostError ?x_NoStream ?f1_NoStream ?f2_NoStream ?f3_NoStream ?f4_NoStream ?f5_NoStream ?f6_NoStream ?s_NoStream_HostError ?s_NoStream_NoBattle ?s_NoStream_NoPlan ?s_NoStream_NoMix ?s_NoStream_NoStream ?s_NoStream_NoSide ?s_NoStream_NoAlike ?s_NoStream_NoNumber ?s_NoStream_TooGreat ?s_NoStream_NoEven ?s_NoStream_NoText ?s_NoStream_NoRow ?s_NoStream_NoName ?s_NoStream_NoPlace ?x_NoPlan ?f1_NoPlan ?f2_NoPlan ?f3_NoPlan ?f4_NoPlan ?f5_NoPlan ?f6_NoPlan ?s_NoPlan_HostError ?s_NoPlan_NoBattle ?s_NoPlan_NoPlan ?s_NoPlan_NoMix ?s_NoPlan_NoStream ?s_NoPlan_NoSide ?s_NoPlan_NoAlike ?s_NoPlan_NoNumber ?s_NoPlan_TooGreat ?s_NoPlan_NoEven ?s_NoPlan_NoText ?s_NoPlan_NoRow ?s_NoPlan_NoName ?s_NoPlan_NoPlace
  (case e_MOST_HOSTS=>k_is)
  (case e_MOST_FIELDS=>k_is)
  (case a_0=>k_is)
  (case l_0=>k_is)
  (case c_0=>k_is)
  (case k_0=>k_is)
  (case a_1=>k_is)
  (case l_1=>k_is)
  (case c_1=>k_is)
  (case k_1=>k_is)
  (case a_2=>k_is)
  (case l_2=>k_is)
  (case c_2=>k_is)
  (case k_2=>k_is)
  (case a_3=>k_is)
  (case l_3=>k_is)
  (case c_3=>k_is)
  (case k_3=>k_is)
  (case a_4=>k_is)
  (case l_4=>k_is)
  (case c_4=>k_is)
  (case k_4=>k_is)
  (case a_5=>k_is)
  (case l_5=>k_is)
  (case c_5=>k_is)
  (case k_5=>k_is)
  (case a_6=>k_is)
  (case l_6=>k_is)
  (case c_6=>k_is)
  (case k_6=>k_is)
  (case a_7=>k_is)
  (case l_7=>k_is)
  (case c_7=>k_is)
  (case k_7=>k_is)
  (case a_8=>k_is)
  (case l_8=>k_is)
  (case c_8=>k_is)
  (case k_8=>k_is)
  (case a_9=>k_is)
  (case l_9=>k_is)
  (case c_9=>k_is)
  (case k_9=>k_is)
  (case a_10=>k_is)
  (case l_10=>k_is)
  (case c_10=>k_is)
  (case k_10=>k_is)
  (case a_11=>k_is)
  (case l_11=>k_is)
  (case c_11=>k_is)
  (case k_11=>k_is)
  (case a_12=>k_is)
  (case l_12=>k_is)
  (case c_12=>k_is)
  (case k_12=>k_is)
  (case a_13=>k_is)
  (case l_13=>k_is)
  (case c_13=>k_is)
  (case k_13=>k_is)
  (case a_14=>k_is)
  (case l_14=>k_is)
  (case c_14=>k_is)
  (case k_14=>k_is)
  (case a_15=>k_is)
  (case l_15=>k_is)
  (case c_15=>k_is)
  (case k_15=>k_is)
  (case a_16=>k_is)
  (case l_16=>k_is)
  (case c_16=>k_is)
  (case k_16=>k_is)
  (case a_17=>k_is)
  (case l_17=>k_is)
  (case c_17=>k_is)
  (case k_17=>k_is)
  (case a_18=>k_is)
  (case l_18=>k_is)
  (case c_18=>k_is)
  (case k_18=>k_is)
  (case a_19=>k_is)
  (case l_19=>k_is)
  (case c_19=>k_is)
  (case k_19=>k_is)
  (case a_20=>k_is)
  (case l_20=>k_is)
  (case c_20=>k_is)
  (case k_20=>k_is)
  (case a_21=>k_is)
  (case l_21=>k_is)
  (case c_21=>k_is)
  (case k_21=>k_is)
  (case a_22=>k_is)
  (case l_22=>k_is)
  (case c_22=>k_is)
  (case k_22=>k_is)
  (case a_23=>k_is)
  (case l_23=>k_is)
  (case c_23=>k_is)
  (case k_23=>k_is)
  (case a_24=>k_is)
  (case l_24=>k_is)
  (case c_24=>k_is)
  (case k_24=>k_is)
  (case a_25=>k_is)
  (case l_25=>k_is)
  (case c_25=>k_is)
  (case k_25=>k_is)
  (case a_26=>k_is)
  (case l_26=>k_is)
  (case c_26=>k_is)
  (case k_26=>k_is)
  (case a_27=>k_is)
  (case l_27=>k_is)
  (case c_27=>k_is)
  (case k_27=>k_is)
  (case a_28=>k_is)
  (case l_28=>k_is)
  (case c_28=>k_is)
  (case k_28=>k_is)
  (case a_29=>k_is)
  (case l_29=>k_is)
  (case c_29=>k_is)
  (case k_29=>k_is)
  (case a_30=>k_is)
  (case l_30=>k_is)
  (case c_30=>k_is)
  (case k_30=>k_is)
  (case a_31=>k_is)
  (case l_31=>k_is)
  (case c_31=>k_is)
  (case k_31=>k_is)
  (case a_32=>k_is)
  (case l_32=>k_is)
  (case c_32=>k_is)
  (case k_32=>k_is)
  (case z_ValueError=>k_is)
  (case z_all=>k_is)
  (case z_bool=>k_is)
  (case z_int=>k_is)
  (case z_isinstance=>k_is)
  (case z_len=>k_is)
  (case z_list=>k_is)
  (case z_range=>k_is)
  (case z_sorted=>k_is)
  (case z_sum=>k_is)
  (case z_tuple=>k_is)
  (case z_zip=>k_is)
  (case e_HostError=>k_is)
  (case kk_HostError=>k_is)
  (case tt_HostError=>k_is)
  (case nn_HostError=>k_is)
  (case e_NoBattle=>k_is)
  (case kk_NoBattle=>k_is)
  (case tt_NoBattle=>k_is)
  (case nn_NoBattle=>k_is)
  (case e_NoPlan=>k_is)
  (case kk_NoPlan=>k_is)
  (case tt_NoPlan=>k_is)
  (case nn_NoPlan=>k_is)
  (case e_NoMix=>k_is)
  (case kk_NoMix=>k_is)
  (case tt_NoMix=>k_is)
  (case nn_NoMix=>k_is)
  (case e_NoStream=>k_is)
  (case kk_NoStream=>k_is)
  (case tt_NoStream=>k_is)
  (case nn_NoStream=>k_is)
  (case e_NoSide=>k_is)
  (case kk_NoSide=>k_is)
  (case tt_NoSide=>k_is)
  (case nn_NoSide=>k_is)
  (case e_NoAlike=>k_is)
  (case kk_NoAlike=>k_is)
  (case tt_NoAlike=>k_is)
  (case nn_NoAlike=>k_is)
  (case e_NoNumber=>k_is)
  (case kk_NoNumber=>k_is)
  (case tt_NoNumber=>k_is)
  (case nn_NoNumber=>k_is)
  (case e_TooGreat=>k_is)
  (case kk_TooGreat=>k_is)
  (case tt_TooGreat=>k_is)
  (case nn_TooGreat=>k_is)
  (case e_NoEven=>k_is)
  (case kk_NoEven=>k_is)
  (case tt_NoEven=>k_is)
  (case nn_NoEven=>k_is)
  (case e_NoText=>k_is)
  (case kk_NoText=>k_is)
  (case tt_NoText=>k_is)
  (case nn_NoText=>k_is)
  (case e_NoRow=>k_is)
  (case kk_NoRow=>k_is)
  (case tt_NoRow=>k_is)
  (case nn_NoRow=>k_is)
  (case e_NoName=>k_is)
  (case kk_NoName=>k_is)
  (case tt_NoName=>k_is)
  (case nn_NoName=>k_is)
  (case e_NoPlace=>k_is)
  (case kk_NoPlace=>k_is)
  (case tt_NoPlace=>k_is)
  (case nn_NoPlace=>k_is)
  (case bb_HostError=>k_is)
  (case x_NoStream=>k_exc)
  (case f1_NoStream=>k_is)
  (case f2_NoStream=>k_is)
  (case f3_NoStream=>k_is)
  (case f4_NoStream=>k_is)
  (case f5_NoStream=>k_is)
  (case f6_NoStream=>k_is)
  (case s_NoStream_HostError=>k_is)
  (case s_NoStream_NoBattle=>k_is)
  (case s_NoStream_NoPlan=>k_is)
  (case s_NoStream_NoMix=>k_is)
  (case s_NoStream_NoStream=>k_is)
  (case s_NoStream_NoSide=>k_is)
  (case s_NoStream_NoAlike=>k_is)
  (case s_NoStream_NoNumber=>k_is)
  (case s_NoStream_TooGreat=>k_is)
  (case s_NoStream_NoEven=>k_is)
  (case s_NoStream_NoText=>k_is)
  (case s_NoStream_NoRow=>k_is)
  (case s_NoStream_NoName=>k_is)
  (case s_NoStream_NoPlace=>k_is)
  (case x_NoPlan=>k_exc)
  (case f1_NoPlan=>k_is)
  (case f2_NoPlan=>k_is)
  (case f3_NoPlan=>k_is)
  (case f4_NoPlan=>k_is)
  (case f5_NoPlan=>k_is)
  (case f6_NoPlan=>k_is)
  (case s_NoPlan_HostError=>k_is)
  (case s_NoPlan_NoBattle=>k_is)
  (case s_NoPlan_NoPlan=>k_is)
  (case s_NoPlan_NoMix=>k_is)
  (case s_NoPlan_NoStream=>k_is)
  (case s_NoPlan_NoSide=>k_is)
  (case s_NoPlan_NoAlike=>k_is)
  (case s_NoPlan_NoNumber=>k_is)
  (case s_NoPlan_TooGreat=>k_is)
  (case s_NoPlan_NoEven=>k_is)
  (case s_NoPlan_NoText=>k_is)
  (case s_NoPlan_NoRow=>k_is)
  (case s_NoPlan_NoName=>k_is)
  (case s_NoPlan_NoPlace=>k_is)
