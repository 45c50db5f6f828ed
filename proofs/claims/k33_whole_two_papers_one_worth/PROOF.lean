import PyProof.Rows.All
import Wide.All
import OpenK.AllK
import Wide.FinOn
import Lean
import PyProof.EqAt
import PyProof.EqKinds
import PyProof.TupleCall
import PyProof.NeKinds
import PyProof.CompFree
import PyProof.EnumMake
import KE.KTryMore
import PyProof.ExcArgsOwn
import PyProof.ZipIter
import PyProof.ListRange
import KE.KIsAll
import PyProof.InstStoreFacts
import PyProof.ExcInit
import PyProof.ReprRoads
import PyProof.CallStr
import KE.KEqDict
import PyProof.EqLayable
import KE.KRevIter
import PyProof.StrLawsRepr
import PySem.Challenge.RW_hostfields_k33_whole_two_papers_one_wort
open List renaming getElem?_eq_getElem->zcp1,length_map->zcp2,getElem?_eq_some_iff->zcp4,getElem?_map->zcp5,getD_eq_getElem?_getD->zcp6,mem_of_getElem?->zcp9,size_toArray->zcq2,mem_cons->zcq6,length_append->zcr0,map_congr_left->zcr2,length_range->zcr3,map_append->zcr5,length_cons->zcr8,mem_map->zcr9,map_cons->zcs0,getElem?_eq_none->zcs1,not_mem_nil->zcs4,all_eq_true->zcs6,lookup_cons->zcs7,mem_append_right->zcs8,map_map->zcs9,getElem?_append_left->zct0,getElem?_append_right->zct2,mem_cons_of_mem->zct6,mem_append->zct7,getElem?_range->zct8,sum_cons->zct9,mem_range->zcu0,length_nil->zcu4,mem_cons_self->zcu6,ext_getElem?->zcu7,getElem?_of_mem->zcu9,find?_cons->zcv0,length_take->zcv1,length_drop->zcv2,getElem?_set_self->zcv9,take_of_length_le->zcw0,length_singleton->zcw1,getElem_mem->zcw2,all_map->zcw4,replicate_succ->zcw6,drop_of_length_le->zcw7,take_length->zcw9,filter_cons->zcx0,mem_singleton->zcx1,nodup_cons->zcx2,ext_getElem->zcx4
open PySem.W renaming Frag->zcp3,nsIn->zcq1,keepIn->zcq3,mg_of->zcq4,codeIn->zcq5,fnOf->zcq8,kitOne->zcr1,subIn->zcs2,mg_none_of->zct1,findIn->zct4,clsIn->zct5,kia_one->zcu2,typeIn->zcu5,hideAll_get->zcw5
open Option renaming map_eq_some_iff->zcp7,isSome_iff_exists->zcv3
open PySem.Heap renaming get?_push_of_some->zcp8,lt_size->zcq7,get?_update_other->zcr7,get?_push_size->zcs3,get?_update_self->zcu3
open Bool renaming false_ne_true->zcq0,and_eq_true->zcr6,true_and->zcu8,false_eq_true->zcv5
open Nat renaming le_refl->zcq9,lt_of_lt_of_le->zcr4,ne_of_lt->zcs5,zero_le->zct3,le_trans->zcu1,le_succ->zcv7,lt_irrefl->zcv8,ne_of_gt->zcw3,le_add_right->zcw8
open Int renaming mul_le_mul_of_nonneg_left->zcv4,zero_add->zcv6,toNat_natCast->zcx3
set_option Elab.async false
set_option linter.all false
set_option maxRecDepth 100000
namespace L2
open PySem PySem.Spec PyProof.Rows
abbrev Key:=Sum Int Str
def zbh1:Key->Value->Bool
 | .inl k,v=>Value.isInt k v
 | .inr x,v=>Value.isStrOf x v
def keyH (w:World):Key->Int
 | .inl k=>hashInt k
 | .inr x=>hashStr w x
theorem zg0:∀ {k:Key}{v:Value},zbh1 k v=true->(∃ i t,k=Sum.inl i/\v=Value.int i t)∨(∃ x t,k=Sum.inr x/\v=Value.str x t)
 | .inl i,v,h=>by
  obtain⟨t,e⟩:=Value.isInt_shape (k:=i) (v:=v) h
  exact .inl ⟨i,t,rfl,e⟩
 | .inr x,v,h=>by
  obtain⟨t,e⟩:=Value.isStrOf_shape (x:=x) (v:=v) h
  exact .inr ⟨x,t,rfl,e⟩
theorem zbp2 (i:Int) (t:Tok):zbh1 (.inl i) (.int i t)=true:=by simp[zbh1,Value.isInt]
theorem zbp1 (x:Str) (t:Tok):zbh1 (.inr x) (.str x t)=true:=by simp[zbh1,Value.isStrOf]
theorem key_ll (a b:Int):decide ((Sum.inl a:Key)=Sum.inl b)=(a==b):=by
 by_cases e:a=b
 ·subst e;simp
 ·have h:¬ (Sum.inl a:Key)=Sum.inl b:=fun q=>e (Sum.inl.inj q)
  rw[decide_eq_false h]
  exact (beq_eq_false_iff_ne.mpr e).symm
theorem key_rr (a b:Str):decide ((Sum.inr a:Key)=Sum.inr b)=decide (a=b):=by
 by_cases e:a=b
 ·subst e;simp
 ·have h:¬ (Sum.inr a:Key)=Sum.inr b:=fun q=>e (Sum.inr.inj q)
  rw[decide_eq_false h,decide_eq_false e]
theorem key_lr (a:Int) (b:Str):decide ((Sum.inl a:Key)=Sum.inr b)=false:=decide_eq_false (fun q=>nomatch q)
theorem key_rl (a:Str) (b:Int):decide ((Sum.inr a:Key)=Sum.inl b)=false:=decide_eq_false (fun q=>nomatch q)
def zj4 (prog:Program) (w:World):PySem.KeyKind prog w Key where
 is:=zbh1
 hash:=keyH w
 inj:=fun v a b ha hb=>by
  rcases zg0 ha with ⟨i,t,rfl,rfl⟩|⟨x,t,rfl,rfl⟩
  ·rcases zg0 hb with ⟨j,u,rfl,e⟩|⟨y,u,rfl,e⟩
   ·injection e with e1 _;rw[e1]
   ·exact nomatch e
  ·rcases zg0 hb with ⟨j,u,rfl,e⟩|⟨y,u,rfl,e⟩
   ·exact nomatch e
   ·injection e with e1 _;rw[e1]
 byValue:=fun k v h=>by
  rcases zg0 h with ⟨i,t,rfl,rfl⟩|⟨x,t,rfl,rfl⟩<;>rfl
 pyHash:=fun hv h=>by
  rcases zg0 hv with ⟨i,t,rfl,rfl⟩|⟨x,t,rfl,rfl⟩
  ·exact wpAny_pyHash_int h
  ·exact wpAny_pyHash_str h
 eqBool:=fun hu hv h=>by
  rcases zg0 hu with ⟨i,t,rfl,rfl⟩|⟨x,t,rfl,rfl⟩
  ·rcases zg0 hv with ⟨j,u,rfl,rfl⟩|⟨y,u,rfl,rfl⟩
   ·rw[key_ll] at h;exact wpAny_eqBool_int h
   ·rw[key_lr] at h;exact SeqAt.EqAt.int_str i t y u _ _ _ _ h
  ·rcases zg0 hv with ⟨j,u,rfl,rfl⟩|⟨y,u,rfl,rfl⟩
   ·rw[key_rl] at h;exact SeqAt.EqAt.str_int x t j u _ _ _ _ h
   ·rw[key_rr] at h;exact wpAny_eqBool_str h
 «strs»:=fun k x t v h=>by
  rcases zg0 h with ⟨i,u,rfl,e⟩|⟨y,u,rfl,e⟩
  ·exact nomatch e
  ·injection e with e1 _
   subst e1
   cases v<;>rfl
theorem zav4 (prog:Program) (w:World) (i:Int) (t:Tok):(zj4 prog w).is (.inl i) (.int i t)=true:=zbp2 i t
theorem zay1 (prog:Program) (w:World) (x:Str) (t:Tok):(zj4 prog w).is (.inr x) (.str x t)=true:=zbp1 x t
end L2
namespace L2
open PySem PySem.Spec PyProof.Rows
inductive V where
 | non | bl (b:Bool) | int (i:Int) | str (x:Str) | byt (b:Array UInt8) | flt (b:UInt64) | ref (a:Addr) | ty (n:String)
 deriving DecidableEq
def RelV:V->Value->Prop
 | .non,u=>u=Value.none
 | .bl b,u=>u=Value.bool b
 | .int i,u=>∃ t,u=Value.int i t
 | .str x,u=>∃ t,u=Value.str x t
 | .byt b,u=>∃ t,u=Value.bytes b t
 | .flt b,u=>∃ t,u=Value.float b t
 | .ref a,u=>u=Value.ref a
 | .ty n,u=>u=Value.type n
abbrev Vals:List V->List Value->Prop:=Paired RelV
theorem Vals.length {xs:List V}{us:List Value}(r:Vals xs us):xs.length=us.length:=Paired.length r
theorem Vals.get:∀ {xs:List V}{us:List Value}{i:Nat}{x:V},Vals xs us->xs[i]?=some x->∃ u,us[i]?=some u/\RelV x u
 | _,_,_,_,.nil,e=>by simp at e
 | _,_,0,_,.cons r _,e=>by simp at e;subst e;exact⟨_,rfl,r⟩
 | _,_,i+1,x,.cons _ t,e=>by
  obtain⟨u,h1,h2⟩:=Vals.get (i:=i) (x:=x) t (by simpa using e)
  exact⟨u,by simpa using h1,h2⟩
theorem Vals.set {x:V}{u:Value}(r:RelV x u):∀ {xs:List V}{us:List Value}(i:Nat),Vals xs us->Vals (xs.set i x) (us.set i u)
 | _,_,_,.nil=>.nil
 | _,_,0,.cons _ t=>.cons r t
 | _,_,i+1,.cons q t=>.cons q (Vals.set r i t)
theorem Vals.append:∀ {xs ys:List V}{us ws:List Value},Vals xs us->Vals ys ws->Vals (xs++ys) (us++ws)
 | _,_,_,_,.nil,s=>s
 | _,_,_,_,.cons r t,s=>.cons r (Vals.append t s)
theorem Vals.take:∀ {xs:List V}{us:List Value}(n:Nat),Vals xs us->Vals (xs.take n) (us.take n)
 | _,_,0,_=>.nil
 | _,_,_+1,.nil=>.nil
 | _,_,n+1,.cons r t=>.cons r (Vals.take n t)
theorem Vals.drop:∀ {xs:List V}{us:List Value}(n:Nat),Vals xs us->Vals (xs.drop n) (us.drop n)
 | _,_,0,r=>r
 | _,_,_+1,.nil=>.nil
 | _,_,n+1,.cons _ t=>Vals.drop n t
def RelO:Option V->Option Value->Prop
 | some v,some u=>RelV v u
 | none,none=>True
 | _,_=>False
def KV {κ:Type}:List (κ×V)->List (κ×Value)->Prop:=Paired fun (p:κ×V) (q:κ×Value)=>p.1=q.1/\RelV p.2 q.2
def kV:Key->V
 | .inl i=>.int i
 | .inr x=>.str x
inductive HO where
 | lst (xs:List V)
 | tup (xs:List V)
 | dK (kvs:List (Key×V)) | dT (kvs:List (List Key×V))
 | set (S:Int->Bool) (n:Nat)
 | ins (C dx:Addr) (fs:List (Str×V))
 | own (x:Addr)
 | xd (fs:List (Str×V))
 | met (f x:Addr)
 | rng (lo hi:Int)
 | frz (o:Obj) (u:HO)
 | tbl (ps:Array Value)
 | ext (φ:Heap->Prop)
abbrev Hp:=Addr->Option HO
def upd (H:Hp) (a:Addr) (o:HO):Hp:=fun b=>if b=a then some o else H b
theorem zc2 {H:Hp}{a:Addr}{o:HO}:upd H a o a=some o:=by unfold upd;rw[if_pos rfl]
theorem zc0 {H:Hp}{a b:Addr}{o:HO}(h:b≠a):upd H a o b=H b:=by unfold upd;rw[if_neg h]
theorem ne_of {H:Hp}{a b:Addr}{o u:HO}(h:H a=some o) (h':H b=some u) (d:o≠u):a≠b:=by
 intro e;subst e;rw[h] at h';exact d (Option.some.inj h')
theorem za6 {H:Hp}{a b:Addr}{o:HO}(h:H a=some o) (h':H b=none):a≠b:=by
 intro e;subst e;rw[h] at h';cases h'
section
variable (P:Program) (w:World)
def zf3 (H:Hp) (h:Heap) (a:Addr):HO->Prop
 | .lst xs=>xs.length<=sizeLine/\∃ (its:List Value) (n:Nat),Vals xs its/\h.get? a=some { cls:=.type "list",data:=.seq its.toArray n }
 | .tup xs=>xs.length<=sizeLine/\∃ its:List Value,Vals xs its/\IsTup h a its.toArray
 | .dK kvs=>kvs.length<=sizeLine/\(a==sysModules)=false/\∃ vs,KV kvs vs/\h.DictOf (zj4 P w) a vs
 | .dT kvs=>kvs.length<=sizeLine/\(a==sysModules)=false/\∃ xs:List (List Key×Addr×Value),
   Paired (fun (p:List Key×V) (q:List Key×Addr×Value)=>p.1=q.1/\H q.2.1=some (.tup (p.1.map kV))/\RelV p.2 q.2.2) kvs xs /\
   ∃ o es ep,h.get? a=some o/\o.ExactDict/\o.data=.dict es ep/\es.toList=xs.map (entryOfKey (tupleKind (zj4 P w)))/\(xs.map (·.1)).Nodup
 | .set S n=>h.SetOf (intKind P w) a S n
 | .ins C dx fs=>H dx=some (.own a)/\fs.length<=1000/\dx≠a/\h.get? a=some (PySem.W.instObj C dx) /\
   ∃ mA,h.Ns1 dx mA/\(∀ f,RelO (fs.lookup f) (mA f))/\PySem.Within mA (fs.map (·.1))
 | .own _=>∃ o,h.get? a=some o
 | .xd fs=>∃ mA,h.Ns1 a mA/\∀ f,RelO (fs.lookup f) (mA f)
 | .rng lo hi=>∃ t u v,h.get? a=some { cls:=.type "range",data:=.fields #[.int lo t,.int hi u,.int 1 v] }
 | .frz o u=>h.get? a=some o/\zf3 H h a u
 | .tbl ps=>h.get? a=some { cls:=.none,data:=.fields ps }
 | .met f x=>h.get? a=some (PySem.W.methodObj (.ref f) (.ref x))
 | .ext φ=>φ h/\(∃ o,h.get? a=some o)/\∀ h1 h2:Heap,φ h1->(∀ o,h1.get? a=some o->h2.get? a=some o)->φ h2
def HOk (H:Hp) (h:Heap):Prop:=∀ a o,H a=some o->zf3 P w H h a o
end
section
variable {P:Program}{w:World}{H H':Hp}{h h':Heap}{a:Addr}{o:HO}
theorem zf3.lt (x:zf3 P w H h a o):a<h.objs.size:=by
 cases o with
 | lst xs=>obtain⟨_,_,_,_,e⟩:=x;exact zcq7 e
 | tup xs=>obtain⟨_,_,_,p⟩:=x;exact p.lt
 | dK kvs=>obtain⟨_,_,_,_,o,_,_,e,_⟩:=x;exact zcq7 e
 | dT kvs=>obtain⟨_,_,_,_,o,_,_,e,_⟩:=x;exact zcq7 e
 | set S n=>obtain⟨o,_,_,_,e,_⟩:=x;exact zcq7 e
 | ins C dx fs=>obtain⟨_,_,_,e,_⟩:=x;exact zcq7 e
 | own y=>obtain⟨_,e⟩:=x;exact zcq7 e
 | xd fs=>obtain⟨_,⟨_,_,_,e,_⟩,_⟩:=x;exact zcq7 e
 | rng lo hi=>obtain⟨_,_,_,e⟩:=x;exact zcq7 e
 | frz ob u=>obtain⟨e,_⟩:=x;exact zcq7 e
 | tbl ps=>exact zcq7 (show h.get? a=some _ from x)
 | met f y=>exact zcq7 (show h.get? a=some _ from x)
 | ext φ=>obtain⟨_,⟨_,e⟩,_⟩:=x;exact zcq7 e
theorem Paired.mapP {α β:Type}{F G:α->β->Prop}:∀ {l₁:List α}{l₂:List β},Paired F l₁ l₂->(∀ a b,F a b->G a b)->Paired G l₁ l₂
 | _,_,.nil,_=>.nil
 | _,_,.cons r t,f=>.cons (f _ _ r) (Paired.mapP t f)
theorem zf3.stay (x:zf3 P w H h a o) (k:∀ b u,(b=a∨H b=some (.own a))->h.get? b=some u->h'.get? b=some u)
  (ho:∀ b,H b=some (.own a)->H' b=some (.own a)) (ht:∀ b xs,H b=some (.tup xs)->H' b=some (.tup xs)):zf3 P w H' h' a o:=by
 induction o with
 | lst xs=>obtain⟨z,its,n,r,e⟩:=x;exact⟨z,its,n,r,k _ _ (.inl rfl) e⟩
 | tup xs=>obtain⟨z,its,r,ob,e,c⟩:=x;exact⟨z,its,r,ob,k _ _ (.inl rfl) e,c⟩
 | dK kvs=>obtain⟨z,y,vs,r,ob,es,ep,e,c⟩:=x;exact⟨z,y,vs,r,ob,es,ep,k _ _ (.inl rfl) e,c⟩
 | dT kvs=>
  obtain⟨z,y,xs,r,ob,es,ep,e,c⟩:=x
  exact⟨z,y,xs,Paired.mapP r fun p q z=>⟨z.1,ht _ _ z.2.1,z.2.2⟩,ob,es,ep,k _ _ (.inl rfl) e,c⟩
 | set S n=>obtain⟨ob,es,ep,t,e,c⟩:=x;exact⟨ob,es,ep,t,k _ _ (.inl rfl) e,c⟩
 | ins C dx fs=>
  obtain⟨d,z,ne,e,mA,⟨od,es,ep,e2,c⟩,r⟩:=x
  exact⟨ho _ d,z,ne,k _ _ (.inl rfl) e,mA,⟨od,es,ep,k _ _ (.inr d) e2,c⟩,r⟩
 | own y=>obtain⟨ob,e⟩:=x;exact⟨ob,k _ _ (.inl rfl) e⟩
 | xd fs=>obtain⟨mA,⟨od,es,ep,e,c⟩,r⟩:=x;exact⟨mA,⟨od,es,ep,k _ _ (.inl rfl) e,c⟩,r⟩
 | rng lo hi=>obtain⟨t,u,v,e⟩:=x;exact⟨t,u,v,k _ _ (.inl rfl) e⟩
 | frz ob u ih=>obtain⟨e,q⟩:=x;exact⟨k _ _ (.inl rfl) e,ih q⟩
 | tbl ps=>
  have e:h.get? a=some { cls:=.none,data:=.fields ps }:=x
  show h'.get? a=some { cls:=.none,data:=.fields ps }
  exact k a _ (.inl rfl) e
 | met f y=>
  have e:h.get? a=some (PySem.W.methodObj (.ref f) (.ref y)):=x
  show h'.get? a=some (PySem.W.methodObj (.ref f) (.ref y))
  exact k a _ (.inl rfl) e
 | ext φ=>obtain⟨p,⟨o,e⟩,st⟩:=x;exact⟨st _ _ p fun o q=>k _ _ (.inl rfl) q,⟨o,k _ _ (.inl rfl) e⟩,st⟩
theorem HOk.lt (x:HOk P w H h) (e:H a=some o):a<h.objs.size:=(x a o e).lt
theorem HOk.fresh (x:HOk P w H h) (e:h.objs.size<=a):H a=none:=by
 cases q:H a with
 | none=>rfl
 | some u=>exact absurd (zcr4 (x.lt q) e) (zcv8 _)
theorem HOk.kept (x:HOk P w H h) (k:∀ b u,h.get? b=some u->h'.get? b=some u):HOk P w H h':=fun a o e=>
 (x a o e).stay (fun b u _ q=>k b u q) (fun _ q=>q) fun _ _ q=>q
theorem HOk.laid (x:HOk P w H h) (k:∀ b u,h.get? b=some u->h'.get? b=some u) (hp:h.objs.size<=a) (new:zf3 P w (upd H a o) h' a o):HOk P w (upd H a o) h':=fun b u e=>by
 have hn:=x.fresh hp
 by_cases hb:b=a
 ·subst hb;rw[zc2] at e;cases e;exact new
 ·rw[zc0 hb] at e
  exact (x b u e).stay (fun c v _ q=>k c v q) (fun c q=>by rw[zc0 (za6 q hn)];exact q) fun c xs q=>by rw[zc0 (za6 q hn)];exact q
end
def Rd (H:Hp) (a:Addr) (u:HO):Prop:=H a=some u∨∃ o,H a=some (.frz o u)
theorem Rd.of {H:Hp}{a:Addr}{u:HO}(h:H a=some u):Rd H a u:=.inl h
theorem Rd.ok {P:Program}{w:World}{H:Hp}{h:Heap}{a:Addr}{u:HO}(r:Rd H a u) (x:HOk P w H h):zf3 P w H h a u:=by
 rcases r with r|⟨o,r⟩
 ·exact x a u r
 ·obtain⟨_,q⟩:=x a _ r
  exact q
def Mut:Option HO->Prop
 | some (.lst _)=>True
 | some (.dK _)=>True
 | some (.dT _)=>True
 | some (.set _ _)=>True
 | some (.ins _ _ _)=>True
 | some (.ext _)=>True
 | _=>False
section
variable {P:Program}{w:World}{H:Hp}{h h':Heap}{x e:Addr}{o':HO}
theorem HOk.write (ok:HOk P w H h) (mu:Mut (H x)) (he:e=x∨H e=some (.own x)) (k:∀ b u,b≠e->h.get? b=some u->h'.get? b=some u) (heo:∃ u,h'.get? e=some u)
  (new:zf3 P w (upd H x o') h' x o'):HOk P w (upd H x o') h':=fun b u q=>by
 have nown:∀ c y,H c=some (.own y)->c≠x:=fun c y r z=>by subst z;rw[r] at mu;exact mu
 have ntup:∀ c xs,H c=some (.tup xs)->c≠x:=fun c xs r z=>by subst z;rw[r] at mu;exact mu
 by_cases hb:b=x
 ·subst hb;rw[zc2] at q;cases q;exact new
 ·rw[zc0 hb] at q
  by_cases hbe:b=e
  ·have q':H b=some (.own x):=by
    rcases he with z|z
    ·exact absurd (hbe.trans z) hb
    ·rw[hbe];exact z
   rw[q] at q';cases q'
   obtain⟨v,hv⟩:=heo
   exact⟨v,by rw[hbe];exact hv⟩
  ·refine (ok b u q).stay (fun c v hc r=>k c v ?_ r) (fun c r=>by rw[zc0 (nown c b r)];exact r) fun c xs r=>by rw[zc0 (ntup c xs r)];exact r
   rcases hc with rfl|hc
   ·exact hbe
   ·rintro rfl
    rcases he with z|z
    ·exact nown c b hc z
    ·rw[hc] at z;cases z;exact hb rfl
end
structure Un (fs ex:List Addr) (H H':Hp) (h h':Heap):Prop where
 keep:∀ b o,h.get? b=some o->H b=none->b ∉ fs->b ∉ ex->h'.get? b=some o
 slot:∀ b o,h.get? b=some o->H b=none->b∈fs->b ∉ ex->∃ sl,h'.get? b=some { o with slots:=sl }
 free:∀ b o,h.get? b=some o->H b=none->b ∉ ex->H' b=none
 there:∀ b o,h.get? b=some o->b ∉ ex->∃ o',h'.get? b=some o'
 tups:∀ b xs,H b=some (.tup xs)->H' b=some (.tup xs)
 frzs:∀ b o u,H b=some (.frz o u)->H' b=some (.frz o u)
 tbls:∀ b ps,H b=some (.tbl ps)->∃ more,H' b=some (.tbl (ps++more))
section
variable {fs fs' ex ex':List Addr}{H H1 H2:Hp}{h h1 h2 h':Heap}{a x e:Addr}{o:HO}
theorem Un.any (u:Un fs ex H H1 h h1) {b:Addr}{ob:Obj}(q:h.get? b=some ob) (n:H b=none) (hx:b ∉ ex):∃ sl,h1.get? b=some { ob with slots:=sl }:=by
 by_cases hb:b∈fs
 ·exact u.slot b ob q n hb hx
 ·exact⟨ob.slots,u.keep b ob q n hb hx⟩
theorem Un.trans (a:Un fs ex H H1 h h1) (b:Un fs ex H1 H2 h1 h2):Un fs ex H H2 h h2 where
 keep:=fun c ob q n hc hx=>b.keep c ob (a.keep c ob q n hc hx) (a.free c ob q n hx) hc hx
 slot:=fun c ob q n hc hx=>by
  obtain⟨sl,e1⟩:=a.slot c ob q n hc hx
  obtain⟨sl',e2⟩:=b.slot c _ e1 (a.free c ob q n hx) hc hx
  exact⟨sl',e2⟩
 free:=fun c ob q n hx=>by
  obtain⟨o',e1⟩:=a.there c ob q hx
  exact b.free c o' e1 (a.free c ob q n hx) hx
 there:=fun c ob q hx=>by
  obtain⟨o',e1⟩:=a.there c ob q hx
  exact b.there c o' e1 hx
 tups:=fun c xs q=>b.tups c xs (a.tups c xs q)
 frzs:=fun c ob xs q=>b.frzs c ob xs (a.frzs c ob xs q)
 tbls:=fun c ps q=>by
  obtain⟨m1,e1⟩:=a.tbls c ps q
  obtain⟨m2,e2⟩:=b.tbls c _ e1
  exact⟨m1++m2,by rw[e2,Array.append_assoc]⟩
theorem Un.kept (k:∀ b u,h.get? b=some u->h'.get? b=some u):Un fs ex H H h h':=
 ⟨fun b ob q _ _ _=>k b ob q,fun b ob q _ _ _=>⟨ob.slots,k b ob q⟩,fun _ _ _ n _=>n,fun b ob q _=>⟨ob,k b ob q⟩,fun _ _ q=>q,fun _ _ _ q=>q,fun _ ps q=>⟨#[],by rw[q];simp⟩⟩
theorem Un.refl:Un fs ex H H h h:=Un.kept fun _ _ q=>q
theorem Un.laid (k:∀ b u,h.get? b=some u->h'.get? b=some u) (hp:h.objs.size<=a) (hn:H a=none):Un fs ex H (upd H a o) h h' where
 keep:=fun b u q _ _ _=>k b u q
 slot:=fun b u q _ _ _=>⟨u.slots,k b u q⟩
 free:=fun b u q n _=>by rw[zc0 (zcs5 (zcr4 (zcq7 q) hp))];exact n
 there:=fun b u q _=>⟨u,k b u q⟩
 tups:=fun b xs q=>by rw[zc0 (za6 q hn)];exact q
 frzs:=fun b u xs q=>by rw[zc0 (za6 q hn)];exact q
 tbls:=fun b ps q=>⟨#[],by rw[zc0 (za6 q hn),q];simp⟩
theorem Un.write (mu:Mut (H x)) (he:e=x∨H e=some (.own x)) (k:∀ b u,b≠e->h.get? b=some u->h'.get? b=some u) (heo:∃ u,h'.get? e=some u):Un fs ex H (upd H x o) h h':=by
 have hx:∀ b,H b=none->b≠x:=fun b n z=>by subst z;rw[n] at mu;exact mu
 have hb:∀ b,H b=none->b≠e:=fun b n z=>by
  subst z
  rcases he with r|r
  ·exact hx b n r
  ·rw[n] at r;cases r
 have hm:∀ b u,H b=some u->¬ Mut (some u)->b≠x:=fun b u q nm z=>by subst z;rw[q] at mu;exact nm mu
 refine⟨fun b u q n _ _=>k b u (hb b n) q,fun b u q n _ _=>⟨u.slots,k b u (hb b n) q⟩,fun b u q n _=>by rw[zc0 (hx b n)];exact n,fun b u q _=>?_,
  fun b xs q=>by rw[zc0 (hm b _ q fun z=>z)];exact q,fun b u xs q=>by rw[zc0 (hm b _ q fun z=>z)];exact q,fun b ps q=>⟨#[],by rw[zc0 (hm b _ q fun z=>z),q];simp⟩⟩
 by_cases hbe:b=e
 ·subst hbe;exact heo
 ·exact⟨u,k b u hbe q⟩
end
def trk (h:Heap) (H:Hp):List Addr:=(List.range h.objs.size).filter fun a=>(H a).isSome
def hidT (h:Heap) (H:Hp):Heap:=PySem.W.hideAll h (trk h H)
theorem zbh7 (h:Heap) (H:Hp):(hidT h H).objs.size=h.objs.size:=PySem.W.hideAll_size _ _
theorem zbv7 {h:Heap}{H:Hp}{b:Addr}{o:Obj}(e:h.get? b=some o) (n:H b=none):(hidT h H).get? b=some o:=
 zcw5 _ e fun hm=>by
  have q:(H b).isSome=true:=(List.mem_filter.mp hm).2
  rw[n] at q;simp at q
theorem zcb2 {h:Heap}{H:Hp}{b:Addr}{o:Obj}(e:(hidT h H).get? b=some o):h.get? b=some o/\H b=none:=by
 have e':h.get? b=some o:=PySem.W.of_hideAll (trk h H) e
 refine⟨e',?_⟩
 cases q:H b with
 | none=>rfl
 | some x=>
  have hm:b∈trk h H:=List.mem_filter.mpr ⟨zcu0.mpr (zcq7 e'),by simp[q]⟩
  have z:(hidT h H).get? b=none:=PySem.W.hideAll_none (trk h H) hm
  rw[z] at e;cases e
def zcg7 (g h:Heap) (L:Addr):List (Addr×Obj):=(List.range h.objs.size).filterMap fun a=>if a=L∨(g.get? a).isSome=true then none else (h.get? a).map fun o=>(a,o)
def rest (g h:Heap) (L d:Addr):List (Addr×Obj):=(zcg7 g h L).filter fun p=>decide (p.1≠d)
end L2
namespace L2
open PySem PySem.Spec PyProof.Rows
structure Mod (K:zcp3) (mg:Str->Option Value) (base:Heap):Prop where
 kin:K.In base
 glob:base.Ns mainGlobals mg
 blt:∃ mb,base.Ns builtinsNs mb/\∀ x:Str,x≠"__name__"->mb x=bootBuiltins x
 nolimit:base.NoLimit
structure Cx where
 prog:Program
 w:World
 K:zcp3
 mg:Str->Option Value
 base:Heap
 A:Around
 N:List Str
 s₀:Shared
 H₀:Hp
 env:Env
 outer:List Env
 stack:List Env
 ex:List Addr
 fn:Str->Bool
 calm:Bool
 pn:List (Addr×Obj)
 xe:Value->Shared->Prop
def frs (l:List Env):List Addr:=l.filterMap (·.frame)
abbrev Cx.fs (X:Cx):List Addr:=frs X.outer
def Vis (sc:Scope) (x:Str):Prop:=sc.names.lookup x=some .local∨sc.names.lookup x=some .cell∨sc.names.lookup x=some .free
def Loc (sc:Scope) (x:Str):Prop:=sc.names.lookup x=some .local∨sc.names.lookup x=some .cell
def Look (env:Env) (h:Heap) (m:Str->Option Value) (x:Str) (u:Value):Prop:=
 (env.kindOf x=some .local/\m x=some u)∨((env.kindOf x=some .cell∨env.kindOf x=some .free)/\∃ c,env.cells.lookup x=some c/\h.IsCell c (some u))
structure Cx.Ok (X:Cx):Prop where
 mod:Mod X.K X.mg X.base
 kind:X.env.scope.kind=.function
 glob:X.env.globals=mainGlobals
 blt:X.env.builtins=builtinsNs
 above:X.s₀.heap.objs.size<=X.env.locals
 inj:∀ x y c,X.env.cells.lookup x=some c->X.env.cells.lookup y=some c->x=y
 has:∀ x,(X.env.kindOf x=some .cell∨X.env.kindOf x=some .free)->∃ c,X.env.cells.lookup x=some c
 cab:∀ x c,X.fn x=true->X.env.cells.lookup x=some c->X.s₀.heap.objs.size<=c
 hd:X.calm=true->X.A.handled=none
 frames:X.A.frames=some X.stack
 stk:X.stack=X.outer∨(X.stack=X.env :: X.outer/\X.env.frame=some X.env.locals)
 exf:∀ b∈X.ex,b≠X.env.locals/\∀ x c,X.env.cells.lookup x=some c->c≠b
 bs:∀ b o,X.base.get? b=some o->X.s₀.heap.get? b=some o/\X.H₀ b=none
 bsz:X.base.objs.size<=X.s₀.heap.objs.size
 noex:∀ b o,X.base.get? b=some o->b ∉ X.ex
 exfs:∀ b∈X.ex,b ∉ X.fs
 funs:X.s₀.heap.FunFrames X.base X.outer
 frf:∀ b∈X.fs,X.H₀ b=none
structure Inv (X:Cx) (pins:List (Addr×Obj)) (σ:List (Option V)) (H:Hp) (s:Shared):Prop where
 ok:X.Ok
 os:s.os=X.s₀.os
 bare:AllBare s.gens
 base:Un X.fs X.ex X.H₀ H X.s₀.heap s.heap
 loc:∃ m,s.heap.Ns X.env.locals m/\∀ (i:Nat) (x:Str) (v:V),X.N[i]?=some x->σ[i]?=some (some v)->Vis X.env.scope x->∃ u,RelV v u/\Look X.env s.heap m x u
 cell:∀ x c,X.env.cells.lookup x=some c->∃ v,s.heap.IsCell c v
 free:H X.env.locals=none
 freeC:∀ x c,X.env.cells.lookup x=some c->H c=none
 pin:∀ p∈X.pn++pins,s.heap.get? p.1=some p.2/\H p.1=none/\p.1≠X.env.locals/\p.1 ∉ X.fs/\∀ v,p.2.data≠.cell v
 hok:HOk X.prog X.w H s.heap
 len:σ.length=X.N.length
section
variable {X:Cx}{pins:List (Addr×Obj)}{σ:List (Option V)}{H H':Hp}{s:Shared}{h':Heap}
theorem Cx.Ok.nofr (ok:X.Ok) {b:Addr}{o:Obj}(e:X.base.get? b=some o):b ∉ X.fs:=fun hb=>by
 have:=(ok.funs.mem hb).1
 rw[e] at this;cases this
theorem Inv.bs (I:Inv X pins σ H s):∀ b o,X.base.get? b=some o->s.heap.get? b=some o/\H b=none:=fun b o e=>
 ⟨I.base.keep b o (I.ok.bs b o e).1 (I.ok.bs b o e).2 (I.ok.nofr e) (I.ok.noex b o e),I.base.free b o (I.ok.bs b o e).1 (I.ok.bs b o e).2 (I.ok.noex b o e)⟩
theorem Inv.bk (I:Inv X pins σ H s):∀ b o,X.base.get? b=some o->s.heap.get? b=some o:=fun b o e=>(I.bs b o e).1
theorem Inv.mod (I:Inv X pins σ H s):Mod X.K X.mg X.base:=I.ok.mod
theorem Inv.kIn (I:Inv X pins σ H s):X.K.In s.heap:=I.ok.mod.kin.keeps I.bk
theorem Inv.lt (I:Inv X pins σ H s):X.env.locals<s.heap.objs.size:=let ⟨_,hn,_⟩:=I.loc;hn.lt
theorem Inv.sz (I:Inv X pins σ H s):X.s₀.heap.objs.size<=s.heap.objs.size:=zcu1 I.ok.above (Nat.le_of_lt I.lt)
theorem Inv.nofs (I:Inv X pins σ H s) {a:Addr}(h:s.heap.objs.size<=a):a ∉ X.fs:=fun hb=>by
 obtain⟨_,o,ho,_⟩:=I.ok.funs.mem hb
 exact absurd (zcr4 (zcq7 ho) (zcu1 I.sz h)) (zcv8 _)
theorem Inv.cne (I:Inv X pins σ H s):∀ x c,X.env.cells.lookup x=some c->c≠X.env.locals:=fun x c e z=>by
 obtain⟨v,o,ho,hd⟩:=I.cell x c e
 obtain⟨m,⟨o',es,ep,ho',hd',_⟩,_⟩:=I.loc
 rw[z,ho'] at ho;cases ho;rw[hd'] at hd;cases hd
theorem Inv.funs (I:Inv X pins σ H s):s.heap.FunFrames X.base X.outer:=by
 have all:∀ (l:List Env),(∀ b∈frs l,b∈X.fs)->X.s₀.heap.FunFrames X.base l->s.heap.FunFrames X.base l:=by
  intro l
  induction l with
  | nil=>intro _ _;trivial
  | cons env r ih=>
   intro hs hl
   obtain⟨hk,⟨L,o,hf,hn,ho,hd⟩,hr⟩:=hl
   have hL:L∈X.fs:=hs L (by unfold frs;rw[List.filterMap_cons,hf];exact zcu6)
   obtain⟨sl,e⟩:=I.base.slot L o ho (I.ok.frf L hL) hL fun z=>I.ok.exfs L z hL
   exact⟨hk,⟨L,_,hf,hn,e,hd⟩,ih (fun b hb=>hs b (by unfold frs;rw[List.filterMap_cons,hf];exact zct6 _ hb)) hr⟩
 exact all X.outer (fun _ hb=>hb) I.ok.funs
theorem Inv.stack (I:Inv X pins σ H s):s.heap.FunFrames X.base X.stack:=by
 rcases I.ok.stk with e|⟨e,hf⟩
 ·rw[e];exact I.funs
 ·rw[e]
  obtain⟨m,hn,_⟩:=I.loc
  refine .cons (by rw[I.ok.kind];decide) hf hn ?_ I.funs
  exact Heap.get?_none_of_le (zcu1 I.ok.bsz I.ok.above)
theorem Inv.stkSub (I:Inv X pins σ H s):∀ b∈frs X.stack,b∈X.env.locals :: X.fs:=fun b hb=>by
 rcases I.ok.stk with e|⟨e,hf⟩
 ·rw[e] at hb;exact zct6 _ hb
 ·rw[e] at hb
  unfold frs at hb
  rw[List.filterMap_cons,hf] at hb
  exact hb
theorem Inv.stkFree (I:Inv X pins σ H s):∀ b∈frs X.stack,H b=none:=fun b hb=>by
 rcases zcq6.mp (I.stkSub b hb) with e|hb
 ·rw[e];exact I.free
 ·obtain⟨_,o,ho,_⟩:=I.ok.funs.mem hb
  exact I.base.free b o ho (I.ok.frf b hb) fun z=>I.ok.exfs b z hb
theorem Inv.step {g':Array GenState}{t':Nat}{d':Drawn}{ch:List Addr}(I:Inv X pins σ H s)
  (hch:∀ b∈ch,(b∈X.ex∨X.s₀.heap.objs.size<=b)/\b≠X.env.locals/\(∀ x c,X.env.cells.lookup x=some c->c≠b)/\∀ p∈X.pn++pins,p.1≠b)
  (keep:∀ b o,b≠X.env.locals->b ∉ X.fs->b ∉ ch->s.heap.get? b=some o->H b=none->h'.get? b=some o)
  (slot:∀ b o,b≠X.env.locals->b∈X.fs->b ∉ ch->s.heap.get? b=some o->H b=none->∃ sl,h'.get? b=some { o with slots:=sl }) (free:∀ b o,b ∉ ch->s.heap.get? b=some o->H b=none->H' b=none)
  (there:∀ b o,b ∉ ch->s.heap.get? b=some o->∃ o',h'.get? b=some o')
  (tups:∀ b xs,H b=some (.tup xs)->H' b=some (.tup xs)) (frzs:∀ b o u,H b=some (.frz o u)->H' b=some (.frz o u)) (tbls:∀ b ps,H b=some (.tbl ps)->∃ more,H' b=some (.tbl (ps++more)))
  (ns:∀ m,s.heap.Ns X.env.locals m->h'.Ns X.env.locals m) (hok:HOk X.prog X.w H' h') (hg:AllBare g') :
  Inv X pins σ H' { s with heap:=h',gens:=g',drawn:=d',toks:=t' }:=by
 have neL:∀ b o,X.s₀.heap.get? b=some o->b≠X.env.locals:=fun b o e=>zcs5 (zcr4 (zcq7 e) I.ok.above)
 have neC:∀ b o,X.s₀.heap.get? b=some o->b ∉ X.ex->b ∉ ch:=fun b o e hx hb=>by
  rcases (hch b hb).1 with z|z
  ·exact hx z
  ·exact absurd (zcr4 (zcq7 e) z) (zcv8 _)
 have cellK:∀ x c,X.env.cells.lookup x=some c->∀ v,s.heap.IsCell c v->h'.IsCell c v:=fun x c e v ⟨o,ho,hd⟩=>by
  have nch:c ∉ ch:=fun z=>(hch c z).2.2.1 x c e rfl
  by_cases hc:c∈X.fs
  ·obtain⟨sl,q⟩:=slot c o (I.cne x c e) hc nch ho (I.freeC x c e)
   exact⟨_,q,hd⟩
  ·exact⟨o,keep c o (I.cne x c e) hc nch ho (I.freeC x c e),hd⟩
 refine⟨I.ok,I.os,hg,⟨fun b o e n hb hx=>?_,fun b o e n hb hx=>?_,fun b o e n hx=>?_,fun b o e hx=>?_,fun b xs e=>tups b xs (I.base.tups b xs e),fun b o xs e=>frzs b o xs (I.base.frzs b o xs e),fun b ps e=>?_⟩,?_,fun x c e=>?_,?_,fun x c e=>?_,fun p hp=>?_,hok,I.len⟩
 ·exact keep b o (neL b o e) hb (neC b o e hx) (I.base.keep b o e n hb hx) (I.base.free b o e n hx)
 ·obtain⟨sl,e1⟩:=I.base.slot b o e n hb hx
  obtain⟨sl',e2⟩:=slot b _ (neL b o e) hb (neC b o e hx) e1 (I.base.free b o e n hx)
  exact⟨sl',e2⟩
 ·obtain⟨o',e1⟩:=I.base.there b o e hx
  exact free b o' (neC b o e hx) e1 (I.base.free b o e n hx)
 ·obtain⟨o',e1⟩:=I.base.there b o e hx
  exact there b o' (neC b o e hx) e1
 ·obtain⟨m1,e1⟩:=I.base.tbls b ps e
  obtain⟨m2,e2⟩:=tbls b _ e1
  exact⟨m1++m2,by rw[e2,Array.append_assoc]⟩
 ·obtain⟨m,hn,hl⟩:=I.loc
  refine⟨m,ns m hn,fun i x v e1 e2 e3=>?_⟩
  obtain⟨u,r,l⟩:=hl i x v e1 e2 e3
  refine⟨u,r,?_⟩
  rcases l with l|⟨k,c,e,z⟩
  ·exact .inl l
  ·exact .inr ⟨k,c,e,cellK x c e _ z⟩
 ·obtain⟨v,z⟩:=I.cell x c e
  exact⟨v,cellK x c e v z⟩
 ·obtain⟨m,⟨o,_,_,ho,_⟩,_⟩:=I.loc
  exact free _ o (fun z=>(hch _ z).2.1 rfl) ho I.free
 ·obtain⟨v,o,ho,hd⟩:=I.cell x c e
  exact free c o (fun z=>(hch c z).2.2.1 x c e rfl) ho (I.freeC x c e)
 ·obtain⟨e,n,ne,nf,d⟩:=I.pin p hp
  have nch:p.1 ∉ ch:=fun z=>(hch p.1 z).2.2.2 p hp rfl
  exact⟨keep p.1 p.2 ne nf nch e n,free p.1 p.2 nch e n,ne,nf,d⟩
theorem Inv.un {t':Nat}(I:Inv X pins σ H s) (u:Un X.fs [] H H' s.heap h') (hok:HOk X.prog X.w H' h'):Inv X pins σ H' { s with heap:=h',toks:=t' }:=by
 obtain⟨m,⟨o,es,ep,ho,r⟩,_⟩:=id I.loc
 obtain⟨sl,hL⟩:=u.any ho I.free (by simp)
 exact I.step (g':=s.gens) (d':=s.drawn) (ch:=[]) (fun _ z=>nomatch z) (fun b o _ hb _ e n=>u.keep b o e n hb (by simp)) (fun b o _ hb _ e n=>u.slot b o e n hb (by simp)) (fun b o _ e n=>u.free b o e n (by simp)) (fun b o _ e=>u.there b o e (by simp)) u.tups u.frzs u.tbls (fun m' hm=>by
  obtain⟨o',es',ep',ho',r'⟩:=hm
  rw[ho] at ho';cases ho'
  exact⟨_,es',ep',hL,r'⟩) hok I.bare
theorem Inv.call {g':Array GenState}{t':Nat}{d':Drawn}{ch:List Addr}(I:Inv X pins σ H s) (u:Un (frs X.stack) ch H H' s.heap h') (hok:HOk X.prog X.w H' h') (hg:AllBare g')
  (hch:∀ b∈ch,(b∈X.ex∨X.s₀.heap.objs.size<=b)/\b≠X.env.locals/\(∀ x c,X.env.cells.lookup x=some c->c≠b)/\∀ p∈X.pn++pins,p.1≠b) :
  Inv X pins σ H' { s with heap:=h',gens:=g',drawn:=d',toks:=t' }:=by
 obtain⟨m,⟨o,es,ep,ho,r⟩,_⟩:=id I.loc
 obtain⟨sl,hL⟩:=u.any ho I.free fun z=>(hch _ z).2.1 rfl
 exact I.step (ch:=ch) hch (fun b o hL hb hc e n=>u.keep b o e n (fun z=>(zcq6.mp (I.stkSub b z)).elim hL hb) hc) (fun b o _ _ hc e n=>u.any e n hc) (fun b o hc e n=>u.free b o e n hc) (fun b o hc e=>u.there b o e hc) u.tups u.frzs u.tbls (fun m' hm=>by
  obtain⟨o',es',ep',ho',r'⟩:=hm
  rw[ho] at ho';cases ho'
  exact⟨_,es',ep',hL,r'⟩) hok hg
theorem Inv.turned {t':Nat}{it:Addr}(I:Inv X pins σ H s) (k:∀ b o,b≠it->s.heap.get? b=some o->h'.get? b=some o) (hn:H it=none) (hL:it≠X.env.locals)
  (h1:it∈X.ex∨X.s₀.heap.objs.size<=it) (h2:∀ x c,X.env.cells.lookup x=some c->c≠it) (h3:∀ p∈X.pn++pins,p.1≠it):Inv X pins σ H { s with heap:=h',toks:=t' }:=by
 have nit:∀ b u,H b=some u->b≠it:=fun b u e z=>by rw[z,hn] at e;cases e
 refine I.step (g':=s.gens) (d':=s.drawn) (ch:=[it]) (fun b hb=>?_) (fun b o _ _ hc e _=>k b o (fun z=>hc (by simp[z])) e) (fun b o _ _ hc e _=>⟨o.slots,k b o (fun z=>hc (by simp[z])) e⟩) (fun _ _ _ _ n=>n)
  (fun b o hc e=>⟨o,k b o (fun z=>hc (by simp[z])) e⟩) (fun _ _ e=>e) (fun _ _ _ e=>e) (fun b ps e=>⟨#[],by rw[e];simp⟩) (fun m hm=>?_) (fun b u e=>?_) I.bare
 ·have e:b=it:=by simpa using hb
  subst e
  exact⟨h1,hL,h2,h3⟩
 ·obtain⟨o,es,ep,ho,r⟩:=hm
  exact⟨o,es,ep,k _ o (Ne.symm hL) ho,r⟩
 ·refine (I.hok b u e).stay (fun c v hc q=>k c v ?_ q) (fun _ q=>q) fun _ _ q=>q
  rcases hc with z|z
  ·rw[z];exact nit b u e
  ·exact nit c _ z
theorem Inv.tok (I:Inv X pins σ H s) (t:Nat):Inv X pins σ H { s with toks:=t }:=I.un (h':=s.heap) (t':=t) Un.refl I.hok
theorem Inv.kept {t':Nat}(I:Inv X pins σ H s) (k:∀ b u,s.heap.get? b=some u->h'.get? b=some u):Inv X pins σ H { s with heap:=h',toks:=t' }:=I.un (Un.kept k) (I.hok.kept k)
theorem Inv.laid {a:Addr}{o:HO}{t':Nat}(I:Inv X pins σ H s) (k:∀ b u,s.heap.get? b=some u->h'.get? b=some u) (hp:s.heap.objs.size<=a) (new:zf3 X.prog X.w (upd H a o) h' a o) :
  Inv X pins σ (upd H a o) { s with heap:=h',toks:=t' }:=I.un (Un.laid k hp (I.hok.fresh hp)) (I.hok.laid k hp new)
theorem Inv.write {x e:Addr}{o:HO}{t':Nat}(I:Inv X pins σ H s) (mu:Mut (H x)) (he:e=x∨H e=some (.own x)) (k:∀ b u,b≠e->s.heap.get? b=some u->h'.get? b=some u) (heo:∃ u,h'.get? e=some u)
  (new:zf3 X.prog X.w (upd H x o) h' x o):Inv X pins σ (upd H x o) { s with heap:=h',toks:=t' }:=I.un (Un.write mu he k heo) (I.hok.write mu he k heo new)
theorem Inv.pins_of {pins':List (Addr×Obj)}(I:Inv X pins σ H s) (h:∀ p∈pins',s.heap.get? p.1=some p.2/\H p.1=none/\p.1≠X.env.locals/\p.1 ∉ X.fs/\∀ v,p.2.data≠.cell v):Inv X pins' σ H s:=
 ⟨I.ok,I.os,I.bare,I.base,I.loc,I.cell,I.free,I.freeC,fun p hp=>(zct7.mp hp).elim (fun z=>I.pin p (List.mem_append_left _ z)) (h p),I.hok,I.len⟩
theorem zam7 {N:List Str}(hN:N.Nodup) {i j:Nat}{x:Str}(a:N[i]?=some x) (b:N[j]?=some x):i=j:=by
 obtain⟨h1,e1⟩:=zcp4.mp a
 obtain⟨h2,e2⟩:=zcp4.mp b
 exact (List.getElem_inj hN).mp (e1.trans e2.symm)
theorem zao9 {M:Model}{A:Around}{E:Value->Shared->Prop}{i:Nat}{x:Str}{v:V}{u:Value}{Q:Unit->Shared->Prop}(I:Inv X pins σ H s) (hN:X.N.Nodup) (hi:X.N[i]?=some x) (hx:Loc X.env.scope x) (r:RelV v u)
  (h:∀ s',Inv X pins (σ.set i (some v)) H s'->(∃ a,Heap.SameBut a s.heap s'.heap/\(a=X.env.locals∨X.env.cells.lookup x=some a))->Q () s') (hf:X.fn x=true∨X.env.scope.names.lookup x=some .local:=by first|exact .inl rfl|exact .inr rfl|assumption):wpAny M A (storeName X.env x u) Q E s:=by
 obtain⟨m,hn,hl⟩:=id I.loc
 have hcls:(X.env.scope.kind==.class || (X.env.scope.kind==.module&&X.env.locals != X.env.globals))=false:=by rw[I.ok.kind];rfl
 have hiσ:i<σ.length:=by rw[I.len];exact (zcp4.mp hi).1
 have cne:=I.cne
 have tracked:∀ {a:Addr}{h':Heap},(∃ o,s.heap.get? a=some o/\H a=none)->Heap.SameBut a s.heap h'->HOk X.prog X.w H h':=fun {a h'} ha hs b ob e=>by
  obtain⟨_,_,hfree⟩:=ha
  refine (I.hok b ob e).stay (fun c w' hc q=>(hs.2 c ?_).trans q) (fun _ q=>q) fun _ _ q=>q
  rintro rfl
  rcases hc with rfl|hc
  ·rw[hfree] at e;cases e
  ·rw[hfree] at hc;cases hc
 rcases hx with hk|hk
 ·refine wpAny_storeName_local hk hn (fun h' hn' hs=>?_) hcls
  obtain⟨oL,_,_,hoL,_⟩:=id hn
  refine h _ ⟨I.ok,I.os,I.bare,⟨fun b o e n hb hx=>?_,fun b o e n hb hx=>?_,I.base.free,fun b o e hx=>?_,I.base.tups,I.base.frzs,I.base.tbls⟩,⟨_,hn',fun j y v' e1 e2 e3=>?_⟩,fun y c e=>?_,I.free,I.freeC,fun p hp=>?_,tracked ⟨oL,hoL,I.free⟩ hs,by simpa using I.len⟩ ⟨_,hs,.inl rfl⟩
  ·exact (hs.2 b (zcs5 (zcr4 (zcq7 e) I.ok.above))).trans (I.base.keep b o e n hb hx)
  ·obtain⟨sl,e1⟩:=I.base.slot b o e n hb hx
   exact⟨sl,(hs.2 b (zcs5 (zcr4 (zcq7 e) I.ok.above))).trans e1⟩
  ·obtain⟨o',e1⟩:=I.base.there b o e hx
   exact⟨o',(hs.2 b (zcs5 (zcr4 (zcq7 e) I.ok.above))).trans e1⟩
  ·by_cases hj:j=i
   ·subst hj
    rw[hi] at e1;cases e1
    rw[zcv9 hiσ] at e2
    cases e2
    exact⟨u,r,.inl ⟨hk,by simp⟩⟩
   ·rw[List.getElem?_set_ne (Ne.symm hj)] at e2
    obtain⟨u',r',q⟩:=hl j y v' e1 e2 e3
    refine⟨u',r',?_⟩
    rcases q with ⟨k,e⟩|⟨k,c,e,z⟩
    ·refine .inl ⟨k,?_⟩
     have:y≠x:=fun e=>hj (zam7 hN e1 (e▸hi))
     simp[this,e]
    ·exact .inr ⟨k,c,e,z.sameBut hs (cne y c e)⟩
  ·obtain⟨w',z⟩:=I.cell y c e
   exact⟨w',z.sameBut hs (cne y c e)⟩
  ·obtain⟨e,n,ne,nf,d⟩:=I.pin p hp
   exact⟨(hs.2 p.1 ne).trans e,n,ne,nf,d⟩
 ·have hfn:X.fn x=true:=by
   rcases hf with z|z
   ·exact z
   ·rw[z] at hk;cases hk
  obtain⟨c,hc⟩:=I.ok.has x (.inl hk)
  obtain⟨w',z⟩:=I.cell x c hc
  refine wpAny_storeName_cell I.ok.kind hk hc z (fun h' hc' hs=>?_)
  obtain⟨oc,hoc,hocd⟩:=id z
  refine h { s with heap:=h' } ⟨I.ok,I.os,I.bare,⟨fun b o e n hb hx=>?_,fun b o e n hb hx=>?_,I.base.free,fun b o e hx=>?_,I.base.tups,I.base.frzs,I.base.tbls⟩,⟨m,hn.sameBut hs (Ne.symm (cne x c hc)),fun j y v' e1 e2 e3=>?_⟩,fun y c' e=>?_,I.free,I.freeC,fun p hp=>?_,tracked ⟨oc,hoc,I.freeC x c hc⟩ hs,by simpa using I.len⟩ ⟨c,hs,.inr hc⟩
  ·exact (hs.2 b (zcs5 (zcr4 (zcq7 e) (I.ok.cab x c hfn hc)))).trans (I.base.keep b o e n hb hx)
  ·obtain⟨sl,e1⟩:=I.base.slot b o e n hb hx
   exact⟨sl,(hs.2 b (zcs5 (zcr4 (zcq7 e) (I.ok.cab x c hfn hc)))).trans e1⟩
  ·obtain⟨o',e1⟩:=I.base.there b o e hx
   exact⟨o',(hs.2 b (zcs5 (zcr4 (zcq7 e) (I.ok.cab x c hfn hc)))).trans e1⟩
  ·by_cases hj:j=i
   ·subst hj
    rw[hi] at e1;cases e1
    rw[zcv9 hiσ] at e2
    cases e2
    exact⟨u,r,.inr ⟨.inl hk,c,hc,hc'⟩⟩
   ·rw[List.getElem?_set_ne (Ne.symm hj)] at e2
    obtain⟨u',r',q⟩:=hl j y v' e1 e2 e3
    refine⟨u',r',?_⟩
    rcases q with q|⟨k,c',e,z'⟩
    ·exact .inl q
    ·refine .inr ⟨k,c',e,z'.sameBut hs ?_⟩
     rintro rfl
     exact hj (zam7 hN e1 (I.ok.inj _ _ _ e hc▸hi))
  ·by_cases hcc:c'=c
   ·subst hcc;exact⟨_,hc'⟩
   ·obtain⟨w2,z2⟩:=I.cell y c' e
    exact⟨w2,z2.sameBut hs hcc⟩
  ·obtain⟨e,n,ne,nf,d⟩:=I.pin p hp
   refine⟨(hs.2 p.1 ?_).trans e,n,ne,nf,d⟩
   intro q
   rw[q,hoc] at e
   have q':oc=p.2:=Option.some.inj e
   exact d w' (by rw[← q'];exact hocd)
theorem zu2 {M:Model}{A:Around}{E:Value->Shared->Prop}{i:Nat}{x:Str}{v:V}{u:Value}{Q:Unit->Shared->Prop}(I:Inv X pins σ H s) (hN:X.N.Nodup) (hi:X.N[i]?=some x) (hx:Loc X.env.scope x) (r:RelV v u)
  (h:∀ s',Inv X pins (σ.set i (some v)) H s'->Q () s') (hf:X.fn x=true∨X.env.scope.names.lookup x=some .local:=by first|exact .inl rfl|exact .inr rfl|assumption):wpAny M A (storeName X.env x u) Q E s:=
 zao9 I hN hi hx r (fun s' I' _=>h s' I') hf
theorem Inv.call' {s':Shared}{ch:List Addr}(I:Inv X pins σ H s) (ho:s'.os=s.os) (u:Un (frs X.stack) ch H H' s.heap s'.heap) (hok:HOk X.prog X.w H' s'.heap) (hg:AllBare s'.gens)
  (hch:∀ b∈ch,(b∈X.ex∨X.s₀.heap.objs.size<=b)/\b≠X.env.locals/\(∀ x c,X.env.cells.lookup x=some c->c≠b)/\∀ p∈X.pn++pins,p.1≠b):Inv X pins σ H' s':=by
 obtain⟨h',g',d',t',o'⟩:=s'
 have e:o'=s.os:=ho
 subst e
 exact I.call (g':=g') (t':=t') (d':=d') u hok hg hch
end
abbrev XK:=Value->Option Addr->Hp->Prop
abbrev St:=List (Option V)
abbrev VK:=V->Hp->Prop
abbrev TE:=St->Hp->VK->Prop
abbrev TT:=St->Hp->(Bool->Hp->Prop)->Prop
abbrev TA:=St->Hp->(List V->Hp->Prop)->Prop
structure Ends where
 nx:St->Hp->Prop
 rt:VK
 bk:St->Hp->Prop:=fun _ _=>False
 ct:St->Hp->Prop:=fun _ _=>False
abbrev TS:=Ends->St->Hp->Prop
def EP (X:Cx) (pins:List (Addr×Obj)) (σ:St) (Q:VK) (u:Value) (s':Shared):Prop:=∃ v H',Inv X pins σ H' s'/\RelV v u/\Q v H'
def TP (X:Cx) (pins:List (Addr×Obj)) (σ:St) (Q:Bool->Hp->Prop) (b:Bool) (s':Shared):Prop:=∃ H',Inv X pins σ H' s'/\Q b H'
def AP (X:Cx) (pins:List (Addr×Obj)) (σ:St) (Q:List V->Hp->Prop) (us:List Value) (s':Shared):Prop:=∃ vs H',Inv X pins σ H' s'/\Vals vs us/\Q vs H'
def SP (X:Cx) (pins:List (Addr×Obj)) (D:Ends) (f:Flow) (s':Shared):Prop:=
 match f with
 | .next=>∃ σ' H',Inv X pins σ' H' s'/\D.nx σ' H'
 | .brk=>∃ σ' H',Inv X pins σ' H' s'/\D.bk σ' H'
 | .cont=>∃ σ' H',Inv X pins σ' H' s'/\D.ct σ' H'
 | .ret u=>∃ v σ' H',Inv X pins σ' H' s'/\RelV v u/\D.rt v H'
def PE (X:Cx) (e:Expr) (t:TE):Prop:=
 ∀ (pins:List (Addr×Obj)) (s:Shared) (σ:St) (H:Hp) (Q:VK),Inv X pins σ H s->t σ H Q->wpAny (model X.prog X.w) X.A (eval e X.env) (EP X pins σ Q) X.xe s
def PT (X:Cx) (e:Expr) (t:TT):Prop:=
 ∀ (pins:List (Addr×Obj)) (s:Shared) (σ:St) (H:Hp) (Q:Bool->Hp->Prop),Inv X pins σ H s->t σ H Q->wpAny (model X.prog X.w) X.A (isTrue e X.env (eval e X.env)) (TP X pins σ Q) X.xe s
def PW (X:Cx) (e:Expr) (t:TT):Prop:=
 ∀ (whole:Sem Value) (pins:List (Addr×Obj)) (s:Shared) (σ:St) (H:Hp) (Q:Bool->Hp->Prop),Inv X pins σ H s->t σ H Q->wpAny (model X.prog X.w) X.A (isTrue e X.env whole) (TP X pins σ Q) X.xe s
theorem PW.pt {X:Cx}{e:Expr}{t:TT}(h:PW X e t):PT X e t:=h _
def PA (X:Cx) (es:List Expr) (t:TA):Prop:=
 ∀ (pos:Pos) (pins:List (Addr×Obj)) (s:Shared) (σ:St) (H:Hp) (Q:List V->Hp->Prop),Inv X pins σ H s->t σ H Q->wpAny (model X.prog X.w) X.A (spliced (backTo pos (starEach es X.env))) (AP X pins σ Q) X.xe s
def PS (X:Cx) (st:Stmt) (t:TS):Prop:=
 ∀ (pins:List (Addr×Obj)) (s:Shared) (σ:St) (H:Hp) (D:Ends),Inv X pins σ H s->t D σ H->wpAny (model X.prog X.w) X.A (exec st X.env) (SP X pins D) X.xe s
def PSs (X:Cx) (st:List Stmt) (t:TS):Prop:=
 ∀ (pins:List (Addr×Obj)) (s:Shared) (σ:St) (H:Hp) (D:Ends),Inv X pins σ H s->t D σ H->wpAny (model X.prog X.w) X.A (execs st X.env) (SP X pins D) X.xe s
theorem thn {α:Type}{t:Sem α}{Q Q':α->Shared->Prop}{M:Model}{A:Around}{E:Value->Shared->Prop}{s:Shared}(h:wpAny M A t Q E s) (hQ:∀ a s,Q a s->Q' a s):wpAny M A t Q' E s:=wpAny_mono h hQ fun _ _ x=>x
end L2
namespace L2
open PySem PySem.Spec PyProof.Rows
section
variable {X:Cx}
theorem bin {a b:Expr}{ta tb:TE}(ha:PE X a ta) (hb:PE X b tb) {pins:List (Addr×Obj)}{s:Shared}{σ:St}{H:Hp}{R:V->V->Hp->Prop}(I:Inv X pins σ H s) (h:ta σ H fun x H1=>tb σ H1 fun y H2=>R x y H2)
  {α:Type}{Q:α->Shared->Prop}{f:Value->Value->Sem α}
  (hf:∀ v u s2 x y H2,Inv X pins σ H2 s2->RelV x v->RelV y u->R x y H2->wpAny (model X.prog X.w) X.A (f v u) Q X.xe s2) :
  wpAny (model X.prog X.w) X.A (eval a X.env) (fun v s₁=>wpAny (model X.prog X.w) X.A (eval b X.env) (fun u s₂=>wpAny (model X.prog X.w) X.A (f v u) Q X.xe s₂) X.xe s₁) X.xe s:=by
 refine thn (ha pins s σ H _ I h) fun v s1 ⟨x,H1,I1,r1,q1⟩=>?_
 refine thn (hb pins s1 σ H1 _ I1 q1) fun u s2 ⟨y,H2,I2,r2,q2⟩=>?_
 exact hf v u s2 x y H2 I2 r1 r2 q2
def tVar (i:Nat):TE:=fun σ H Q=>∃ v,σ[i]?=some (some v)/\Q v H
def tC (v:V):TE:=fun _ H Q=>Q v H
theorem pe_var {i:Nat}{x:Str}{pos:Pos}(hN:X.N[i]?=some x) (hv:Vis X.env.scope x) (hd:(x==("__debug__":Str))=false:=by decide) (hcd:(x==("__classdict__":Str))=false:=by decide):PE X (.Name x pos) (tVar i):=by
 intro pins s σ H Q I h
 obtain⟨v,e,h⟩:=h
 obtain⟨m,hn,hl⟩:=I.loc
 obtain⟨u,r,l⟩:=hl i x v hN e hv
 have fin:EP X pins σ Q u s:=⟨v,H,I,r,h⟩
 rcases l with ⟨hk,hm⟩|⟨hk,c,hc,hcell⟩
 ·exact wpAny_Name (wpAny_loadName_local I.ok.kind hk hn hm fin) hd
 ·rcases hk with hk|hk
  ·exact wpAny_Name (wpAny_loadName_cell I.ok.kind hk hc hcell fin) hd
  ·exact wpAny_Name (wpAny_loadName_free I.ok.kind hk hc hcell fin hcd) hd
theorem za2 {i j pos}:PE X (.Constant (.int i) j pos) (tC (.int i)):=fun _ _ _ H _ I h=>wpAny_Constant_int ⟨.int i,H,I.tok _,⟨_,rfl⟩,h⟩
theorem zab7 {b j pos}:PE X (.Constant (.bool b) j pos) (tC (.bl b)):=fun _ _ _ H _ I h=>Constant_bool ⟨.bl b,H,I,rfl,h⟩
theorem zv0 {j pos}:PE X (.Constant .none j pos) (tC .non):=fun _ _ _ H _ I h=>Constant_none ⟨.non,H,I,rfl,h⟩
theorem zd1 {x j pos}:PE X (.Constant (.str x) j pos) (tC (.str x)):=fun _ _ _ H _ I h=>Calls.Constant_str ⟨.str x,H,I.tok _,⟨_,rfl⟩,h⟩
def Gl (X:Cx) (x:Str):Prop:=X.env.kindOf x=some .globalImplicit
theorem zz3 {E:Value->Shared->Prop}{pins:List (Addr×Obj)}{s:Shared}{σ:St}{H:Hp}{x:Str}{u:Value}{pos:Pos}{Q:Value->Shared->Prop}(I:Inv X pins σ H s) (hg:Gl X x) (hm:X.mg x=some u) (h:Q u s)
  (hd:(x==("__debug__":Str))=false:=by decide):wpAny (model X.prog X.w) X.A (eval (.Name x pos) X.env) Q E s:=
 Calls.Name_function_global I.ok.kind hg (Calls.loadGlobal_global (by rw[I.ok.glob];exact I.mod.glob.keeps I.bk) hm h) hd
theorem zaa0 {E:Value->Shared->Prop}{pins:List (Addr×Obj)}{s:Shared}{σ:St}{H:Hp}{x:Str}{u:Value}{pos:Pos}{Q:Value->Shared->Prop}(I:Inv X pins σ H s) (hg:Gl X x) (hm:X.mg x=none) (hv:bootBuiltins x=some u) (h:Q u s)
  (hn:x≠"__name__":=by decide) (hd:(x==("__debug__":Str))=false:=by decide):wpAny (model X.prog X.w) X.A (eval (.Name x pos) X.env) Q E s:=by
 obtain⟨mb,h1,h2⟩:=I.mod.blt
 exact Calls.Name_function_global I.ok.kind hg (Calls.loadGlobal_builtin (by rw[I.ok.glob];exact I.mod.glob.keeps I.bk) hm (by rw[I.ok.blt];exact h1.keeps I.bk) ((h2 x hn).trans hv) h) hd
theorem zq8 {x:Str}{v:V}{u:Value}{pos:Pos}(hg:Gl X x) (hm:X.mg x=some u) (r:RelV v u) (hd:(x==("__debug__":Str))=false:=by decide):PE X (.Name x pos) (tC v):=
 fun _ _ _ H _ I h=>zz3 I hg hm ⟨v,H,I,r,h⟩ hd
theorem zci3 {x:Str}{v:V}{u:Value}{pos:Pos}(hg:Gl X x) (hm:X.mg x=none) (hv:bootBuiltins x=some u) (r:RelV v u) (hn:x≠"__name__":=by decide) (hd:(x==("__debug__":Str))=false:=by decide):PE X (.Name x pos) (tC v):=
 fun _ _ _ H _ I h=>zaa0 I hg hm hv ⟨v,H,I,r,h⟩ hn hd
variable {a b:Expr}{ta tb:TE}{pos:Pos}
variable {tA tB':TT}{rest:List Expr}
def tAnd (t u:TT):TT:=fun σ H Q=>t σ H fun c H1=>if c=true then u σ H1 Q else Q false H1
def tOr (t u:TT):TT:=fun σ H Q=>t σ H fun c H1=>if c=true then Q true H1 else u σ H1 Q
def tNot (t:TT):TT:=fun σ H Q=>t σ H fun c H1=>Q (!c) H1
theorem zay7 (ha:PT X a tA):PW X (.BoolOp .And [a] pos) tA:=by
 intro wh pins s σ H Q I h
 refine isTrue_and (thn (ha pins s σ H Q I h) fun c s1 e=>?_)
 cases c with
 | true=>exact isTrue_and_nil e
 | false=>exact e
theorem zz7 (ha:PT X a tA):PW X (.BoolOp .Or [a] pos) tA:=by
 intro wh pins s σ H Q I h
 refine isTrue_or (thn (ha pins s σ H Q I h) fun c s1 e=>?_)
 cases c with
 | false=>exact isTrue_or_nil e
 | true=>exact e
theorem pw_and (ha:PT X a tA) (hb:PW X (.BoolOp .And (b :: rest) pos) tB'):PW X (.BoolOp .And (a :: b :: rest) pos) (tAnd tA tB'):=by
 intro wh pins s σ H Q I h
 refine isTrue_and (thn (ha pins s σ H _ I h) fun c s1 ⟨H1,I1,q1⟩=>?_)
 cases c with
 | true=>exact hb wh pins s1 σ H1 Q I1 q1
 | false=>exact⟨H1,I1,q1⟩
theorem pw_or (ha:PT X a tA) (hb:PW X (.BoolOp .Or (b :: rest) pos) tB'):PW X (.BoolOp .Or (a :: b :: rest) pos) (tOr tA tB'):=by
 intro wh pins s σ H Q I h
 refine isTrue_or (thn (ha pins s σ H _ I h) fun c s1 ⟨H1,I1,q1⟩=>?_)
 cases c with
 | true=>exact⟨H1,I1,q1⟩
 | false=>exact hb wh pins s1 σ H1 Q I1 q1
theorem zp9 (ha:PT X a tA):PT X (.UnaryOp .Not a pos) (tNot tA):=by
 intro pins s σ H Q I h
 exact isTrue_not (ha pins s σ H (fun c H1=>Q (!c) H1) I h)
theorem zs2 {op} {t:TE}(h:PE X a t):PE X (.BoolOp op [a] pos) t:=fun pins s σ H Q I hw=>BoolOp_one (h pins s σ H Q I hw)
def tIf (t:TT) (ta tb:TE):TE:=fun σ H Q=>t σ H fun c H1=>if c=true then ta σ H1 Q else tb σ H1 Q
theorem zbw6 {c:Expr}(hc:PT X c tA) (ha:PE X a ta) (hb:PE X b tb):PE X (.IfExp c a b pos) (tIf tA ta tb):=by
 intro pins s σ H Q I h
 refine wpAny_IfExp (thn (hc pins s σ H _ I h) fun d s1 ⟨H1,I1,q1⟩=>?_)
 cases d with
 | true=>exact ha pins s1 σ H1 Q I1 q1
 | false=>exact hb pins s1 σ H1 Q I1 q1
end
end L2
namespace L2
open PySem PySem.Spec PyProof.Rows
def SqL (K:zcp3) (H:Hp) (a:Addr) (xs:List V):Prop:=
 Rd H a (.lst xs) ∨
  ∃ (o:Obj) (its:Array Value) (n:Nat),K.lookup a=some o/\o.cls=.type "list"/\o.dict=none/\o.data=.seq its n/\its.size<=sizeLine/\Vals xs its.toList
def SqT (K:zcp3) (H:Hp) (a:Addr) (xs:List V):Prop:=
 Rd H a (.tup xs) ∨
  ∃ (o:Obj) (its:Array Value) (n:Nat),K.lookup a=some o/\o.cls=.type "tuple"/\o.data=.seq its n/\its.size<=sizeLine/\Vals xs its.toList
def absV:Value->Option V
 | .none=>some .non
 | .bool b=>some (.bl b)
 | .int i _=>some (.int i)
 | .str x _=>some (.str x)
 | .bytes b _=>some (.byt b)
 | .float b _=>some (.flt b)
 | .ref a=>some (.ref a)
 | .type n=>some (.ty n)
 | _=>none
theorem RelV.abs {x:V}{u:Value}(r:RelV x u):absV u=some x:=by
 cases x with
 | non=>cases r;rfl
 | bl _=>cases r;rfl
 | int _=>obtain⟨t,rfl⟩:=r;rfl
 | str _=>obtain⟨t,rfl⟩:=r;rfl
 | byt _=>obtain⟨t,rfl⟩:=r;rfl
 | flt _=>obtain⟨t,rfl⟩:=r;rfl
 | ref _=>cases r;rfl
 | ty _=>cases r;rfl
theorem RelV.inj {x y:V}{u:Value}(r:RelV x u) (q:RelV y u):x=y:=Option.some.inj (r.abs.symm.trans q.abs)
theorem Vals.inj:∀ {xs ys:List V}{us:List Value},Vals xs us->Vals ys us->xs=ys
 | _,_,_,.nil,.nil=>rfl
 | _,_,_,.cons r t,.cons r' t'=>by rw[r.inj r',Vals.inj t t']
section
variable {X:Cx}{pins:List (Addr×Obj)}{σ:St}{H:Hp}{s:Shared}{a:Addr}{xs ys:List V}
theorem SqL.of {K:zcp3}(h:H a=some (.lst xs)):SqL K H a xs:=.inl (.inl h)
theorem SqT.of {K:zcp3}(h:H a=some (.tup xs)):SqT K H a xs:=.inl (.inl h)
theorem Inv.list (I:Inv X pins σ H s) (h:SqL X.K H a xs):∃ its:List Value,Vals xs its/\PlainL s.heap a its.toArray/\xs.length<=sizeLine:=by
 rcases h with h|⟨o,its,n,hk,hc,hd,hs,hz,r⟩
 ·obtain⟨z,its,n,r,e⟩:=h.ok I.hok
  exact⟨its,r,⟨_,n,e,rfl,rfl,rfl⟩,z⟩
 ·refine⟨its.toList,r,⟨o,n,I.kIn a o hk,hc,hd,by simpa using hs⟩,?_⟩
  have e:=r.length
  simp only[Array.length_toList] at e
  omega
theorem Inv.tuple (I:Inv X pins σ H s) (h:SqT X.K H a xs):∃ its:List Value,Vals xs its/\IsTup s.heap a its.toArray/\xs.length<=sizeLine:=by
 rcases h with h|⟨o,its,n,hk,hc,hs,hz,r⟩
 ·obtain⟨z,its,r,p⟩:=h.ok I.hok
  exact⟨its,r,p,z⟩
 ·refine⟨its.toList,r,⟨o,I.kIn a o hk,hc,n,by simpa using hs⟩,?_⟩
  have e:=r.length
  simp only[Array.length_toList] at e
  omega
theorem Inv.list_inj (I:Inv X pins σ H s) (h:SqL X.K H a xs) (h':SqL X.K H a ys):xs=ys:=by
 obtain⟨its,r,⟨o,n,e,_,_,d⟩,_⟩:=I.list h
 obtain⟨its',r',⟨o',n',e',_,_,d'⟩,_⟩:=I.list h'
 rw[e] at e';cases e'
 rw[d] at d'
 injection d' with d1 _
 have:its=its':=by simpa using congrArg Array.toList d1
 subst this
 exact r.inj r'
theorem Inv.tuple_inj (I:Inv X pins σ H s) (h:SqT X.K H a xs) (h':SqT X.K H a ys):xs=ys:=by
 obtain⟨its,r,⟨o,e,_,n,d⟩,_⟩:=I.tuple h
 obtain⟨its',r',⟨o',e',_,n',d'⟩,_⟩:=I.tuple h'
 rw[e] at e';cases e'
 rw[d] at d'
 injection d' with d1 _
 have:its=its':=by simpa using congrArg Array.toList d1
 subst this
 exact r.inj r'
end
abbrev Cx.wish (X:Cx) (E:Value->Shared->Prop):Cx:={ X with xe:=E }
abbrev Cx.nox (X:Cx):Cx:=X.wish fun _ _=>False
theorem Cx.Ok.wish {X:Cx}(ok:X.Ok) (E:Value->Shared->Prop):(X.wish E).Ok:=
 ⟨ok.mod,ok.kind,ok.glob,ok.blt,ok.above,ok.inj,ok.has,ok.cab,ok.hd,ok.frames,ok.stk,ok.exf,ok.bs,ok.bsz,ok.noex,ok.exfs,ok.funs,ok.frf⟩
theorem Cx.Ok.unwish {X:Cx}{E:Value->Shared->Prop}(ok:(X.wish E).Ok):X.Ok:=
 ⟨ok.mod,ok.kind,ok.glob,ok.blt,ok.above,ok.inj,ok.has,ok.cab,ok.hd,ok.frames,ok.stk,ok.exf,ok.bs,ok.bsz,ok.noex,ok.exfs,ok.funs,ok.frf⟩
section
variable {X:Cx}{pins:List (Addr×Obj)}{σ:St}{H:Hp}{s:Shared}{E:Value->Shared->Prop}
theorem Inv.wish (I:Inv X pins σ H s) (E:Value->Shared->Prop):Inv (X.wish E) pins σ H s:=⟨I.ok.wish E,I.os,I.bare,I.base,I.loc,I.cell,I.free,I.freeC,I.pin,I.hok,I.len⟩
theorem Inv.unwish (I:Inv (X.wish E) pins σ H s):Inv X pins σ H s:=⟨I.ok.unwish,I.os,I.bare,I.base,I.loc,I.cell,I.free,I.freeC,I.pin,I.hok,I.len⟩
theorem SP.unwish {D:Ends}{f:Flow}{s':Shared}(h:SP (X.wish E) pins D f s'):SP X pins D f s':=by
 cases f with
 | next=>obtain⟨σ',H',I,q⟩:=h;exact⟨σ',H',I.unwish,q⟩
 | brk=>obtain⟨σ',H',I,q⟩:=h;exact⟨σ',H',I.unwish,q⟩
 | cont=>obtain⟨σ',H',I,q⟩:=h;exact⟨σ',H',I.unwish,q⟩
 | ret u=>obtain⟨v,σ',H',I,r,q⟩:=h;exact⟨v,σ',H',I.unwish,r,q⟩
theorem PSs.nox {st:List Stmt}{t:TS}(h:PSs X.nox st t):PSs X st t:=fun pins s σ H D I hw=>
 wpAny_mono (h pins s σ H D (I.wish _) hw) (fun _ _ q=>q.unwish) fun _ _ z=>False.elim z
end
section
variable {X:Cx}{st:Stmt}{rest:List Stmt}{t u:TS}{e:Expr}{te:TE}{pos:Pos}
def tNext:TS:=fun D σ H=>D.nx σ H
def tSeq (t u:TS):TS:=fun D σ H=>t { D with nx:=u D } σ H
theorem zb8:PSs X [] tNext:=fun _ _ σ H _ I h=>wpAny_execs_nil ⟨σ,H,I,h⟩
theorem za4 (h1:PS X st t) (h2:PSs X rest u):PSs X (st :: rest) (tSeq t u):=by
 intro pins s σ H D I h
 refine wpAny_execs_cons (thn (h1 pins s σ H { D with nx:=u D } I h) fun f s1 q=>?_)
 cases f with
 | next=>
  obtain⟨σ',H',I',q⟩:=q
  exact h2 pins s1 σ' H' D I' q
 | ret v=>exact q
 | brk=>exact q
 | cont=>exact q
theorem za5 (h1:PS X st t):PSs X [st] t:=by
 intro pins s σ H D I h
 refine wpAny_execs_cons (thn (h1 pins s σ H D I h) fun f s1 q=>?_)
 cases f with
 | next=>exact wpAny_execs_nil q
 | ret v=>exact q
 | brk=>exact q
 | cont=>exact q
theorem Inv.quiet {pins:List (Addr×Obj)}{σ:St}{H:Hp}{s:Shared}(I:Inv X pins σ H s):interactive X.env=false:=by simp[interactive,I.ok.kind]
def tDrop (te:TE):TS:=fun D σ H=>te σ H fun _ H1=>D.nx σ H1
theorem zs0 (he:PE X e te) (hs:swapsWith e none pos.line X.env=pure false:=by rfl):PS X (.Expr e pos) (tDrop te):=by
 intro pins s σ H D I h
 exact wpAny_Expr_any (thn (he pins s σ H _ I h) fun v s1 ⟨x,H1,I1,r1,q1⟩=>⟨σ,H1,I1,q1⟩) I.quiet hs
def tRet (te:TE):TS:=fun D σ H=>te σ H D.rt
theorem za9 (he:PE X e te):PS X (.Return (some e) pos) (tRet te):=by
 intro pins s σ H D I h
 exact wpAny_Return_some (thn (he pins s σ H _ I h) fun v s1 ⟨x,H1,I1,r1,q1⟩=>⟨x,σ,H1,I1,r1,q1⟩)
def tIfS (c:TT) (t u:TS):TS:=fun D σ H=>c σ H fun b H1=>if b=true then t D σ H1 else u D σ H1
theorem ps_if {c:Expr}{a b:List Stmt}{tc:TT}(hc:PT X c tc) (ha:PSs X a t) (hb:PSs X b u):PS X (.If c a b pos) (tIfS tc t u):=by
 intro pins s σ H D I h
 refine wpAny_If (thn (hc pins s σ H _ I h) fun d s1 ⟨H1,I1,q1⟩=>?_)
 cases d with
 | true=>exact ha pins s1 σ H1 D I1 q1
 | false=>exact hb pins s1 σ H1 D I1 q1
end
abbrev TG:=V->St->Hp->(St->Hp->Prop)->Prop
abbrev TGs:=List V->St->Hp->(St->Hp->Prop)->Prop
def PG (X:Cx) (target:Expr) (t:TG):Prop:=
 ∀ (pins:List (Addr×Obj)) (s:Shared) (σ:St) (H:Hp) (v:V) (u:Value) (Q:St->Hp->Prop),Inv X pins σ H s->RelV v u->t v σ H Q ->
  wpAny (model X.prog X.w) X.A (assign target X.env u) (fun _ s'=>∃ σ' H',Inv X pins σ' H' s'/\Q σ' H') X.xe s
def PGs (X:Cx) (ts:List Expr) (t:TGs):Prop:=
 ∀ (pins:List (Addr×Obj)) (s:Shared) (σ:St) (H:Hp) (vs:List V) (us:List Value) (Q:St->Hp->Prop),Inv X pins σ H s->Vals vs us->t vs σ H Q ->
  wpAny (model X.prog X.w) X.A (assignInOrder ((assignEach ts X.env).map (·.2)) us) (fun _ s'=>∃ σ' H',Inv X pins σ' H' s'/\Q σ' H') X.xe s
abbrev TSet:=V->V->V->Hp->(Hp->Prop)->Prop
def PSet (X:Cx) (t:TSet):Prop:=
 ∀ (pins:List (Addr×Obj)) (s:Shared) (σ:St) (H:Hp) (o i v:V) (ov iv u:Value) (Q:Hp->Prop),Inv X pins σ H s->RelV o ov->RelV i iv->RelV v u->t o i v H Q ->
  wpAny (model X.prog X.w) X.A (setItem ov iv u) (fun _ s'=>∃ H',Inv X pins σ H' s'/\Q H') X.xe s
section
variable {X:Cx}{pos:Pos}
def zbr2 (i:Nat):TG:=fun v σ H Q=>Q (σ.set i (some v)) H
theorem za7 {i:Nat}{x:Str}(hN:X.N.Nodup) (hi:X.N[i]?=some x) (hx:Loc X.env.scope x) (hf:X.fn x=true∨X.env.scope.names.lookup x=some .local:=by first|exact .inl rfl|exact .inr rfl|assumption):PG X (.Name x pos) (zbr2 i):=by
 intro pins s σ H v u Q I r h
 exact wpAny_assign_Name (zu2 I hN hi hx r (fun s' I'=>⟨_,H,I',h⟩) hf)
def gNil:TGs:=fun vs σ H Q=>vs=[]/\Q σ H
def gCons (t:TG) (u:TGs):TGs:=fun vs σ H Q=>∃ v r,vs=v :: r/\t v σ H fun σ' H'=>u r σ' H' Q
theorem zcc2:PGs X [] gNil:=by
 intro pins s σ H vs us Q I r h
 obtain⟨e,h⟩:=h
 subst e
 cases r
 exact assignInOrder_nil ⟨σ,H,I,h⟩
theorem zbs2 {e:Expr}{es:List Expr}{t:TG}{u:TGs}(h1:PG X e t) (h2:PGs X es u)
  (hs:(assignEach (e :: es) X.env).map (·.2)=assign e X.env :: (assignEach es X.env).map (·.2):=by rfl):PGs X (e :: es) (gCons t u):=by
 intro pins s σ H vs us Q I r h
 obtain⟨v,vr,e1,h⟩:=h
 subst e1
 cases r with
 | cons r rr=>
  rw[hs]
  refine assignInOrder_cons (thn (h1 pins s σ H _ _ _ I r h) fun _ s1 ⟨σ1,H1,I1,q1⟩=>?_)
  exact h2 pins s1 σ1 H1 _ _ Q I1 rr q1
def gTup (K:zcp3) (n:Nat) (t:TGs):TG:=fun v σ H Q=>∃ a xs,v=.ref a/\SqT K H a xs/\xs.length=n/\t xs σ H Q
theorem pg_tup {es:List Expr}{k:Nat}{t:TGs}{n:Nat}(hc:X.calm=true) (h:PGs X es t)
  (hn:(assignEach es X.env).length=n:=by rfl) (hst:(assignEach es X.env).findIdx? (·.1)=none:=by rfl):PG X (.Tuple es k pos) (gTup X.K n t):=by
 intro pins s σ H v u Q I r hw
 obtain⟨a,xs,e1,hq,hl,hw⟩:=hw
 subst e1
 cases r
 obtain⟨its,rv,ht,hz⟩:=I.tuple hq
 refine assign_Tuple_tuple (I.ok.hd hc) ht (by simp[hn,← hl,rv.length]) hst fun h' hx=>?_
 have I1:Inv X pins σ H { s with heap:=h' }:=I.kept (t':=s.toks) fun b o e=>hx b o (zcs5 (zcq7 e)) e
 exact h pins _ σ H xs _ Q I1 (by simpa using rv) hw
def gSub (to ti:TE) (t:TSet):TG:=fun v σ H Q=>to σ H fun o H1=>ti σ H1 fun i H2=>t o i v H2 fun H3=>Q σ H3
theorem zbn5 {o i:Expr}{to ti:TE}{t:TSet}(ho:PE X o to) (hi:PE X i ti) (hs:PSet X t)
  (ha:∀ v,assign (.Subscript o i pos) X.env v=(do
   let ov ← holding [v] (eval o X.env)
   let iv ← holding [v,ov] (eval i X.env)
   standAt pos
   holding [v,ov,iv] (setItem ov iv v)
   release [v,ov,iv] []):=by intro _;rfl):PG X (.Subscript o i pos) (gSub to ti t):=by
 intro pins s σ H v u Q I r h
 rw[ha]
 refine wpAny_bind (wpAny_holding (thn (ho pins s σ H _ I h) fun ov s1 ⟨x,H1,I1,r1,q1⟩=>?_))
 refine wpAny_bind (wpAny_holding (thn (hi pins s1 σ H1 _ I1 q1) fun iv s2 ⟨y,H2,I2,r2,q2⟩=>?_))
 refine wpAny_bind (wpAny_standAt (wpAny_bind (wpAny_holding (thn (hs pins s2 σ H2 x y v ov iv u _ I2 r1 r2 r q2) fun _ s3 ⟨H3,I3,q3⟩=>?_))))
 exact wpAny_release ⟨σ,H3,I3,q3⟩
def tAsg (te:TE) (g:TG):TS:=fun D σ H=>te σ H fun x H1=>g x σ H1 D.nx
theorem zbc0 {tg e:Expr}{te:TE}{g:TG}(he:PE X e te) (hg:PG X tg g) (hs:swapsWithSole [tg] e pos.line X.env=pure false:=by rfl) (hw:swappedStores [tg] e X.env=pure none:=by rfl)
  (h1:(assignEach [tg] X.env).map (·.2)=[assign tg X.env]:=by rfl):PS X (.Assign [tg] e pos) (tAsg te g):=by
 intro pins s σ H D I h
 refine wpAny_Assign_stores (thn (he pins s σ H _ I h) fun v s1 ⟨x,H1,I1,r1,q1⟩=>?_) hs hw
 rw[h1]
 exact thn (hg pins s1 σ H1 x v _ I1 r1 q1) fun _ s2 q=>q
theorem zca1 {i:Nat}{x:Str}{e:Expr}{te:TE}{pos':Pos}(hN:X.N.Nodup) (hi:X.N[i]?=some x) (hx:Loc X.env.scope x) (he:PE X e te) (hs:swapsWith e (some (.Name x pos')) pos.line X.env=pure false:=by rfl) (hf:X.fn x=true∨X.env.scope.names.lookup x=some .local:=by first|exact .inl rfl|exact .inr rfl|assumption) :
  PS X (.Assign [.Name x pos'] e pos) (tAsg te (zbr2 i)):=by
 intro pins s σ H D I h
 refine wpAny_Assign_Name (thn (he pins s σ H _ I h) fun v s1 ⟨y,H1,I1,r1,q1⟩=>?_) hs
 exact zu2 I1 hN hi hx r1 (fun s2 I2=>⟨_,H1,I2,q1⟩) hf
end
section
variable {X:Cx}{pos:Pos}
def tWhile (c:TT) (tb:TS):TS:=fun D σ H=>∃ W:Nat->St->Hp->Prop,(∃ m,W m σ H)/\∀ m σ H,W m σ H ->
 c σ H fun b H1=>if b=true then ∃ N:St->Hp->Prop,(∀ σ' H',N σ' H'->∃ m',m'<m/\W m' σ' H')/\tb { D with nx:=N,ct:=N,bk:=D.nx } σ H1 else D.nx σ H1
theorem zbw4 {c:Expr}{body:List Stmt}{tc:TT}{tb:TS}(hp:PassesOwn (model X.prog X.w) X.A X.env X.xe) (hc:PT X c tc) (hb:PSs X body tb):PS X (.While c body [] pos) (tWhile tc tb):=by
 intro pins s σ H D I h
 obtain⟨W,⟨m0,w0⟩,turn⟩:=h
 refine wpAny_While (codeAny_whileLoop (fun n s'=>∃ σ' H',Inv X pins σ' H' s'/\W n σ' H') ?_ m0 ⟨σ,H,I,w0⟩)
 rintro n s1 ⟨σ1,H1,I1,w1⟩
 refine wpAny_passesOwn hp (thn (hc pins s1 σ1 H1 _ I1 (turn n σ1 H1 w1)) fun b s2 ⟨H2,I2,q2⟩=>?_)
 cases b with
 | true=>
  obtain⟨N,hN,q2⟩:=q2
  rw[if_pos rfl]
  refine wpAny_passesOwn hp (thn (hb pins s2 σ1 H2 _ I2 q2) fun f s3 q3=>?_)
  cases f with
  | next=>
   obtain⟨σ3,H3,I3,n3⟩:=q3
   obtain⟨m',hm,w3⟩:=hN σ3 H3 n3
   exact⟨m',hm,σ3,H3,I3,w3⟩
  | cont=>
   obtain⟨σ3,H3,I3,n3⟩:=q3
   obtain⟨m',hm,w3⟩:=hN σ3 H3 n3
   exact⟨m',hm,σ3,H3,I3,w3⟩
  | brk=>exact q3
  | ret v=>exact q3
 | false=>
  rw[if_neg zcq0]
  exact wpAny_execs_nil ⟨σ1,H2,I2,q2⟩
end
structure It where
 go:Nat->Hp->Prop
 yld:Nat->Hp->V->Hp->Prop
 stop:Nat->Hp->Prop
def FpOk (X:Cx) (pins:List (Addr×Obj)) (H:Hp) (b:Addr):Prop:=
 H b=none/\b≠X.env.locals/\b ∉ X.fs/\(b∈X.ex∨X.s₀.heap.objs.size<=b)/\(∀ x c,X.env.cells.lookup x=some c->c≠b)/\∀ p∈X.pn++pins,p.1≠b
theorem Inv.fpOk {X:Cx}{pins:List (Addr×Obj)}{σ:St}{H H':Hp}{s:Shared}{b:Addr}(I:Inv X pins σ H s) (hb:s.heap.objs.size<=b) (hn:H' b=none):FpOk X pins H' b:=by
 refine⟨hn,zcw3 (zcr4 I.lt hb),I.nofs hb,.inr (zcu1 I.sz hb),fun x c e z=>?_,fun p hp z=>?_⟩
 ·obtain⟨v,q⟩:=I.cell x c e
  exact absurd (zcr4 q.lt (by rw[z];exact hb)) (zcv8 _)
 ·exact absurd (zcr4 (zcq7 (I.pin p hp).1) (by rw[z];exact hb)) (zcv8 _)
structure Turn (P:Program) (w:World) (K:zcp3) (tg:Expr) (J:It) (fp:List Addr) (it:Addr) (tn:Nat->Heap->Prop):Prop where
 mem:it∈fp
 obj:∀ i h,tn i h->∀ b∈fp,∃ o,h.get? b=some o/\∀ v,o.data≠.cell v
 keep:∀ i h h',tn i h->(∀ b∈fp,∀ o,h.get? b=some o->h'.get? b=some o)->tn i h'
 item:∀ (X:Cx),X.prog=P->X.w=w->X.K=K->X.calm=true->∀ (i:Nat) (pins:List (Addr×Obj)) (s:Shared) (σ:St) (H:Hp) (E:Value->Shared->Prop),Inv X pins σ H s->(∀ b∈fp,FpOk X pins H b)->tn i s.heap->J.go i H ->
  wpAny (model P w) X.A (pyNext (.ref it)) (fun r s1=>∃ u,r=some u /\
   wpAny (model P w) X.A (letOwnedTupleGo tg (.ref it) u) (fun _ s2=>∃ x H',Inv X pins σ H' s2/\RelV x u/\J.yld i H x H'/\tn (i+1) s2.heap/\∀ b∈fp,H' b=none) E s1) E s
 done:∀ (X:Cx),X.prog=P->X.w=w->X.K=K->X.calm=true->∀ (i:Nat) (pins:List (Addr×Obj)) (s:Shared) (σ:St) (H:Hp) (E:Value->Shared->Prop),Inv X pins σ H s->(∀ b∈fp,FpOk X pins H b)->tn i s.heap->J.stop i H ->
  wpAny (model P w) X.A (pyNext (.ref it)) (fun r s1=>r=none/\Inv X pins σ H s1) E s
 self:∀ (A:Around) (i:Nat) (s:Shared) (Q:Value->Shared->Prop) (E:Value->Shared->Prop),tn i s.heap->Q (.ref it) s->wpAny (model P w) A (pyIter (.ref it)) Q E s
abbrev TI:=St->Hp->(It->Hp->Prop)->Prop
def PIE (X:Cx) (pins:List (Addr×Obj)) (σ:St) (tg:Expr) (R:It->Hp->Prop) (itv:Value) (s2:Shared):Prop:=
 ∃ (it:Addr) (fp:List Addr) (tn:Nat->Heap->Prop) (J:It) (H':Hp),itv=.ref it/\Inv X pins σ H' s2/\Turn X.prog X.w X.K tg J fp it tn/\tn 0 s2.heap/\(∀ b∈fp,FpOk X pins H' b)/\R J H'
def PI (X:Cx) (tg iter:Expr) (wi:TI):Prop:=
 ∀ (pins:List (Addr×Obj)) (s:Shared) (σ:St) (H:Hp) (R:It->Hp->Prop),Inv X pins σ H s->wi σ H R ->
  wpAny (model X.prog X.w) X.A (eval iter X.env) (fun v s1=>wpAny (model X.prog X.w) X.A (pyIter v) (PIE X pins σ tg R) X.xe s1) X.xe s
theorem go_of {M:Model}{A:Around}{E:Value->Shared->Prop}{s:Shared}{tg:Expr}{it:Addr}{u:Value}{o:Obj}{n:String}{vs:Array Value}{Q:Unit->Shared->Prop}(ho:s.heap.get? it=some o) (hc:o.cls=.type n) (hd:o.data=.fields vs)
  (hn:["enumerate","zip","dict_itemiterator","dict_reverseitemiterator","odict_iterator","itertools.zip_longest","itertools.pairwise"].contains n=false) (hQ:Q () s):wpAny M A (letOwnedTupleGo tg (.ref it) u) Q E s:=by
 unfold letOwnedTupleGo
 cases tg<;>first
  | exact wpAny_pure hQ
  | (cases u<;>first
    | exact wpAny_pure hQ
    | (refine wpAny_bind (wpAny_load ho ?_);rw[hc,hd];show wpAny M A (if (["enumerate","zip","dict_itemiterator","dict_reverseitemiterator","odict_iterator","itertools.zip_longest","itertools.pairwise"].contains n&&vs[0]?==some (rawInt _))=true then _ else _) Q E s;rw[if_neg (by intro h;rw[hn,Bool.false_and] at h;cases h)];exact wpAny_pure hQ))
def Itl (K:zcp3) (a:Addr):It:=
 ⟨fun i H=>∃ xs x,SqL K H a xs/\xs[i]?=some x,fun i H x H'=>H'=H/\∀ xs,SqL K H a xs->xs[i]?=some x,fun i H=>∃ xs,SqL K H a xs/\xs.length<=i⟩
def Itt (K:zcp3) (a:Addr):It:=
 ⟨fun i H=>∃ xs x,SqT K H a xs/\xs[i]?=some x,fun i H x H'=>H'=H/\∀ xs,SqT K H a xs->xs[i]?=some x,fun i H=>∃ xs,SqT K H a xs/\xs.length<=i⟩
def Itr (lo:Int) (n:Nat):It:=⟨fun i _=>i<n,fun i H x H'=>H'=H/\x=.int (lo+i),fun i _=>n<=i⟩
theorem zbh9 {P:Program}{w:World}{K:zcp3}{tg:Expr}(a it:Addr):Turn P w K tg (Itl K a) [it] it (fun i h=>h.IsListIter it a i) where
 mem:=by simp
 obj:=fun i h st b hb=>by
  have e:b=it:=by simpa using hb
  subst e
  obtain⟨o,e,c,d⟩:=st
  exact⟨o,e,fun v z=>by rw[d] at z;cases z⟩
 keep:=fun i h h' st k=>st.at fun o e=>k it (by simp) o e
 item:=by
  intro X hP hw hK hc i pins s σ H E I hf st hg
  subst hP hw hK
  obtain⟨xs,x,hq,hx⟩:=hg
  obtain⟨its,rv,p,hz⟩:=I.list hq
  obtain⟨u,hu,ru⟩:=rv.get hx
  obtain⟨f0,f1,f2,f3,f4,f5⟩:=hf it (by simp)
  refine wpAny_pyNext_list_item st p.isList (x:=u) (by simpa using hu) fun h' st' sb=>?_
  have I1:Inv X pins σ H { s with heap:=h' }:=I.turned (t':=s.toks) (fun b o hb e=>(sb.2 b hb).trans e) f0 f1 f3 f4 f5
  obtain⟨o,e,c,d⟩:=id st'
  exact⟨u,rfl,go_of (s:={ s with heap:=h' }) e c d (by decide) ⟨x,H,I1,ru,⟨rfl,fun ys hy=>by rw[I.list_inj hy hq];exact hx⟩,st',fun b hb=>(hf b hb).1⟩⟩
 done:=by
  intro X hP hw hK hc i pins s σ H E I hf st hg
  subst hP hw hK
  obtain⟨xs,hq,hx⟩:=hg
  obtain⟨its,rv,p,hz⟩:=I.list hq
  obtain⟨f0,f1,f2,f3,f4,f5⟩:=hf it (by simp)
  have hl:=rv.length
  exact wpAny_pyNext_list_end (I.ok.hd hc) st p.isList (by simp;omega) fun h' eb=>⟨rfl,I.turned (t':=s.toks) (fun b o hb e=>eb b o hb e) f0 f1 f3 f4 f5⟩
 self:=fun _ _ _ _ _ st h=>wpAny_pyIter_listiter st h
theorem zbe2 {P:Program}{w:World}{K:zcp3}{tg:Expr}(a it:Addr):Turn P w K tg (Itt K a) [it] it (fun i h=>h.IsTupleIter it a i) where
 mem:=by simp
 obj:=fun i h st b hb=>by
  have e:b=it:=by simpa using hb
  subst e
  obtain⟨o,e,c,d⟩:=st
  exact⟨o,e,fun v z=>by rw[d] at z;cases z⟩
 keep:=fun i h h' st k=>st.at fun o e=>k it (by simp) o e
 item:=by
  intro X hP hw hK hc i pins s σ H E I hf st hg
  subst hP hw hK
  obtain⟨xs,x,hq,hx⟩:=hg
  obtain⟨its,rv,p,hz⟩:=I.tuple hq
  obtain⟨u,hu,ru⟩:=rv.get hx
  obtain⟨f0,f1,f2,f3,f4,f5⟩:=hf it (by simp)
  refine wpAny_pyNext_tuple_item st (show s.heap.IsTuple a its.toArray from p) (x:=u) (by simpa using hu) fun h' st' sb=>?_
  have I1:Inv X pins σ H { s with heap:=h' }:=I.turned (t':=s.toks) (fun b o hb e=>(sb.2 b hb).trans e) f0 f1 f3 f4 f5
  obtain⟨o,e,c,d⟩:=id st'
  exact⟨u,rfl,go_of (s:={ s with heap:=h' }) e c d (by decide) ⟨x,H,I1,ru,⟨rfl,fun ys hy=>by rw[I.tuple_inj hy hq];exact hx⟩,st',fun b hb=>(hf b hb).1⟩⟩
 done:=by
  intro X hP hw hK hc i pins s σ H E I hf st hg
  subst hP hw hK
  obtain⟨xs,hq,hx⟩:=hg
  obtain⟨its,rv,p,hz⟩:=I.tuple hq
  obtain⟨f0,f1,f2,f3,f4,f5⟩:=hf it (by simp)
  have hl:=rv.length
  exact wpAny_pyNext_tuple_end (I.ok.hd hc) st (show s.heap.IsTuple a its.toArray from p) (by simp;omega) fun h' eb=>⟨rfl,I.turned (t':=s.toks) (fun b o hb e=>eb b o hb e) f0 f1 f3 f4 f5⟩
 self:=fun _ _ _ _ _ st h=>wpAny_pyIter_tupleiter st h
theorem zbg5 {P:Program}{w:World}{K:zcp3}{tg:Expr}(it:Addr) (lo:Int) (n:Nat):Turn P w K tg (Itr lo n) [it] it (fun i h=>IsRangeIter h it (lo+(i:Nat)*1) ((n:Int) - (i:Nat)) 1) where
 mem:=by simp
 obj:=fun i h st b hb=>by
  have e:b=it:=by simpa using hb
  subst e
  exact⟨_,st,fun v z=>by
   have z':Data.fields _=Data.cell v:=z
   cases z'⟩
 keep:=fun i h h' st k=>k it (by simp) _ st
 item:=by
  intro X hP hw hK hc i pins s σ H E I hf st hg
  subst hP hw hK
  obtain⟨f0,f1,f2,f3,f4,f5⟩:=hf it (by simp)
  have W:=Walks.range (prog:=X.prog) (w:=X.w) (I.ok.hd hc) it lo 1 n
  refine W.item i s _ _ hg st fun v h' tk hv st' kk=>?_
  obtain⟨t,rfl⟩:=hv
  have I1:Inv X pins σ H { s with heap:=h',toks:=tk }:=I.turned (fun b o hb e=>kk b o (by simpa using hb) e) f0 f1 f3 f4 f5
  refine⟨_,rfl,go_of (s:={ s with heap:=h',toks:=tk }) (n:="range_iterator") st' rfl rfl (by decide) ⟨.int (lo+i),H,I1,⟨t,?_⟩,⟨rfl,rfl⟩,st',fun b hb=>(hf b hb).1⟩⟩
  rw[Int.mul_one]
 done:=by
  intro X hP hw hK hc i pins s σ H E I hf st hg
  subst hP hw hK
  obtain⟨f0,f1,f2,f3,f4,f5⟩:=hf it (by simp)
  exact wpAny_pyNext_range_end (I.ok.hd hc) st (by have:n<=i:=hg;omega) fun h' eb=>⟨rfl,I.turned (t':=s.toks) (fun b o hb e=>eb b o hb e) f0 f1 f3 f4 f5⟩
 self:=fun _ _ _ _ _ st h=>wpAny_pyIter_rangeiter st h
end L2
namespace L2
open PySem PySem.Spec PyProof.Rows
section
variable {X:Cx}{tg:Expr}
theorem zba5 {pins:List (Addr×Obj)}{σ:St}{H:Hp}{s:Shared}{R:It->Hp->Prop}{E:Value->Shared->Prop}{lo hi:Int}{t u v:Tok}{tk:Nat}(I:Inv X pins σ H s) (h1:-(2 ^ 62)<=lo) (h2:lo<2 ^ 62) (h3:-(2 ^ 62)<=hi) (h4:hi<2 ^ 62)
  (q:R (Itr lo (hi - lo).toNat) H):wpAny (model X.prog X.w) X.A (pyIter (.ref s.heap.objs.size)) (PIE X pins σ tg R) E { s with heap:=s.heap.push { cls:=.type "range",data:=.fields #[.int lo t,.int hi u,.int 1 v] },toks:=tk }:=by
 refine wpAny_pyIter_range (IsRange.new ..) (small_one h1 h2 h3 h4) ?_
 have I1:Inv X pins σ H { s with heap:=s.heap.push { cls:=.type "range",data:=.fields #[.int lo t,.int hi u,.int 1 v] },toks:=tk }:=I.kept fun b o e=>zcp8 _ e
 refine⟨(s.heap.push { cls:=.type "range",data:=.fields #[.int lo t,.int hi u,.int 1 v] }).objs.size,[(s.heap.push { cls:=.type "range",data:=.fields #[.int lo t,.int hi u,.int 1 v] }).objs.size],_,_,H,rfl,
  I1.kept (t':=tk) fun b o e=>zcp8 _ e,zbg5 _ lo (hi - lo).toNat,?_,fun b hb=>?_,q⟩
 ·have e1:lo+((0:Nat):Int)*1=lo:=by simp
  have e2:(((hi - lo).toNat:Nat):Int) - ((0:Nat):Int)=Builtin.Range.rangeSize lo hi 1:=by rw[rangeSize_one];split<;>omega
  show IsRangeIter _ _ (lo+((0:Nat):Int)*1) ((((hi - lo).toNat:Nat):Int) - ((0:Nat):Int)) 1
  rw[e1,e2]
  exact zcs3 _ rfl
 ·have e:b=(s.heap.push { cls:=.type "range",data:=.fields #[.int lo t,.int hi u,.int 1 v] }).objs.size:=by simpa using hb
  subst e
  exact I1.fpOk (zcq9 _) (I1.hok.fresh (zcq9 _))
def tFor (wi:TI) (g:TG) (tb:TS):TS:=fun D σ H=>wi σ H fun J H1=>∃ W:Nat->Nat->St->Hp->Prop,(∃ m,W 0 m σ H1)/\∀ i m σ H,W i m σ H ->
 (J.stop i H/\D.nx σ H)∨(J.go i H/\∃ N:St->Hp->Prop,(∀ σ' H',N σ' H'->∃ m',m'<m/\W (i+1) m' σ' H')/\∀ x H',J.yld i H x H'->g x σ H' fun σ2 H2=>tb { D with nx:=N,ct:=N,bk:=D.nx } σ2 H2)
def zaj1 (fp:List Addr) (h:Heap):List (Addr×Obj):=fp.filterMap fun b=>(h.get? b).map fun o=>(b,o)
theorem zo4 {fp:List Addr}{h:Heap}{b:Addr}{o:Obj}(hb:b∈fp) (e:h.get? b=some o):(b,o)∈zaj1 fp h:=List.mem_filterMap.mpr ⟨b,hb,by rw[e];rfl⟩
theorem zbl7 {fp:List Addr}{h:Heap}{p:Addr×Obj}(hp:p∈zaj1 fp h):p.1∈fp/\h.get? p.1=some p.2:=by
 obtain⟨b,hb,e⟩:=List.mem_filterMap.mp hp
 cases q:h.get? b with
 | none=>rw[q] at e;cases e
 | some o=>
  rw[q] at e
  have e':(b,o)=p:=Option.some.inj e
  subst e'
  exact⟨hb,q⟩
theorem Inv.pinned {pins:List (Addr×Obj)}{σ:St}{H:Hp}{s:Shared}{fp:List Addr}(I:Inv X pins σ H s) (hf:∀ b∈fp,FpOk X pins H b) (ho:∀ b∈fp,∃ o,s.heap.get? b=some o/\∀ v,o.data≠.cell v):Inv X (pins++zaj1 fp s.heap) σ H s:=
 I.pins_of fun p hp=>(zct7.mp hp).elim (fun z=>I.pin p (zcs8 _ z)) fun z=>by
  obtain⟨hb,e⟩:=zbl7 z
  obtain⟨f0,f1,f2,_⟩:=hf p.1 hb
  obtain⟨o,e',d⟩:=ho p.1 hb
  rw[e] at e';cases e'
  exact⟨e,f0,f1,f2,d⟩
theorem Inv.unpinned {pins pl:List (Addr×Obj)}{σ:St}{H:Hp}{s:Shared}(I:Inv X (pins++pl) σ H s):Inv X pins σ H s:=I.pins_of fun p hp=>I.pin p (zcs8 _ (List.mem_append_left _ hp))
theorem ps_for {iter:Expr}{body:List Stmt}{wi:TI}{g:TG}{tb:TS}{pos:Pos}(hp:PassesOwn (model X.prog X.w) X.A X.env X.xe) (hc:X.calm=true) (hi:PI X tg iter wi) (hg:PG X tg g) (hb:PSs X body tb)
  (hs:∀ x,foldedSetIterable iter X.env x=pure x:=by intro _;rfl):PS X (.For tg iter body [] pos) (tFor wi g tb):=by
 intro pins s σ H D I h
 refine wpAny_For (thn (hi pins s σ H _ I h) fun v s1 h1=>thn h1 fun itv s2 h2=>?_) hs
 obtain⟨it,fp,tn,J,H2,e,I2,T,st2,f2,W,⟨m0,w0⟩,turn⟩:=h2
 subst e
 have stat:∀ {H':Hp},(∀ b∈fp,H' b=none)->∀ b∈fp,FpOk X pins H' b:=fun hn b hb=>⟨hn b hb,(f2 b hb).2⟩
 refine codeAny_forLoop_any (fun n s'=>∃ i σ' H',Inv X pins σ' H' s'/\tn i s'.heap/\(∀ b∈fp,H' b=none)/\W i n σ' H') ?_ m0 ⟨0,σ,H2,I2,st2,fun b hb=>(f2 b hb).1,w0⟩
 rintro n s3 ⟨i,σ3,H3,I3,st3,fr3,w3⟩
 rcases turn i n σ3 H3 w3 with ⟨stop,qn⟩|⟨go,N,hN,step⟩
 ·refine wpAny_passesOwn hp (thn (T.done X rfl rfl rfl hc i pins s3 σ3 H3 X.xe I3 (stat fr3) st3 stop) fun r s4 ⟨hr,I4⟩=>?_)
  subst hr
  exact wpAny_execs_nil ⟨σ3,H3,I4,qn⟩
 ·refine wpAny_passesOwn hp (thn (T.item X rfl rfl rfl hc i pins s3 σ3 H3 X.xe I3 (stat fr3) st3 go) fun r s4 ⟨u,hr,h4⟩=>?_)
  subst hr
  refine wpAny_passesOwn hp (thn h4 fun _ s5 ⟨x,H5,I5,r5,y5,st5,fr5⟩=>?_)
  have I5':=I5.pinned (stat fr5) (T.obj _ _ st5)
  refine wpAny_passesOwn hp (thn (hg _ s5 σ3 H5 x u _ I5' r5 (step x H5 y5)) fun _ s6 ⟨σ6,H6,I6,q6⟩=>?_)
  refine wpAny_passesOwn hp (thn (hb _ s6 σ6 H6 _ I6 q6) fun f s7 q7=>?_)
  have again:∀ {σ7:St}{H7:Hp},Inv X (pins++zaj1 fp s5.heap) σ7 H7 s7->N σ7 H7->∃ m,m<n/\∃ i σ' H',Inv X pins σ' H' s7/\tn i s7.heap/\(∀ b∈fp,H' b=none)/\W i m σ' H':=fun {σ7 H7} I7 n7=>by
   obtain⟨m',hm,w7⟩:=hN σ7 H7 n7
   refine⟨m',hm,i+1,σ7,H7,I7.unpinned,T.keep _ _ _ st5 fun b hb o e=>(I7.pin (b,o) (zcs8 _ (zcs8 _ (zo4 hb e)))).1,fun b hb=>?_,w7⟩
   obtain⟨o,e,d⟩:=T.obj _ _ st5 b hb
   exact (I7.pin (b,o) (zcs8 _ (zcs8 _ (zo4 hb e)))).2.1
  cases f with
  | next=>obtain⟨σ7,H7,I7,n7⟩:=q7;exact again I7 n7
  | cont=>obtain⟨σ7,H7,I7,n7⟩:=q7;exact again I7 n7
  | brk=>obtain⟨σ7,H7,I7,q7⟩:=q7;exact⟨σ7,H7,I7.unpinned,q7⟩
  | ret v=>obtain⟨x7,σ7,H7,I7,r7,q7⟩:=q7;exact⟨x7,σ7,H7,I7.unpinned,r7,q7⟩
end
theorem zbx1 {K:zcp3}{a:Addr}{xs:List V}{g:TG}{tb:TS}{D:Ends}{σ:St}{H:Hp}(Pv:Nat->St->Hp->Prop) (h0:Pv 0 σ H) (hl:∀ i σ H,i<=xs.length->Pv i σ H->SqL K H a xs)
  (hs:∀ i x σ H,xs[i]?=some x->Pv i σ H->g x σ H fun σ2 H2=>tb { D with nx:=Pv (i+1),ct:=Pv (i+1),bk:=D.nx } σ2 H2) (hd:∀ σ H,Pv xs.length σ H->D.nx σ H) :
  ∃ W:Nat->Nat->St->Hp->Prop,(∃ m,W 0 m σ H)/\∀ i m σ H,W i m σ H ->
   ((Itl K a).stop i H/\D.nx σ H)∨((Itl K a).go i H/\∃ N:St->Hp->Prop,(∀ σ' H',N σ' H'->∃ m',m'<m/\W (i+1) m' σ' H')/\∀ x H',(Itl K a).yld i H x H'->g x σ H' fun σ2 H2=>tb { D with nx:=N,ct:=N,bk:=D.nx } σ2 H2):=by
 refine⟨fun i m σ H=>m=xs.length - i/\i<=xs.length/\Pv i σ H,⟨xs.length,by simp,zct3 _,h0⟩,?_⟩
 rintro i m σ H ⟨rfl,hi,p⟩
 have q:=hl i σ H hi p
 by_cases hlt:i<xs.length
 ·refine .inr ⟨⟨xs,xs[i],q,by simp[hlt]⟩,Pv (i+1),fun σ' H' p'=>⟨xs.length - (i+1),by omega,rfl,hlt,p'⟩,fun x H' y=>?_⟩
  obtain⟨e,y⟩:=y
  subst e
  exact hs i x σ _ (y xs q) p
 ·have e:i=xs.length:=by omega
  subst e
  exact .inl ⟨⟨xs,q,zcq9 _⟩,hd σ H p⟩
theorem zbr3 {lo:Int}{n:Nat}{g:TG}{tb:TS}{D:Ends}{σ:St}{H:Hp}(Pv:Nat->St->Hp->Prop) (h0:Pv 0 σ H)
  (hs:∀ i σ H,i<n->Pv i σ H->g (.int (lo+i)) σ H fun σ2 H2=>tb { D with nx:=Pv (i+1),ct:=Pv (i+1),bk:=D.nx } σ2 H2) (hd:∀ σ H,Pv n σ H->D.nx σ H) :
  ∃ W:Nat->Nat->St->Hp->Prop,(∃ m,W 0 m σ H)/\∀ i m σ H,W i m σ H ->
   ((Itr lo n).stop i H/\D.nx σ H)∨((Itr lo n).go i H/\∃ N:St->Hp->Prop,(∀ σ' H',N σ' H'->∃ m',m'<m/\W (i+1) m' σ' H')/\∀ x H',(Itr lo n).yld i H x H'->g x σ H' fun σ2 H2=>tb { D with nx:=N,ct:=N,bk:=D.nx } σ2 H2):=by
 refine⟨fun i m σ H=>m=n - i/\i<=n/\Pv i σ H,⟨n,by simp,zct3 _,h0⟩,?_⟩
 rintro i m σ H ⟨rfl,hi,p⟩
 by_cases hlt:i<n
 ·refine .inr ⟨hlt,Pv (i+1),fun σ' H' p'=>⟨n - (i+1),by omega,rfl,hlt,p'⟩,fun x H' y=>?_⟩
  obtain⟨e,y⟩:=y
  subst e y
  exact hs i σ _ hlt p
 ·have e:i=n:=by omega
  subst e
  exact .inl ⟨zcq9 _,hd σ H p⟩
end L2
namespace L2
open PySem PySem.Spec PyProof.Rows
abbrev R2:=V->V->Hp->VK->Prop
def OpR (X:Cx) (f:Value->Value->Sem Value) (r:R2):Prop:=
 ∀ (pins:List (Addr×Obj)) (s:Shared) (σ:St) (H:Hp) (x y:V) (v u:Value) (Q:VK),Inv X pins σ H s->RelV x v->RelV y u->r x y H Q ->
  wpAny (model X.prog X.w) X.A (f v u) (EP X pins σ Q) X.xe s
def UnR (X:Cx) (f:Value->Sem Value) (r:V->Hp->VK->Prop):Prop:=
 ∀ (pins:List (Addr×Obj)) (s:Shared) (σ:St) (H:Hp) (x:V) (v:Value) (Q:VK),Inv X pins σ H s->RelV x v->r x H Q ->
  wpAny (model X.prog X.w) X.A (f v) (EP X pins σ Q) X.xe s
def zn5 (X:Cx) (f:Value) (r:List V->Hp->VK->Prop):Prop:=
 ∀ (pins:List (Addr×Obj)) (s:Shared) (σ:St) (H:Hp) (xs:List V) (us:List Value) (Q:VK),Inv X pins σ H s->Vals xs us->r xs H Q ->
  wpAny (model X.prog X.w) X.A (call f us) (EP X pins σ Q) X.xe s
def TruR (X:Cx) (r:V->Hp->(Bool->Hp->Prop)->Prop):Prop:=
 ∀ (pins:List (Addr×Obj)) (s:Shared) (σ:St) (H:Hp) (x:V) (v:Value) (Q:Bool->Hp->Prop),Inv X pins σ H s->RelV x v->r x H Q ->
  wpAny (model X.prog X.w) X.A (truthy v) (TP X pins σ Q) X.xe s
def tOp (r:R2) (ta tb:TE):TE:=fun σ H Q=>ta σ H fun x H1=>tb σ H1 fun y H2=>r x y H2 Q
def tUn (r:V->Hp->VK->Prop) (ta:TE):TE:=fun σ H Q=>ta σ H fun x H1=>r x H1 Q
def rI (C:Int->Int->Prop) (g:Int->Int->V):R2:=fun x y H Q=>∃ i j,x=.int i/\y=.int j/\C i j/\Q (g i j) H
def rI0 (g:Int->Int->V):R2:=fun x y H Q=>∃ i j,x=.int i/\y=.int j/\Q (g i j) H
def rU (g:Int->V):V->Hp->VK->Prop:=fun x H Q=>∃ i,x=.int i/\Q (g i) H
section
variable {X:Cx}{a b c:Expr}{ta tb tc:TE}{pos:Pos}
theorem binT (ha:PE X a ta) (hb:PE X b tb) {pins:List (Addr×Obj)}{s:Shared}{σ:St}{H:Hp}{R:V->V->Hp->Prop}(I:Inv X pins σ H s)
  (h:ta σ H fun x H1=>tb σ H1 fun y H2=>R x y H2) {Q:Value->Shared->Prop}{f:Value->Value->Sem Value}
  (hf:∀ v u s2 x y H2,Inv X pins σ H2 s2->RelV x v->RelV y u->R x y H2->wpAny (model X.prog X.w) X.A (f v u) Q X.xe s2) :
  wpAny (model X.prog X.w) X.A (eval a X.env) (fun v s₁=>wpAny (model X.prog X.w) X.A (eval b X.env) (fun u s₂=>wpAny (model X.prog X.w) X.A (f v u) Q X.xe s₂) X.xe s₁) X.xe s:=by
 refine thn (ha pins s σ H _ I h) fun v s1 ⟨x,H1,I1,r1,q1⟩=>?_
 refine thn (hb pins s1 σ H1 _ I1 q1) fun u s2 ⟨y,H2,I2,r2,q2⟩=>?_
 exact hf v u s2 x y H2 I2 r1 r2 q2
theorem zb5 {op:Operator}{r:R2}(ho:OpR X (binaryOp op) r) (ha:PE X a ta) (hb:PE X b tb):PE X (.BinOp a op b pos) (tOp r ta tb):=by
 intro pins s σ H Q I h
 exact wpAny_BinOp (binT ha hb I h fun v u s2 x y H2 I2 rx ry q=>ho pins s2 σ H2 x y v u Q I2 rx ry q)
theorem zap3 {op:UnaryOp}{r:V->Hp->VK->Prop}(ho:UnR X (unaryOp op) r) (ha:PE X a ta):PE X (.UnaryOp op a pos) (tUn r ta):=by
 intro pins s σ H Q I h
 exact UnaryOp_ (thn (ha pins s σ H _ I h) fun v s1 ⟨x,H1,I1,r1,q1⟩=>ho pins s1 σ H1 x v Q I1 r1 q1)
theorem opI {f:Value->Value->Sem Value}{C:Int->Int->Prop}{g:Int->Int->Int}
  (rule:∀ (i j:Int) (t u:Tok) (s:Shared) (Q:Value->Shared->Prop) (E:Value->Shared->Prop),C i j->Q (.int (g i j) s.toks) { s with toks:=s.toks+1 }->wpAny (model X.prog X.w) X.A (f (.int i t) (.int j u)) Q E s) :
  OpR X f (rI C fun i j=>.int (g i j)):=by
 intro pins s σ H x y v u Q I rx ry h
 obtain⟨i,j,rfl,rfl,hc,q⟩:=h
 obtain⟨t,rfl⟩:=rx
 obtain⟨t',rfl⟩:=ry
 exact rule i j t t' s _ _ hc ⟨.int (g i j),H,I.tok _,⟨_,rfl⟩,q⟩
theorem opI0 {f:Value->Value->Sem Value}{g:Int->Int->Int}
  (rule:∀ (i j:Int) (t u:Tok) (s:Shared) (Q:Value->Shared->Prop) (E:Value->Shared->Prop),Q (.int (g i j) s.toks) { s with toks:=s.toks+1 }->wpAny (model X.prog X.w) X.A (f (.int i t) (.int j u)) Q E s) :
  OpR X f (rI0 fun i j=>.int (g i j)):=by
 intro pins s σ H x y v u Q I rx ry h
 obtain⟨i,j,rfl,rfl,q⟩:=h
 obtain⟨t,rfl⟩:=rx
 obtain⟨t',rfl⟩:=ry
 exact rule i j t t' s _ _ ⟨.int (g i j),H,I.tok _,⟨_,rfl⟩,q⟩
theorem opB0 {f:Value->Value->Sem Value}{g:Int->Int->Bool}
  (rule:∀ (i j:Int) (t u:Tok) (s:Shared) (Q:Value->Shared->Prop) (E:Value->Shared->Prop),Q (.bool (g i j)) s->wpAny (model X.prog X.w) X.A (f (.int i t) (.int j u)) Q E s) :
  OpR X f (rI0 fun i j=>.bl (g i j)):=by
 intro pins s σ H x y v u Q I rx ry h
 obtain⟨i,j,rfl,rfl,q⟩:=h
 obtain⟨t,rfl⟩:=rx
 obtain⟨t',rfl⟩:=ry
 exact rule i j t t' s _ _ ⟨.bl (g i j),H,I,rfl,q⟩
def CPow (i j:Int):Prop:=0<=j/\j<=1000000/\i.natAbs<2 ^ 64
def CMul (i j:Int):Prop:=(-(2 ^ 64)<i/\i<2 ^ 64)∨(-(2 ^ 64)<j/\j<2 ^ 64)
theorem CMul.ok {i j:Int}(h:CMul i j):IntMulOk i j:=by
 rcases h with ⟨h1,h2⟩|⟨h1,h2⟩
 ·exact .of_left (intBits_le_64 h1 h2)
 ·exact .of_right (intBits_le_64 h1 h2)
theorem op_add:OpR X (binaryOp .Add) (rI0 fun i j=>.int (i+j)):=opI0 fun _ _ _ _ _ _ _ q=>add_int q
theorem op_sub:OpR X (binaryOp .Sub) (rI0 fun i j=>.int (i - j)):=opI0 fun _ _ _ _ _ _ _ q=>sub_int q
theorem zcc4:OpR X (binaryOp .Mod) (rI (fun _ j=>j≠0) fun i j=>.int (i.fmod j)):=opI fun _ _ _ _ _ _ _ hc q=>mod_int' hc q
theorem op_pow:OpR X (binaryOp .Pow) (rI CPow fun i j=>.int (i ^ j.toNat)):=opI fun _ _ _ _ _ _ _ hc q=>pow_int_small hc.1 hc.2.1 hc.2.2 q
theorem unI {f:Value->Sem Value}{g:Int->Int}
  (rule:∀ (i:Int) (t:Tok) (s:Shared) (Q:Value->Shared->Prop) (E:Value->Shared->Prop),Q (.int (g i) s.toks) { s with toks:=s.toks+1 }->wpAny (model X.prog X.w) X.A (f (.int i t)) Q E s) :
  UnR X f (rU fun i=>.int (g i)):=by
 intro pins s σ H x v Q I rx h
 obtain⟨i,rfl,q⟩:=h
 obtain⟨t,rfl⟩:=rx
 exact rule i t s _ _ ⟨.int (g i),H,I.tok _,⟨_,rfl⟩,q⟩
theorem un_neg:UnR X (unaryOp .USub) (rU fun i=>.int (-i)):=unI fun _ _ _ _ _ q=>neg_int q
end
def scal:V->V->Bool
 | .non,.non=>true | .non,.int _=>true | .int _,.non=>true | .non,.bl _=>true | .bl _,.non=>true | .non,.str _=>true | .str _,.non=>true
 | .int _,.int _=>true | .bl _,.bl _=>true | .str _,.str _=>true | .byt _,.byt _=>true
 | .int _,.str _=>true | .str _,.int _=>true | .bl _,.str _=>true | .str _,.bl _=>true
 | _,_=>false
def rEq:R2:=fun x y H Q=>scal x y=true/\Q (.bl (decide (x=y))) H
def rNe:R2:=fun x y H Q=>scal x y=true/\Q (.bl (!decide (x=y))) H
theorem zbh5 {i j:Int}:decide (V.int i=V.int j)=(i==j):=by
 rw[Bool.eq_iff_iff]
 simp
theorem zca5 {i j:Bool}:decide (V.bl i=V.bl j)=(i==j):=by
 rw[Bool.eq_iff_iff]
 simp
theorem zbr4 {i j:Str}:decide (V.str i=V.str j)=(i==j):=by
 rw[Bool.eq_iff_iff]
 simp
theorem zbm4 {i j:Array UInt8}:decide (V.byt i=V.byt j)=(i.toList==j.toList):=by
 rw[Bool.eq_iff_iff]
 cases i
 cases j
 simp
section
variable {X:Cx}{a b c:Expr}{ta tb tc:TE}{pos:Pos}
theorem zd7 {pins:List (Addr×Obj)}{σ:St}{H:Hp}{s:Shared}{Q:VK}{k k':Bool}(I:Inv X pins σ H s) (q:Q (.bl k) H) (e:k=k'):EP X pins σ Q (.bool k') s:=by
 subst e
 exact⟨.bl k,H,I,rfl,q⟩
theorem zaz5:OpR X (compareOp .Eq) rEq:=by
 intro pins s σ H x y v u Q I rx ry h
 obtain⟨hs,q⟩:=h
 cases x with
 | non=>
  cases rx
  cases y with
  | non=>cases ry;exact PySem.EqNone.eq_none_none (zd7 I q (by simp))
  | bl j=>cases ry;exact PySem.EqNone.eq_none_bool (zd7 I q (by simp))
  | int j=>obtain⟨t',rfl⟩:=ry;exact PySem.EqNone.eq_none_int (zd7 I q (by simp))
  | str j=>obtain⟨t',rfl⟩:=ry;exact PySem.EqNone.eq_none_str (zd7 I q (by simp))
  | _=>exact absurd (show false=true from hs) zcq0
 | bl i=>
  cases rx
  cases y with
  | non=>cases ry;exact PySem.EqNone.eq_bool_none (zd7 I q (by simp))
  | bl j=>cases ry;exact eq_bool (zd7 I q zca5)
  | str j=>obtain⟨t',rfl⟩:=ry;exact PySem.EqMixed.eq_bool_str (zd7 I q (by simp))
  | _=>exact absurd (show false=true from hs) zcq0
 | int i=>
  obtain⟨t,rfl⟩:=rx
  cases y with
  | non=>cases ry;exact PySem.EqNone.eq_int_none (zd7 I q (by simp))
  | int j=>obtain⟨t',rfl⟩:=ry;exact eq_int (zd7 I q zbh5)
  | str j=>obtain⟨t',rfl⟩:=ry;exact PySem.EqMixed.eq_int_str (zd7 I q (by simp))
  | _=>exact absurd (show false=true from hs) zcq0
 | str i=>
  obtain⟨t,rfl⟩:=rx
  cases y with
  | non=>cases ry;exact PySem.EqNone.eq_str_none (zd7 I q (by simp))
  | bl j=>cases ry;exact PySem.EqMixed.eq_str_bool (zd7 I q (by simp))
  | int j=>obtain⟨t',rfl⟩:=ry;exact PySem.EqMixed.eq_str_int (zd7 I q (by simp))
  | str j=>obtain⟨t',rfl⟩:=ry;exact eq_str (zd7 I q zbr4)
  | _=>exact absurd (show false=true from hs) zcq0
 | byt i=>
  obtain⟨t,rfl⟩:=rx
  cases y with
  | byt j=>obtain⟨t',rfl⟩:=ry;exact PySem.W.eq_bytes (zd7 I q zbm4)
  | _=>exact absurd (show false=true from hs) zcq0
 | _=>cases y<;>exact absurd (show false=true from hs) zcq0
theorem zav6:OpR X (compareOp .NotEq) rNe:=by
 intro pins s σ H x y v u Q I rx ry h
 obtain⟨hs,q⟩:=h
 cases x with
 | non=>
  cases rx
  cases y with
  | non=>cases ry;exact PySem.EqNone.ne_none_none (zd7 I q (by simp))
  | bl j=>cases ry;exact PySem.EqNone.ne_none_bool (zd7 I q (by simp))
  | int j=>obtain⟨t',rfl⟩:=ry;exact PySem.EqNone.ne_none_int (zd7 I q (by simp))
  | str j=>obtain⟨t',rfl⟩:=ry;exact PySem.EqNone.ne_none_str (zd7 I q (by simp))
  | _=>exact absurd (show false=true from hs) zcq0
 | bl i=>
  cases rx
  cases y with
  | non=>cases ry;exact PySem.EqNone.ne_bool_none (zd7 I q (by simp))
  | bl j=>cases ry;exact ne_bool (zd7 I q (congrArg not zca5))
  | str j=>obtain⟨t',rfl⟩:=ry;exact PySem.EqMixed.ne_bool_str (zd7 I q (by simp))
  | _=>exact absurd (show false=true from hs) zcq0
 | int i=>
  obtain⟨t,rfl⟩:=rx
  cases y with
  | non=>cases ry;exact PySem.EqNone.ne_int_none (zd7 I q (by simp))
  | int j=>obtain⟨t',rfl⟩:=ry;exact ne_int (zd7 I q (congrArg not zbh5))
  | str j=>obtain⟨t',rfl⟩:=ry;exact PySem.EqMixed.ne_int_str (zd7 I q (by simp))
  | _=>exact absurd (show false=true from hs) zcq0
 | str i=>
  obtain⟨t,rfl⟩:=rx
  cases y with
  | non=>cases ry;exact PySem.EqNone.ne_str_none (zd7 I q (by simp))
  | bl j=>cases ry;exact PySem.EqMixed.ne_str_bool (zd7 I q (by simp))
  | int j=>obtain⟨t',rfl⟩:=ry;exact PySem.EqMixed.ne_str_int (zd7 I q (by simp))
  | str j=>obtain⟨t',rfl⟩:=ry;exact ne_str (zd7 I q (congrArg not zbr4))
  | _=>exact absurd (show false=true from hs) zcq0
 | byt i=>
  obtain⟨t,rfl⟩:=rx
  cases y with
  | byt j=>obtain⟨t',rfl⟩:=ry;exact PySem.W.ne_bytes (zd7 I q (congrArg not zbm4))
  | _=>exact absurd (show false=true from hs) zcq0
 | _=>cases y<;>exact absurd (show false=true from hs) zcq0
theorem op_lt:OpR X (compareOp .Lt) (rI0 fun i j=>.bl (decide (i<j))):=opB0 fun _ _ _ _ _ _ _ q=>lt_int q
theorem op_le:OpR X (compareOp .LtE) (rI0 fun i j=>.bl (decide (i<=j))):=opB0 fun _ _ _ _ _ _ _ q=>le_int q
theorem op_gt:OpR X (compareOp .Gt) (rI0 fun i j=>.bl (decide (j<i))):=opB0 fun _ _ _ _ _ _ _ q=>gt_int q
theorem op_ge:OpR X (compareOp .GtE) (rI0 fun i j=>.bl (decide (j<=i))):=opB0 fun _ _ _ _ _ _ _ q=>ge_int q
theorem op_isN:OpR X (compareOp .Is) (fun x y H Q=>y=.non/\Q (.bl (decide (x=.non))) H):=by
 intro pins s σ H x y v u Q I rx ry h
 obtain⟨rfl,q⟩:=h
 cases ry
 refine is_none_gen (zd7 I q ?_)
 cases x<;>first
  | (cases rx;rfl)
  | (obtain⟨t,rfl⟩:=rx;rfl)
theorem zcg5:OpR X (compareOp .IsNot) (fun x y H Q=>y=.non/\Q (.bl (!decide (x=.non))) H):=by
 intro pins s σ H x y v u Q I rx ry h
 obtain⟨rfl,q⟩:=h
 cases ry
 refine isnot_none_gen (zd7 I q ?_)
 cases x<;>first
  | (cases rx;rfl)
  | (obtain⟨t,rfl⟩:=rx;rfl)
theorem zby1 (b:Expr) {op:CmpOp}(h:op≠.In:=by decide) (h2:op≠.NotIn:=by decide):behindInMarks op b=false:=by
 have e1:(op==CmpOp.In)=false:=by cases op<;>first|rfl|exact absurd rfl h
 have e2:(op==CmpOp.NotIn)=false:=by cases op<;>first|rfl|exact absurd rfl h2
 cases b<;>simp[behindInMarks,e1,e2]
theorem zcc3 {op:CmpOp}{r:R2}(ho:OpR X (compareOp op) r) (ha:PE X a ta) (hb:PE X b tb) (hm:behindInMarks op b=false):PE X (.Compare a [op] [b] pos) (tOp r ta tb):=by
 intro pins s σ H Q I h
 exact wpAny_Compare1 (binT ha hb I h fun v u s2 x y H2 I2 rx ry q=>ho pins s2 σ H2 x y v u Q I2 rx ry q) hm
def TruV (K:zcp3) (x:V) (H:Hp) (k:Bool):Prop:=
 match x with
 | .non=>k=false
 | .bl b=>k=b
 | .int i=>k=(i != 0)
 | .str y=>y.length<=sizeLine/\k=((y.length:Int) != 0)
 | .byt y=>y.size<=sizeLine/\k=((y.size:Int) != 0)
 | .ref p=>(∃ xs,SqL K H p xs/\k=!xs.isEmpty)∨(∃ xs,SqT K H p xs/\k=!xs.isEmpty)∨∃ kvs,H p=some (.dK kvs)/\k=!kvs.isEmpty
 | _=>False
theorem zbe4 {κ:Type}{kvs:List (κ×V)}{vs:List (κ×Value)}(r:KV kvs vs):(!vs.isEmpty)=!kvs.isEmpty:=by
 cases r<;>rfl
theorem zai9 {xs:List V}{its:List Value}(r:Vals xs its):(!its.toArray.isEmpty)=!xs.isEmpty:=by
 cases r<;>simp
theorem zad9:(sizeLine:Nat)<2 ^ 63:=by rw[sizeLine_eq];decide
theorem zbr1:TruR X (fun x H Q=>∃ k,TruV X.K x H k/\Q k H):=by
 intro pins s σ H x v Q I rx h
 obtain⟨k,e,q⟩:=h
 have hl:=zad9
 have hs:sizeLine=16777216:=sizeLine_eq
 cases x with
 | non=>
  cases rx
  have e':k=false:=e
  subst e'
  exact truthy_none ⟨H,I,q⟩
 | bl b=>
  cases rx
  have e':k=b:=e
  subst e'
  exact wpAny_truthy_bool ⟨H,I,q⟩
 | int i=>
  obtain⟨t,rfl⟩:=rx
  have e':k=(i != 0):=e
  subst e'
  exact PySem.P.truthy_int ⟨H,I,q⟩
 | str y=>
  obtain⟨t,rfl⟩:=rx
  obtain⟨hy,e'⟩:y.length<=sizeLine/\k=((y.length:Int) != 0):=e
  subst e'
  exact PySem.P.truthy_str (by omega) ⟨H,I.tok _,q⟩
 | byt y=>
  obtain⟨t,rfl⟩:=rx
  obtain⟨hy,e'⟩:y.size<=sizeLine/\k=((y.size:Int) != 0):=e
  subst e'
  exact PySem.W.truthy_bytes (by omega) ⟨H,I.tok _,q⟩
 | ref p=>
  cases rx
  have e':(∃ xs,SqL X.K H p xs/\k=!xs.isEmpty)∨(∃ xs,SqT X.K H p xs/\k=!xs.isEmpty)∨∃ kvs,H p=some (.dK kvs)/\k=!kvs.isEmpty:=e
  rcases e' with ⟨xs,hx,e'⟩|⟨xs,hx,e'⟩|⟨kvs,hx,e'⟩
  ·subst e'
   obtain⟨its,r,pl,hz⟩:=I.list hx
   have hlen:=r.length
   exact wpAny_truthy_list pl.isList (by simp only[zcq2];omega) ⟨H,I.tok _,by rw[zai9 r];exact q⟩
  ·subst e'
   obtain⟨its,r,pl,hz⟩:=I.tuple hx
   have hlen:=r.length
   exact truthy_tuple pl (by simp only[zcq2];omega) ⟨H,I.tok _,by rw[zai9 r];exact q⟩
  ·subst e'
   obtain⟨hz,hS,vs,r,m⟩:kvs.length<=sizeLine/\(p==sysModules)=false/\∃ vs,KV kvs vs/\s.heap.DictOf (zj4 X.prog X.w) p vs:=I.hok p _ hx
   have hlen:kvs.length=vs.length:=Paired.length r
   exact wpAny_truthy_dict hS m (by omega) ⟨H,I.tok _,by rw[zbe4 r];exact q⟩
 | _=>exact (show False from e).elim
theorem zbh3:OpR X (binaryOp .Add) (fun x y H Q=>∃ i j,x=.str i/\y=.str j/\i.length+j.length<=sizeLine/\Q (.str (i++j)) H):=by
 intro pins s σ H x y v u Q I rx ry h
 obtain⟨i,j,rfl,rfl,hz,q⟩:=h
 obtain⟨t,rfl⟩:=rx
 obtain⟨t',rfl⟩:=ry
 exact add_str (fun t' tk=>⟨.str (i++j),H,I.tok _,⟨_,rfl⟩,q⟩) hz
theorem zaa4 {x:V}{us:List Value}(r:Vals [x] us):∃ u,us=[u]/\RelV x u:=by
 cases r with
 | cons r1 r2=>cases r2;exact⟨_,rfl,r1⟩
theorem zaq7 {x y:V}{us:List Value}(r:Vals [x,y] us):∃ u w',us=[u,w']/\RelV x u/\RelV y w':=by
 cases r with
 | cons r1 r2=>
  cases r2 with
  | cons r3 r4=>cases r4;exact⟨_,_,rfl,r1,r3⟩
theorem zbr7 (hc:X.calm=true):zn5 X (.builtin "max") (fun xs H Q=>∃ i j,xs=[.int i,.int j]/\Q (.int (if j>i then j else i)) H):=by
 intro pins s σ H xs us Q I r h
 obtain⟨i,j,rfl,q⟩:=h
 obtain⟨u,w',rfl,⟨t,rfl⟩,⟨t',rfl⟩⟩:=zaq7 r
 refine max_two_ints (I.ok.hd hc) fun h' tk k=>⟨_,H,I.kept k,?_,q⟩
 by_cases hj:j>i
 ·rw[if_pos hj,if_pos hj];exact⟨_,rfl⟩
 ·rw[if_neg hj,if_neg hj];exact⟨_,rfl⟩
theorem zbk3 (hc:X.calm=true):zn5 X (.builtin "min") (fun xs H Q=>∃ i j,xs=[.int i,.int j]/\Q (.int (if j<i then j else i)) H):=by
 intro pins s σ H xs us Q I r h
 obtain⟨i,j,rfl,q⟩:=h
 obtain⟨u,w',rfl,⟨t,rfl⟩,⟨t',rfl⟩⟩:=zaq7 r
 refine min_two_ints (I.ok.hd hc) fun h' tk k=>⟨_,H,I.kept k,?_,q⟩
 by_cases hj:j<i
 ·rw[if_pos hj,if_pos hj];exact⟨_,rfl⟩
 ·rw[if_neg hj,if_neg hj];exact⟨_,rfl⟩
theorem zau4:zn5 X (.type "int") (fun xs H Q=>(∃ i,xs=[.int i]/\Q (.int i) H)∨∃ k,xs=[.bl k]/\Q (.int (if k then 1 else 0)) H):=by
 intro pins s σ H xs us Q I r h
 rcases h with ⟨i,rfl,q⟩|⟨k,rfl,q⟩
 ·obtain⟨u,rfl,t,rfl⟩:=zaa4 r
  exact call_int_int ⟨.int i,H,I,⟨_,rfl⟩,q⟩
 ·obtain⟨u,rfl,r1⟩:=zaa4 r
  cases r1
  exact call_int_bool ⟨.int (if k then 1 else 0),H,I.tok _,⟨_,rfl⟩,q⟩
end
end L2
namespace L2
open PySem PySem.Spec PyProof.Rows
structure ObjM (h:Heap) (x dx C:Addr) (mA:Str->Option Value):Prop where
 obj:h.get? x=some (PySem.W.instObj C dx)
 ns:h.Ns1 dx mA
 ne:dx≠x
theorem zbn9 {h:Heap}{dx:Addr}{mA:Str->Option Value}(n:h.Ns1 dx mA):∃ od,h.get? dx=some od/\∀ name,PySem.W.lookIn name od=some (mA name):=by
 obtain⟨o,es,ep,ho,hd,hk,_,hm⟩:=n
 refine⟨o,ho,fun name=>?_⟩
 have e:=hm name
 unfold nsFind findBy at e
 rw[← Array.find?_toList] at e
 unfold PySem.W.lookIn
 rw[hd]
 dsimp only
 split
 ·rename_i y q
  rw[q] at e
  exact congrArg some e
 ·rename_i q
  rw[q] at e
  have a:es.toList.any (·.refKey)=false:=by
   rw[List.any_eq_false]
   intro y hy
   obtain⟨z,t,hkey⟩:=hk y (Array.mem_toList_iff.mp hy)
   simp[DictEntry.refKey,hkey]
  have a':¬ es.toList.any (·.refKey)=true:=by rw[a];exact zcq0
  rw[if_neg a']
  exact congrArg some e
theorem ObjM.look {h:Heap}{x dx C:Addr}{mA:Str->Option Value}(I:ObjM h x dx C mA):∃ od,PySem.W.InstAt h x (PySem.W.instObj C dx) C (some od)/\∀ name,PySem.W.lookIn name od=some (mA name):=
 let ⟨od,ho,hl⟩:=zbn9 I.ns
 ⟨od,⟨I.obj,rfl,rfl,ho⟩,hl⟩
section
variable {prog:Program}{w:World}{A:Around}{E:Value->Shared->Prop}{s:Shared}{K:zcp3}{x dx C f:Addr}{mA:Str->Option Value}{name:Str}{v:Value}
end
theorem RelO.some_of {v:V}{o:Option Value}(r:RelO (some v) o):∃ u,o=some u/\RelV v u:=by
 cases o with
 | none=>exact (show False from r).elim
 | some u=>exact⟨u,rfl,r⟩
section
variable {P:Program}{w:World}{H H':Hp}{h h':Heap}{a C dx:Addr}{fs fs':List (Str×V)}
theorem zce1 (hok:HOk P w H h) (e:H a=some (.ins C dx fs)):∃ mA,ObjM h a dx C mA/\(∀ f,RelO (fs.lookup f) (mA f))/\PySem.Within mA (fs.map (·.1))/\fs.length<=1000/\H dx=some (.own a):=by
 obtain⟨d,z,ne,ob,mA,n,r,q⟩:=(show zf3 P w H h a (.ins C dx fs) from hok a _ e)
 exact⟨mA,⟨ob,n,ne⟩,r,q,z,d⟩
end
structure Cls (K:zcp3) (C:Addr):Prop where
 pg:PySem.W.plainGet K C Str.empty=true
 hd:PySem.W.hasDictIn K C=true
 po:PySem.W.plainOver K C=true
 sa:zct4 K (.ref C) "__setattr__"=some (some (.builtin "object.__setattr__"))
theorem Cls.get {K:zcp3}{C:Addr}(c:Cls K C) (f:Str):PySem.W.plainGet K C f=true:=c.pg
section
variable {X:Cx}{pins:List (Addr×Obj)}{σ:St}{H:Hp}{s:Shared}{a C dx:Addr}{fs:List (Str×V)}{f:Str}{v:V}{A:Around}{E:Value->Shared->Prop}
end
section
variable {X:Cx}{o e value:Expr}{f:Str}{pos pos' tpos:Pos}{ta tv:TE}
end
section
variable {X:Cx}{pins:List (Addr×Obj)}{σ:St}{H:Hp}{s:Shared}{A:Around}{E:Value->Shared->Prop}{Q:Value->Shared->Prop}{c:Value}{b:Bool}
inductive TyOf (K:zcp3) (H:Hp):V->Value->Prop where
 | non:TyOf K H .non (.type "NoneType")
 | bl (x:Bool):TyOf K H (.bl x) (.type "bool")
 | int (i:Int):TyOf K H (.int i) (.type "int")
 | str (x:Str):TyOf K H (.str x) (.type "str")
 | flt (x:UInt64):TyOf K H (.flt x) (.type "float")
 | lst {a:Addr}{xs:List V}(e:H a=some (.lst xs)):TyOf K H (.ref a) (.type "list")
 | frz {a:Addr}{o:Obj}{xs:List V}(e:H a=some (.frz o (.lst xs))):TyOf K H (.ref a) (.type "list")
 | tup {a:Addr}{xs:List V}(e:H a=some (.tup xs)):TyOf K H (.ref a) (.type "tuple")
 | dK {a:Addr}{kvs:List (Key×V)}(e:H a=some (.dK kvs)):TyOf K H (.ref a) (.type "dict")
 | dT {a:Addr}{kvs:List (List Key×V)}(e:H a=some (.dT kvs)):TyOf K H (.ref a) (.type "dict")
 | ins {a C dx:Addr}{fs:List (Str×V)}(e:H a=some (.ins C dx fs)) (cl:Cls K C) (ha:zct4 K (.ref C) "__class__"=some (some (.builtin "object.__class__")))
   (hn:PySem.W.specialIn K (.builtin "object.__class__") "__get__"=some (some (.builtin "getset_descriptor.__get__"))) (htk:PySem.W.takesIn K (.builtin "object.__class__")=some true)
   (hm:PySem.W.mroIn K C (.type "object")=some true):TyOf K H (.ref a) (.ref C)
theorem zbk4 {x:V}{u t:Value}(I:Inv X pins σ H s) (rx:RelV x u) (ty:TyOf X.K H x t) (e:zcr1 X.K t c=some b) (h:∀ tk,Q (.bool b) { s with toks:=tk }) :
  wpAny (model X.prog X.w) A (call (.builtin "isinstance") [u,c]) Q E s:=by
 cases ty with
 | non=>cases (show u=Value.none from rx);exact zcu2 PySem.W.kitx_none I.kIn True.intro e (fun z=>nomatch z) h
 | bl y=>cases (show u=Value.bool y from rx);exact zcu2 PySem.W.kitx_bool I.kIn True.intro e (fun z=>nomatch z) h
 | int i=>obtain⟨t,q⟩:=(show ∃ t,u=Value.int i t from rx);cases q;exact zcu2 PySem.W.kitx_int I.kIn True.intro e (fun z=>nomatch z) h
 | str y=>obtain⟨t,q⟩:=(show ∃ t,u=Value.str y t from rx);cases q;exact zcu2 PySem.W.kitx_str I.kIn True.intro e (fun z=>nomatch z) h
 | flt y=>obtain⟨t,q⟩:=(show ∃ t,u=Value.float y t from rx);cases q;exact zcu2 PySem.W.kitx_float I.kIn True.intro e (fun z=>nomatch z) h
 | @lst a xs ea=>
  cases (show u=Value.ref a from rx)
  obtain⟨_,_,n,_,h1⟩:=(show zf3 X.prog X.w H s.heap a (.lst xs) from I.hok a _ ea)
  exact zcu2 PySem.W.kitx_list I.kIn ⟨_,h1,rfl⟩ e (fun z=>nomatch z) h
 | @frz a ob xs ea=>
  cases (show u=Value.ref a from rx)
  obtain⟨_,_,_,n,_,h1⟩:=(show zf3 X.prog X.w H s.heap a (.frz ob (.lst xs)) from I.hok a _ ea)
  exact zcu2 PySem.W.kitx_list I.kIn ⟨_,h1,rfl⟩ e (fun z=>nomatch z) h
 | @tup a xs ea=>
  cases (show u=Value.ref a from rx)
  obtain⟨_,_,_,p⟩:=(show zf3 X.prog X.w H s.heap a (.tup xs) from I.hok a _ ea)
  obtain⟨o,h1,h2,_⟩:=p
  exact zcu2 PySem.W.kitx_tuple I.kIn ⟨o,h1,h2⟩ e (fun z=>nomatch z) h
 | @dK a kvs ea=>
  cases (show u=Value.ref a from rx)
  obtain⟨_,_,vs,_,p⟩:=(show zf3 X.prog X.w H s.heap a (.dK kvs) from I.hok a _ ea)
  obtain⟨o,es,ep,h1,h2,_⟩:=p
  exact zcu2 PySem.W.kitx_dict I.kIn ⟨o,h1,h2.1⟩ e (fun z=>nomatch z) h
 | @dT a kvs ea=>
  cases (show u=Value.ref a from rx)
  obtain⟨_,_,xs,_,o,es,ep,h1,h2,_⟩:=(show zf3 X.prog X.w H s.heap a (.dT kvs) from I.hok a _ ea)
  exact zcu2 PySem.W.kitx_dict I.kIn ⟨o,h1,h2.1⟩ e (fun z=>nomatch z) h
 | @ins a C dx fs ea cl ha hn htk hm=>
  cases (show u=Value.ref a from rx)
  obtain⟨mA,O,_⟩:=zce1 I.hok ea
  obtain⟨od,J,_⟩:=O.look
  exact zcu2 (PySem.W.kitx_own (cl.get _) cl.hd ha hn htk hm) I.kIn J e (fun z=>nomatch z) h
end
end L2
namespace L2
open PySem PySem.Spec PyProof.Rows
structure Room (k:Nat) (A:Around):Prop where
 hd:A.handled=none
 dp:A.depth+3*k+5<recursionLimit
 un:A.units+16*k+200<cLine
 gd:A.guards=some []
theorem Room.mono {j k:Nat}{A:Around}(r:Room k A) (h:j<=k):Room j A:=⟨r.hd,by have:=r.dp;omega,by have:=r.un;omega,r.gd⟩
theorem Room.deeper {k:Nat}{A:Around}(r:Room (k+1) A) (env:Env):Room k (A.deeper env):=
 ⟨r.hd,by have:=r.dp;show A.depth+1+3*k+5<_;omega,by have:=r.un;show A.units+3+16*k+200<_;omega,r.gd⟩
theorem zbe3 {A:Around}{C:Addr}{us:List Value}{kw:List (Str×Value)}:(A.under (.builtin "type.__call__" ⟨.ref C :: us,kw⟩)).depth=A.depth+1:=by
 first|rfl|simp[Around.under,Code.weight,Code.isCreation,Code.isGuard,Code.isCaller,Code.frames,Code.isFrame,guardIds]
theorem zbh0 {A:Around}{C:Addr}{us:List Value}{kw:List (Str×Value)}:(A.under (.builtin "type.__call__" ⟨.ref C :: us,kw⟩)).units=A.units+1:=by
 first|rfl|simp[Around.under,Code.cUnits,Code.frames,Code.isFrame]
theorem zax8 {A:Around}{C:Addr}{us:List Value}{kw:List (Str×Value)}:(A.under (.builtin "type.__call__" ⟨.ref C :: us,kw⟩)).guards=A.guards:=by
 first|rfl|(cases A;simp[Around.under,pushGuards,Code.guards,Code.isGuard,guardIds])
theorem Room.make {k:Nat}{A:Around}(r:Room (k+1) A) (C:Addr) (us:List Value) (kw:List (Str×Value)):Room k (A.under (.builtin "type.__call__" ⟨.ref C :: us,kw⟩)):=
 ⟨r.hd,by have:=r.dp;rw[zbe3];omega,by have:=r.un;rw[zbh0];omega,zax8.trans r.gd⟩
theorem Room.depth {k:Nat}{A:Around}(r:Room k A):A.depth<recursionLimit:=by have:=r.dp;omega
theorem Room.units {k:Nat}{A:Around}(r:Room k A):A.units+64<cLine:=by have:=r.un;omega
def tNil:TA:=fun _ H Q=>Q [] H
def tCons (ta:TE) (tr:TA):TA:=fun σ H Q=>ta σ H fun x H1=>tr σ H1 fun xs H2=>Q (x :: xs) H2
section
variable {X:Cx}{e:Expr}{es:List Expr}{te:TE}{t:TA}{pos:Pos}
theorem za1:PA X [] tNil:=fun _ _ _ _ H Q I h=>Calls.spliced_nil ⟨[],H,I,.nil,h⟩
theorem za0 (ha:PE X e te) (hr:PA X es t) (hs:starEach (e :: es) X.env=(false,eval e X.env) :: starEach es X.env:=by rfl):PA X (e :: es) (tCons te t):=by
 intro pos pins s σ H Q I h
 rw[hs]
 show wpAny _ _ (spliced ((false,eval e X.env) :: backTo pos (starEach es X.env))) _ _ s
 refine Calls.spliced_cons (thn (ha pins s σ H _ I h) fun u s1 ⟨x,H1,I1,r1,q1⟩=>?_)
 exact thn (hr pos pins s1 σ H1 _ I1 q1) fun us s2 ⟨xs,H2,I2,r2,q2⟩=>⟨x :: xs,H2,I2,.cons r1 r2,q2⟩
end
abbrev Sp:=List V->Hp->VK->XK->Prop
abbrev CXT:=List Env->Hp->Shared->XK->Value->Shared->Prop
structure Env0 (P:Program) (w:World) (K:zcp3) (mg:Str->Option Value) (base:Heap) (A:Around) (outer:List Env) (s:Shared) (H:Hp):Prop where
 frames:A.frames=some outer
 mod:Mod K mg base
 bs:∀ b o,base.get? b=some o->s.heap.get? b=some o/\H b=none
 bsz:base.objs.size<=s.heap.objs.size
 funs:s.heap.FunFrames base outer
 frf:∀ b∈frs outer,H b=none
 hok:HOk P w H s.heap
 bare:AllBare s.gens
def CE (outer:List Env) (P:Program) (w:World) (H:Hp) (s:Shared) (Q:VK) (u:Value) (s':Shared):Prop:=
 ∃ v H',s'.os=s.os/\AllBare s'.gens/\Un (frs outer) [] H H' s.heap s'.heap/\HOk P w H' s'.heap/\RelV v u/\Q v H'
def CR (CX:CXT) (outer:List Env) (P:Program) (w:World) (H:Hp) (s:Shared) (Q:VK) (E:XK) (r:Result) (s':Shared):Prop:=
 match r with
 | .ok (.ret u)=>CE outer P w H s Q u s'
 | .ok _=>False
 | .error e=>CX outer H s E e s'
structure FnOk (P:Program) (w:World) (K:zcp3) (mg:Str->Option Value) (base:Heap) (CX:CXT) (k:Nat) (f:Addr) (fd:FuncData) (ps:List Str) (sp:Sp):Prop where
 len:∀ vs H Q E,sp vs H Q E->vs.length=ps.length
 run:∀ (A:Around) (outer:List Env) (s:Shared) (H:Hp) (args:Args) (us:List Value) (vs:List V) (Q:VK) (E:XK),Room k A->Env0 P w K mg base A outer s H->BindsTo s fd args (ps.zip us)->Vals vs us->sp vs H Q E ->
  codeAny (model P w) A (.call (.ref f) args) (CR CX outer P w H s Q E) s
theorem Env0.make {P:Program}{w:World}{K:zcp3}{mg:Str->Option Value}{base:Heap}{A:Around}{outer:List Env}{s:Shared}{H:Hp}(e:Env0 P w K mg base A outer s H) (C:Addr) (us:List Value) (kw:List (Str×Value)) :
  Env0 P w K mg base (A.under (.builtin "type.__call__" ⟨.ref C :: us,kw⟩)) outer s H:=⟨by first|exact e.frames|(simpa [Around.under,Code.envs,Code.isFrame,pushEnvs] using e.frames),e.mod,e.bs,e.bsz,e.funs,e.frf,e.hok,e.bare⟩
section
variable {X:Cx}{pins:List (Addr×Obj)}{σ:St}{H:Hp}{s s':Shared}
theorem Inv.env0 (I:Inv X pins σ H s):Env0 X.prog X.w X.K X.mg X.base X.A X.stack s H:=
 ⟨I.ok.frames,I.ok.mod,I.bs,zcu1 I.ok.bsz I.sz,I.stack,I.stkFree,I.hok,I.bare⟩
theorem Inv.after {Q:VK}{u:Value}(I:Inv X pins σ H s) (h:CE X.stack X.prog X.w H s Q u s'):EP X pins σ Q u s':=by
 obtain⟨v,H',os,bare,un,hok,r,q⟩:=h
 obtain⟨hh,g,d,t,os'⟩:=s'
 obtain rfl:os'=s.os:=os
 exact⟨v,H',I.call (h':=hh) (g':=g) (d':=d) (t':=t) (ch:=[]) un hok bare (fun b z=>absurd z (by simp)),r,q⟩
end
def tCall (sp:Sp) (dvs:List V) (E:XK) (t:TA):TE:=fun σ H Q=>t σ H fun vs H1=>sp (vs++dvs) H1 Q E
def zah3 (K:zcp3) (fd:FuncData) (ps:List Str) (ds:List Value):Prop:=
 ∀ (s:Shared) (us:List Value),K.In s.heap->(us++ds).length=ps.length->BindsTo s fd ⟨us,[]⟩ (ps.zip (us++ds))
theorem zah3.all {K:zcp3}{fd:FuncData}{ps:List Str}(h:∀ us:List Value,us.length=ps.length->bindArgs fd ⟨us,[]⟩=pure (ps.zip us)):zah3 K fd ps []:=fun s us _ hl=>by
 rw[List.append_nil] at hl ⊢
 exact .of_eq (h us hl)
def zai2 (CX:CXT) (X:Cx) (E:XK):Prop:=∀ (pins:List (Addr×Obj)) (σ:St) (H:Hp) (s:Shared) (e:Value) (s':Shared),Inv X pins σ H s->CX X.stack H s E e s'->X.xe e s'
section
variable {X:Cx}{CX:CXT}{k:Nat}{f C:Addr}{fd:FuncData}{ps:List Str}{sp:Sp}{dvs:List V}{ds:List Value}{E:XK}{x m:Str}{p pos apos:Pos}{e o:Expr}{es:List Expr}{ta:TE}{t:TA}
theorem run_fn {pins:List (Addr×Obj)}{σ:St}{H:Hp}{s:Shared}{Q:VK}{us:List Value}{vs:List V}(F:FnOk X.prog X.w X.K X.mg X.base CX k f fd ps sp) (hr:Room k X.A) (hb:zah3 X.K fd ps ds) (hd:Vals dvs ds) (hx:zai2 CX X E)
  (I:Inv X pins σ H s) (r:Vals vs us) (h:sp (vs++dvs) H Q E):wpAny (model X.prog X.w) X.A (call (.ref f) us) (EP X pins σ Q) X.xe s:=by
 have r2:Vals (vs++dvs) (us++ds):=r.append hd
 have hl:(us++ds).length=ps.length:=by rw[← r2.length];exact F.len _ _ _ _ h
 refine wpAny_call (codeAny_mono (F.run X.A X.stack s H ⟨us,[]⟩ (us++ds) (vs++dvs) Q E hr I.env0 (hb s us I.kIn hl) r2 h) fun r s' hq=>?_)
 cases r with
 | error e=>exact hx pins σ H s e s' I hq
 | ok fl=>
  cases fl with
  | ret u=>exact I.after hq
  | next=>exact False.elim hq
  | brk=>exact False.elim hq
  | cont=>exact False.elim hq
theorem zcf0 (F:FnOk X.prog X.w X.K X.mg X.base CX k f fd ps sp) (hr:Room k X.A) (hg:Gl X x) (hm:X.mg x=some (.ref f)) (hk:zcq3 X.K (.ref f)=true) (hb:zah3 X.K fd ps ds) (hd:Vals dvs ds) (hx:zai2 CX X E)
  (ha:PA X (e :: es) t) (hdb:(x==("__debug__":Str))=false:=by decide) (he:starEach (e :: es) X.env=(false,eval e X.env) :: starEach es X.env:=by rfl) (hpl:(backTo pos (starEach es X.env)).any (·.1)=false:=by rfl) :
  PE X (.Call (.Name x p) (e :: es) [] pos) (tCall sp dvs E t):=by
 intro pins s σ H Q I h
 refine wpAny_Call_Name_kw (zz3 I hg hm ?_ hdb)
 refine PySem.W.callWith_K (h₀:=X.base) I.ok.mod.kin hk (thn (ha pos pins s σ H _ I h) fun us s1 ⟨vs,H1,I1,r,q⟩=>⟨I1.kIn,?_⟩) he hpl
 exact run_fn F hr hb hd hx I1 r q
end
section
variable {X:Cx}{CX:CXT}{k:Nat}{f C:Addr}{fd:FuncData}{ps ks:List Str}{sp:Sp}{E:XK}{x m:Str}{p pos apos kpos:Pos}{e o:Expr}{es:List Expr}{kws:List Keyword}{te ta:TE}{t tk:TA}{nm:Option Str}
variable {g:List Value->List Value->List Value}{gV:List V->List V->List V}
end
structure zb4 (N P:List Str) (sc:Scope):Prop where
 kind:sc.kind=.function
 co:sc.isCoroutine=false
 gen:sc.isGenerator=false
 nd:N.Nodup
 pre:N.take P.length=P
 par:∀ x∈P,sc.names.lookup x=some .local∨sc.names.lookup x=some .cell
 nofree:∀ y∈sc.names,y.2≠.free
theorem zar6 {kindOf:Str->Option NameKind}{x:Str}:∀ {binds:List (Str×Value)}{m:Str->Option Value},(∀ v,(x,v) ∉ binds)->bindL kindOf binds m x=m x
 | [],_,_=>rfl
 | (n,v) :: r,m,h=>by
  unfold bindL
  rw[zar6 fun w hw=>h w (zct6 _ hw)]
  split
  ·have:x≠n:=by rintro rfl;exact h v zcu6
   simp[this]
  ·rfl
theorem zat1 {kindOf:Str->Option NameKind}{x:Str}:∀ {binds:List (Str×Value)}{m:Str->Option Value},(∀ v,(x,v) ∉ binds)->bindC kindOf binds m x=m x
 | [],_,_=>rfl
 | (n,v) :: r,m,h=>by
  unfold bindC
  rw[zat1 fun w hw=>h w (zct6 _ hw)]
  split
  ·rfl
  ·have:x≠n:=by rintro rfl;exact h v zcu6
   simp[this]
theorem zat4 {kindOf:Str->Option NameKind}{x:Str}{v:Value}:∀ {P:List Str}{vs:List Value}{i:Nat}{m:Str->Option Value},P.Nodup->P[i]?=some x->vs[i]?=some v->kindOf x=some .local ->
  bindL kindOf (P.zip vs) m x=some v
 | [],_,_,_,_,h,_,_=>by simp at h
 | _ :: _,[],_,_,_,_,h,_=>by simp at h
 | p :: P,w :: vs,0,m,nd,h1,h2,hk=>by
  simp at h1 h2;subst h1;subst h2
  show bindL kindOf ((p,w) :: P.zip vs) m p=_
  unfold bindL
  rw[zar6 fun v hv=>(zcx2.mp nd).1 (List.of_mem_zip hv).1,if_pos hk]
  simp
 | p :: P,w :: vs,i+1,m,nd,h1,h2,hk=>by
  show bindL kindOf ((p,w) :: P.zip vs) m x=_
  unfold bindL
  exact zat4 (i:=i) (zcx2.mp nd).2 (by simpa using h1) (by simpa using h2) hk
theorem zap0 {kindOf:Str->Option NameKind}{x:Str}{v:Value}:∀ {P:List Str}{vs:List Value}{i:Nat}{m:Str->Option Value},P.Nodup->P[i]?=some x->vs[i]?=some v->kindOf x≠some .local ->
  bindC kindOf (P.zip vs) m x=some v
 | [],_,_,_,_,h,_,_=>by simp at h
 | _ :: _,[],_,_,_,_,h,_=>by simp at h
 | p :: P,w :: vs,0,m,nd,h1,h2,hk=>by
  simp at h1 h2;subst h1;subst h2
  show bindC kindOf ((p,w) :: P.zip vs) m p=_
  unfold bindC
  rw[zat1 fun v hv=>(zcx2.mp nd).1 (List.of_mem_zip hv).1,if_neg hk]
  simp
 | p :: P,w :: vs,i+1,m,nd,h1,h2,hk=>by
  show bindC kindOf ((p,w) :: P.zip vs) m x=_
  unfold bindC
  exact zap0 (i:=i) (zcx2.mp nd).2 (by simpa using h1) (by simpa using h2) hk
def zal0 (N:List Str) (vs:List V):St:=vs.map some++List.replicate (N.length - vs.length) none
def cxOf (CX:CXT) (P:Program) (w:World) (K:zcp3) (mg:Str->Option Value) (base:Heap) (N:List Str) (qual:Str) (scope:Scope) (f:Addr) (cd:Value) (A:Around) (outer:List Env) (s:Shared) (H:Hp) (E:XK):Cx where
 prog:=P
 w:=w
 K:=K
 mg:=mg
 base:=base
 A:=A.deeper (envOfC qual scope s.heap.objs.size f cd)
 N:=N
 s₀:=s
 H₀:=H
 env:=envOfC qual scope s.heap.objs.size f cd
 outer:=outer
 stack:=envOfC qual scope s.heap.objs.size f cd :: outer
 ex:=[]
 calm:=true
 fn:=fun _=>true
 pn:=[]
 xe:=fun e s'=>wpAny (model P w) (A.deeper (envOfC qual scope s.heap.objs.size f cd)) (leaving (envOfC qual scope s.heap.objs.size f cd) e) (fun _ s''=>CX outer H s E e s'') (fun e' s''=>CX outer H s E e' s'') s'
theorem zbb9 {sc:Scope}{n:Nat}{x:Str}(h:sc.names.lookup x=some .cell):∃ c,(cellsFrom n sc.names []).lookup x=some c:=by
 have q:=PySem.W.cellsFrom_some sc.names n [] (.inl h)
 exact zcv3.mp q
theorem zbp7 {CX:CXT}{P:Program}{w:World}{K:zcp3}{mg:Str->Option Value}{base:Heap}{N ps:List Str}{qual:Str}{scope:Scope}{f:Addr}{cd:Value}{A:Around}{outer:List Env}{s s1:Shared}{H:Hp}{E:XK}{us:List Value}{vs:List V}
  (S:zb4 N ps scope) (hd:A.handled=none) (e0:Env0 P w K mg base A outer s H) (hl:vs.length=ps.length) (r:Vals vs us)
  (x:InCallC s s.heap.objs.size (bindL (envOfC qual scope s.heap.objs.size f cd).kindOf (ps.zip us) fun _=>none) (cellsFrom (s.heap.objs.size+1) scope.names []) (bindC (envOfC qual scope s.heap.objs.size f cd).kindOf (ps.zip us) fun _=>none) s1) :
  Inv (cxOf CX P w K mg base N qual scope f cd A outer s H E) [] (zal0 N vs) H s1:=by
 have hpl:ps.length<=N.length:=by have:=congrArg List.length S.pre;rw[zcv1] at this;omega
 obtain⟨h1,tk,rfl,hk⟩:=x.done
 have noA:∀ b:Addr,b ∉ (cxOf CX P w K mg base N qual scope f cd A outer s H E).ex:=fun b z=>absurd (show b∈([]:List Addr) from z) (by simp)
 refine⟨⟨e0.mod,S.kind,rfl,rfl,zcq9 _,fun y z c h1 h2=>?_,fun y hy=>?_,fun y c _ h=>?_,fun _=>hd,Around.frames_deeper e0.frames,.inr ⟨rfl,rfl⟩,fun b z=>absurd z (noA b),e0.bs,e0.bsz,fun b _ _=>noA b,fun b z=>absurd z (noA b),e0.funs,e0.frf⟩,
  rfl,e0.bare,Un.kept hk,⟨_,x.toInCall.ns,fun i y v h1 h2 h3=>?_⟩,fun y c h=>⟨_,x.cell y c h⟩,e0.hok.fresh (zcq9 _),fun y c h=>?_,fun p hp=>absurd (show p∈([]:List (Addr×Obj)) from hp) (by simp),e0.hok.kept hk,?_⟩
 ·exact name_of_addr x.apart (PySem.mem_of_lookup h1) (PySem.mem_of_lookup h2)
 ·have hy:scope.names.lookup y=some .cell∨scope.names.lookup y=some .free:=hy
  rcases hy with hy|hy
  ·exact zbb9 hy
  ·exact absurd rfl (S.nofree _ (PySem.mem_of_lookup hy))
 ·exact Nat.le_of_lt (x.above y c (PySem.mem_of_lookup h))
 ·have hi:i<vs.length:=by
   unfold zal0 at h2
   by_cases hi:i<vs.length
   ·exact hi
   ·rw[zct2 (by simpa using hi)] at h2
    rw[List.getElem?_replicate] at h2
    split at h2<;>cases h2
  have ha:vs[i]?=some v:=by
   unfold zal0 at h2
   rw[zct0 (by simpa using hi),zcp5] at h2
   cases e:vs[i]? with
   | none=>rw[e] at h2;cases h2
   | some a=>rw[e] at h2;cases h2;rfl
  obtain⟨u,hu,rv⟩:=r.get ha
  have hp:ps[i]?=some y:=by
   rw[← S.pre,List.getElem?_take_of_lt (by omega)];exact h1
  have ndP:ps.Nodup:=by rw[← S.pre];exact S.nd.sublist (List.take_sublist _ _)
  refine⟨u,rv,?_⟩
  rcases S.par y (zcp9 hp) with k|k
  ·exact .inl ⟨k,zat4 ndP hp hu k⟩
  ·obtain⟨c,e⟩:=zbb9 (n:=s.heap.objs.size+1) k
   refine .inr ⟨.inl k,c,e,?_⟩
   have q:=x.cell y c e
   rw[zap0 ndP hp hu (by show scope.names.lookup y≠_;rw[k];decide)] at q
   exact q
 ·exact e0.hok.fresh (Nat.le_of_lt (x.above y c (PySem.mem_of_lookup h)))
 ·unfold zal0
  show _=N.length
  rw[zcr0,zcp2,List.length_replicate]
  omega
theorem fn_of {CX:CXT}{P:Program}{w:World}{K:zcp3}{mg:Str->Option Value}{base:Heap}{k:Nat}{f:Addr}{name qual:Str}{params:Arguments}{body:List Stmt}{scope:Scope}{dV kV doc pm cdv ct oc:Value}{an od:Option Addr}
  {osl:Array (Option Value)}{N ps:List Str}{sp:Sp}(lk:K.lookup f=some ⟨oc,od,.func (zcq8 name qual params body scope dV kV doc pm an cdv ct),osl⟩) (hcd:zcq5 K cdv qual=true) (S:zb4 N ps scope)
  (len:∀ vs H Q E,sp vs H Q E->vs.length=ps.length)
  (hbody:∀ (A:Around) (outer:List Env) (s:Shared) (H:Hp) (vs:List V) (Q:VK) (E:XK),Room k (A.deeper (envOfC qual scope s.heap.objs.size f cdv))->sp vs H Q E ->
   ∃ t,PSs (cxOf CX P w K mg base N qual scope f cdv A outer s H E) body t/\t { nx:=fun _ H'=>Q .non H',rt:=Q } (zal0 N vs) H) :
  FnOk P w K mg base CX (k+1) f (zcq8 name qual params body scope dV kV doc pm an cdv ct) ps sp:=by
 refine⟨len,fun A outer s H args us vs Q E hr e0 hb r hsp=>?_⟩
 have hl:=len _ _ _ _ hsp
 have KX:K.In s.heap:=e0.mod.kin.keeps fun b o e=>(e0.bs b o e).1
 have lim:s.heap.NoLimit:=e0.mod.nolimit.keeps fun b o e=>(e0.bs b o e).1
 have hkind:∀ y∈ps.zip us,scope.names.lookup y.1=some .local∨(scope.names.lookup y.1=some .cell/\((cellsFrom (s.heap.objs.size+1) scope.names []).lookup y.1).isSome=true):=fun ⟨n,v⟩ hy=>by
  rcases S.par n (List.of_mem_zip hy).1 with q|q
  ·exact .inl q
  ·exact .inr ⟨q,PySem.W.cellsFrom_some _ _ _ (.inl q)⟩
 refine codeAny_call_function hr.depth (KX _ _ lk) rfl S.co S.gen rfl (PySem.W.codeRec_of KX hcd) (hb _ _ _ _ ?_)
 refine wpAny_newFunctionEnv_cells S.kind hkind fun env he s1 x=>?_
 subst he
 refine⟨lim.keeps x.toInCall.keep,codeAny_func ?_⟩
 obtain⟨t,ht,hq⟩:=hbody A outer s H vs Q E (hr.deeper _) hsp
 have I:Inv (cxOf CX P w K mg base N qual scope f cdv A outer s H E) [] (zal0 N vs) H s1:=zbp7 S hr.hd e0 hl r x
 refine wpAny_mono (ht [] s1 (zal0 N vs) H _ I hq) (fun fl s' hs=>?_) fun e s' hs=>hs
 have fin:∀ {σ':St}{H':Hp}{v:V}{u:Value},Inv (cxOf CX P w K mg base N qual scope f cdv A outer s H E) [] σ' H' s'->RelV v u->Q v H'->CE outer P w H s Q u s':=
  fun {σ' H' v u} J rv q=>⟨v,H',J.os,J.bare,J.base,J.hok,rv,q⟩
 cases fl with
 | ret u=>
  obtain⟨v,σ',H',J,rv,q⟩:=hs
  exact fin J rv q
 | next=>
  obtain⟨σ',H',J,q⟩:=hs
  exact fin (v:=V.non) (u:=Value.none) J rfl q
 | brk=>
  obtain⟨_,_,_,q⟩:=hs
  exact False.elim q
 | cont=>
  obtain⟨_,_,_,q⟩:=hs
  exact False.elim q
end L2
namespace L2
open PySem PySem.Spec PyProof.Rows
section
variable {X:Cx}{x:Str}{p pos:Pos}{e:Expr}{es:List Expr}{t:TA}{id T:String}{r:List V->Hp->VK->Prop}
def tCB (r:List V->Hp->VK->Prop) (t:TA):TE:=fun σ H Q=>t σ H fun vs H1=>r vs H1 Q
theorem zbu2 (hc:zn5 X (.builtin id) r) (hg:Gl X x) (hm:X.mg x=none) (hv:bootBuiltins x=some (.builtin id)) (ha:PA X (e :: es) t) (hn:x≠"__name__":=by decide) (hdb:(x==("__debug__":Str))=false:=by decide)
  (he:starEach (e :: es) X.env=(false,eval e X.env) :: starEach es X.env:=by rfl) (hpl:(backTo pos (starEach es X.env)).any (·.1)=false:=by rfl):PE X (.Call (.Name x p) (e :: es) [] pos) (tCB r t):=by
 intro pins s σ H Q I h
 refine wpAny_Call_Name_kw (zaa0 I hg hm hv ?_ hn hdb)
 exact PyProof.Rows.callWith_builtin1 (thn (ha pos pins s σ H _ I h) fun us s1 ⟨vs,H1,I1,r1,q1⟩=>hc pins s1 σ H1 vs us Q I1 r1 q1) he hpl
theorem zbh8 (hc:zn5 X (.type T) r) (hg:Gl X x) (hm:X.mg x=none) (hv:bootBuiltins x=some (.type T)) (ha:PA X (e :: es) t) (hn:x≠"__name__":=by decide) (hdb:(x==("__debug__":Str))=false:=by decide)
  (he:starEach (e :: es) X.env=(false,eval e X.env) :: starEach es X.env:=by rfl) (hpl:(backTo pos (starEach es X.env)).any (·.1)=false:=by rfl):PE X (.Call (.Name x p) (e :: es) [] pos) (tCB r t):=by
 intro pins s σ H Q I h
 refine wpAny_Call_Name_kw (zaa0 I hg hm hv ?_ hn hdb)
 exact PyProof.Rows.callWith_type1 (thn (ha pos pins s σ H _ I h) fun us s1 ⟨vs,H1,I1,r1,q1⟩=>hc pins s1 σ H1 vs us Q I1 r1 q1) he hpl
end
end L2
namespace HT
open PySem PyProof.Rows
section
open PySem.SeqAt
open PySem.AutoSeq1 (wpAny_loadPart')
open PySem.MeetsSeq PySem.MeetsSeq2 PySem.MeetsSeq3
end
section
variable {prog:Program}{w:World}{A:Around}{E:Value->Shared->Prop}{s:Shared}
def sIx (n d:Nat):Option Int->Nat
 | none=>d
 | some v=>if v<0 then (v+(n:Int)).toNat else min v.toNat n
theorem sIx_le (n d:Nat) (hd:d<=n) (o:Option Int):sIx n d o<=n:=by
 cases o with
 | none=>exact hd
 | some v=>
  show (if v<0 then (v+(n:Int)).toNat else min v.toNat n)<=n
  by_cases hv:v<0
  ·rw[if_pos hv];omega
  ·rw[if_neg hv];exact Nat.min_le_right _ _
theorem zbh6 (v:Int) (n d:Nat):(if v<0 then max (v+(n:Int)) 0 else min v (n:Int))=((sIx n d (some v):Nat):Int):=by
 show (if v<0 then max (v+(n:Int)) 0 else min v (n:Int))=(((if v<0 then (v+(n:Int)).toNat else min v.toNat n):Nat):Int)
 by_cases hv:v<0
 ·simp only[if_pos hv];omega
 ·simp only[if_neg hv];omega
theorem zbg1 (lo hi:Option Int) (n:Nat):Builtin.Slice.sliceAdjust lo hi 1 (n:Int)=(((sIx n 0 lo:Nat):Int),((sIx n n hi:Nat):Int)):=by
 have h1:¬ ((1:Int)<0):=by omega
 unfold Builtin.Slice.sliceAdjust
 simp only[h1,if_false]
 refine Prod.ext ?_ ?_
 ·cases lo with
  | none=>rfl
  | some v=>exact zbh6 v n 0
 ·cases hi with
  | none=>rfl
  | some v=>exact zbh6 v n n
theorem zbf4 (i j:Nat):Builtin.Slice.slicePlaces (i:Int) (j:Int) 1=j - i:=by
 unfold Builtin.Slice.slicePlaces
 have h1:(1:Int)>0:=by omega
 simp only[h1,if_true,Int.ediv_one]
 split<;>omega
theorem zai6 {v:Value}{o:Option Int}{Q:Option Int->Shared->Prop}(p:IsPart v o) (h:Q o s):wpAny (model prog w) A (Builtin.Slice.slicePartIndex v) Q E s:=by
 cases p with
 | none=>exact slicePart_none h
 | int i t=>exact slicePart_int h
theorem zaa6 {sl:Addr}{vl vu:Value}{lo hi:Option Int}{n:Nat}{Q:Int×Int×Nat->Shared->Prop}(hs:s.heap.IsSliceOf sl vl vu .none) (pl:IsPart vl lo) (pu:IsPart vu hi)
  (h:Q (((sIx n 0 lo:Nat):Int),1,sIx n n hi - sIx n 0 lo) s):wpAny (model prog w) A (Builtin.Slice.sliceApplied (.ref sl) (pure (n:Int))) Q E s:=by
 obtain⟨os,hos,hcs,hds⟩:=id hs
 unfold Builtin.Slice.sliceApplied Builtin.Slice.sliceFields
 refine wpAny_bind (wpAny_bind (wpAny_field hos hds (x:=vl) rfl (wpAny_bind (wpAny_field hos hds (x:=vu) rfl (wpAny_bind (wpAny_field hos hds (x:=.none) rfl (wpAny_pure ?_)))))))
 refine wpAny_bind (slicePart_none ?_)
 show wpAny _ _ (if ((1:Int)==0)=true then _ else _) _ _ s
 rw[if_neg (by decide)]
 refine wpAny_bind (zai6 pl (wpAny_bind (zai6 pu (wpAny_bind (wpAny_pure ?_)))))
 show wpAny _ _ (match Builtin.Slice.sliceAdjust lo hi 1 (n:Int) with|(lo,hi)=>pure (lo,(1:Int),Builtin.Slice.slicePlaces lo hi 1)) _ _ s
 rw[zbg1 lo hi n]
 show wpAny _ _ (pure (((sIx n 0 lo:Nat):Int),(1:Int),Builtin.Slice.slicePlaces ((sIx n 0 lo:Nat):Int) ((sIx n n hi:Nat):Int) 1)) _ _ s
 rw[zbf4]
 exact wpAny_pure h
theorem zbt5 (xs:Array Value) (i k:Nat):((List.range k).filterMap fun (m:Nat)=>xs[((i:Int)+(m:Int)*1).toNat]?).toArray=((xs.toList.drop i).take k).toArray:=by
 have e:(fun (m:Nat)=>xs[((i:Int)+(m:Int)*1).toNat]?)=fun m=>xs[i+m]?:=by
  funext m
  have:((i:Int)+(m:Int)*1).toNat=i+m:=by omega
  rw[this]
 rw[e]
 have:=pick_run xs i k
 rw[List.filterMap_map] at this
 have e2:((fun x=>xs[x]?)∘fun x=>i+x)=fun m=>xs[i+m]?:=rfl
 rw[e2] at this
 rw[this]
theorem getItem_tuple_cut {t sl:Addr}{items:Array Value}{vl vu:Value}{lo hi:Option Int}{Q:Value->Shared->Prop}(ht:IsTup s.heap t items) (hs:s.heap.IsSliceOf sl vl vu .none) (pl:IsPart vl lo) (pu:IsPart vu hi)
  (hw:¬ (sIx items.size 0 lo=0/\sIx items.size items.size hi=items.size))
  (h:Q (.ref s.heap.objs.size) { s with heap:=s.heap.push { cls:=.type "tuple",data:=.seq ((items.toList.drop (sIx items.size 0 lo)).take (sIx items.size items.size hi - sIx items.size 0 lo)).toArray } })
  (hsz:items.size<=sizeLine):wpAny (model prog w) A (getItem (.ref t) (.ref sl)) Q E s:=by
 have htake:sizeOk (.seq ((items.toList.drop (sIx items.size 0 lo)).take (sIx items.size items.size hi - sIx items.size 0 lo)).toArray):=by
  show ((items.toList.drop (sIx items.size 0 lo)).take (sIx items.size items.size hi - sIx items.size 0 lo)).toArray.size<=sizeLine
  rw[zcq2,zcv1,zcv2,Array.length_toList]
  omega
 have hj:sIx items.size items.size hi<=items.size:=sIx_le _ _ (zcq9 _) hi
 obtain⟨os,hos,hcs,hds⟩:=id hs
 have hTs:s.TypeIs (.ref sl) "slice":=⟨os,hos,hcs⟩
 unfold getItem
 try with_reducible refine wpAny_holding ?_
 first|refine wpAny_bind (wpAny_pure ?_)|skip
 refine wpAny_bind (wpAny_sequenceKey ht.typeIs (by decide) ?_)
 refine wpAny_bind (wpAny_callSpecial?_slot (name:=Str.ofString "__getitem__") ht.typeIs PyProof.Rows.slot_tuple_getitem
  (wpAny_call_entry PyProof.Rows.slot_tuple_getitem ht.typeIs entry_tuple_getitem ?_ (args_tuple_getitem _ _)))
 show wpAny _ _ (Builtin.Tuple.tupleItemsOf (.ref t) >>= _) _ _ s
 refine wpAny_bind (tupleItemsOf_ ht ?_)
 refine wpAny_bind (wpAny_typeOf hTs ?_)
 rw[if_pos (by decide)]
 refine wpAny_bind (zaa6 hs pl pu ?_)
 have hno:¬ ((((sIx items.size 0 lo:Nat):Int)==0&&(1:Int)==1&&(sIx items.size items.size hi - sIx items.size 0 lo)==items.size)=true):=by
  intro q
  rw[zcr6,zcr6] at q
  have q1:((sIx items.size 0 lo:Nat):Int)=0:=eq_of_beq q.1.1
  have q2:sIx items.size items.size hi - sIx items.size 0 lo=items.size:=eq_of_beq q.2
  exact hw ⟨by omega,by omega⟩
 show wpAny _ _ (if (((sIx items.size 0 lo:Nat):Int)==0&&(1:Int)==1&&(sIx items.size items.size hi - sIx items.size 0 lo)==items.size)=true then _ else _) _ _ s
 rw[if_neg hno,zbt5]
 first
  | exact wpAny_bind (m:=Builtin.Tuple.tupleExact _) (wpAny_newObj_type (wpAny_pure ⟨_,rfl,wpAny_pure h⟩) htake)
  | exact wpAny_bind (m:=Builtin.Tuple.tupleExact _) (wpAny_newObj_type (wpAny_bind (wpAny_pure (wpAny_pure ⟨_,rfl,wpAny_pure h⟩))) htake)
  | exact wpAny_bind (wpAny_bind (m:=Builtin.Tuple.tupleExact _) (wpAny_newObj_type (wpAny_pure (wpAny_pure ⟨_,rfl,wpAny_pure h⟩)) htake))
  | exact wpAny_bind (wpAny_bind (m:=Builtin.Tuple.tupleExact _) (wpAny_newObj_type (wpAny_pure ⟨_,rfl,wpAny_pure h⟩) htake))
end
end HT
namespace L2
open PySem PySem.Spec PyProof.Rows
abbrev TO:=St->Hp->(Option Int->Hp->Prop)->Prop
def PO (X:Cx) (e:Option Expr) (t:TO):Prop:=
 ∀ (pins:List (Addr×Obj)) (s:Shared) (σ:St) (H:Hp) (Q:Option Int->Hp->Prop),Inv X pins σ H s->t σ H Q ->
  wpAny (model X.prog X.w) X.A (evalPart e X.env) (fun u s'=>∃ o H',Inv X pins σ H' s'/\IsPart u o/\Q o H') X.xe s
def zcd6:TO:=fun _ H Q=>Q none H
theorem zz2 {ns:List Int}:∀ {us:List Value},Vals (ns.map V.int) us->IntsAre us ns:=by
 induction ns with
 | nil=>intro us r;rw[List.map_nil] at r;cases r;exact .nil
 | cons n ns ih=>
  intro us r
  rw[zcs0] at r
  cases r with
  | cons r1 r2=>
   obtain⟨t,e⟩:=r1
   subst e
   exact .cons n t (ih r2)
section
variable {X:Cx}{e:Expr}{te:TE}{lo hi:Option Expr}{tl th:TO}{pos p2:Pos}
theorem zt4:PO X none zcd6:=by
 intro pins s σ H Q I h
 rw[evalPart_none]
 exact wpAny_pure ⟨none,H,I,.none,h⟩
def SlR (X:Cx) (r:V->Option Int->Option Int->Hp->VK->Prop):Prop:=
 ∀ (pins:List (Addr×Obj)) (s:Shared) (σ:St) (H:Hp) (x:V) (v vl vu:Value) (lo hi:Option Int) (sl:Addr) (Q:VK),Inv X pins σ H s->RelV x v->s.heap.IsSliceOf sl vl vu .none->IsPart vl lo->IsPart vu hi->r x lo hi H Q ->
  ∃ T id,typeLookup (.type T) "__getitem__"=pure (some (.builtin id))/\s.TypeIs v T/\wpAny (model X.prog X.w) X.A (getItem v (.ref sl)) (EP X pins σ Q) X.xe s
def tSl (r:V->Option Int->Option Int->Hp->VK->Prop) (te:TE) (tl th:TO):TE:=fun σ H Q=>te σ H fun x H1=>tl σ H1 fun l H2=>th σ H2 fun u H3=>r x l u H3 Q
theorem zq2 {r:V->Option Int->Option Int->Hp->VK->Prop}(hr:SlR X r) (he:PE X e te) (hl:PO X lo tl) (hu:PO X hi th):PE X (.Subscript e (.Slice lo hi none p2) pos) (tSl r te tl th):=by
 intro pins s σ H Q I h
 refine Subscript_ (thn (he pins s σ H _ I h) fun v s1 ⟨x,H1,I1,r1,q1⟩=>?_)
 refine wpAny_Slice (thn (hl pins s1 σ H1 _ I1 q1) fun vl s2 ⟨l,H2,I2,pl,q2⟩=>thn (hu pins s2 σ H2 _ I2 q2) fun vu s3 ⟨u,H3,I3,pu,q3⟩=>?_)
 rw[evalPart_none]
 refine wpAny_pure ?_
 have I4:Inv X pins σ H3 { s3 with heap:=s3.heap.push { cls:=.type "slice",data:=.fields #[vl,vu,.none] } }:=I3.kept (t':=s3.toks) fun b ob q=>zcp8 _ q
 obtain⟨T,id,hT,ht,hg⟩:=hr pins { s3 with heap:=s3.heap.push { cls:=.type "slice",data:=.fields #[vl,vu,.none] } } σ H3 x v vl vu l u s3.heap.objs.size Q I4 r1 (Heap.IsSliceOf.new ..) pl pu q3
 show wpAny (model X.prog X.w) X.A (subscriptTail e (.Slice lo hi none p2) v (.ref s3.heap.objs.size)) (EP X pins σ Q) X.xe { s3 with heap:=s3.heap.push { cls:=.type "slice",data:=.fields #[vl,vu,.none] } }
 exact tail_any (ops:=[.ref s3.heap.objs.size,v]) ht hT hg (by with_unfolding_all rfl)
def cutV (xs:List V) (lo hi:Option Int):List V:=(xs.drop (HT.sIx xs.length 0 lo)).take (HT.sIx xs.length xs.length hi - HT.sIx xs.length 0 lo)
theorem zae4 (xs:List V) (lo hi:Option Int):(cutV xs lo hi).length<=xs.length:=by
 unfold cutV
 rw[zcv1,zcv2]
 omega
def rSlT (K:zcp3):V->Option Int->Option Int->Hp->VK->Prop:=fun x lo hi H Q=>∃ a xs,x=.ref a/\SqT K H a xs /\
 ¬ (HT.sIx xs.length 0 lo=0/\HT.sIx xs.length xs.length hi=xs.length)/\∀ p,H p=none->Q (.ref p) (upd H p (.tup (cutV xs lo hi)))
theorem sl_tup:SlR X (rSlT X.K):=by
 intro pins s σ H x v vl vu lo hi sl Q I rx hs pl pu h
 obtain⟨a,xs,rfl,hx,hw,q⟩:=h
 cases rx
 obtain⟨its,r,ht,hz⟩:=I.tuple hx
 have hlen:its.toArray.size=xs.length:=by rw[zcq2];exact r.length.symm
 refine⟨"tuple",_,PyProof.Rows.slot_tuple_getitem.lookup,ht.typeIs,?_⟩
 refine HT.getItem_tuple_cut ht hs pl pu (by rw[hlen];exact hw) ?_ (by rw[hlen];exact hz)
 rw[hlen]
 refine⟨.ref s.heap.objs.size,_,I.laid (t':=s.toks) (o:=.tup (cutV xs lo hi)) (fun b ob q=>zcp8 _ q) (zcq9 _) ?_,rfl,q _ (I.hok.fresh (zcq9 _))⟩
 exact⟨zcu1 (zae4 xs lo hi) hz,_,(r.drop (HT.sIx xs.length 0 lo)).take (HT.sIx xs.length xs.length hi - HT.sIx xs.length 0 lo),IsTup.new _ _⟩
end
end L2
namespace L2
open PySem PySem.Spec PyProof.Rows
def ixN (n:Nat) (i:Int):Option Nat:=if 0<=i then (if i<n then some i.toNat else none) else if -(n:Int)<=i then some (i+n).toNat else none
def atI {α:Type}(xs:List α) (i:Int):Option α:=(ixN xs.length i).bind fun j=>xs[j]?
theorem zbn4 {n:Nat}{i:Int}{j:Nat}(h:ixN n i=some j):seqIndex? i n=some j/\j<n/\-(n:Int)<=i/\i<n:=by
 unfold ixN at h
 by_cases h0:0<=i
 ·rw[if_pos h0] at h
  by_cases h1:i<n
  ·rw[if_pos h1] at h
   have e:i.toNat=j:=Option.some.inj h
   exact⟨by rw[seqIndex_of h0 h1,e],by omega,by omega,h1⟩
  ·rw[if_neg h1] at h;cases h
 ·rw[if_neg h0] at h
  by_cases h1:-(n:Int)<=i
  ·rw[if_pos h1] at h
   have e:(i+n).toNat=j:=Option.some.inj h
   exact⟨by rw[seqIndex_neg (by omega) h1,e],by omega,h1,by omega⟩
  ·rw[if_neg h1] at h;cases h
theorem zaz0 {α:Type}{xs:List α}{i:Int}{v:α}(h:atI xs i=some v):∃ j,seqIndex? i xs.length=some j/\xs[j]?=some v/\j<xs.length/\-(xs.length:Int)<=i/\i<xs.length:=by
 unfold atI at h
 cases e:ixN xs.length i with
 | none=>rw[e] at h;cases h
 | some j=>
  rw[e] at h
  obtain⟨h1,h2,h3,h4⟩:=zbn4 e
  exact⟨j,h1,h,h2,h3,h4⟩
theorem zc5 {α:Type}{xs:List α}{j:Nat}{v:α}(h:xs[j]?=some v):atI xs (j:Int)=some v:=by
 have hj:j<xs.length:=(zcp4.mp h).1
 have e:ixN xs.length (j:Int)=some j:=by
  unfold ixN
  rw[if_pos (by omega),if_pos (by omega)];simp
 unfold atI;rw[e];exact h
def zay2 (b:Expr):Prop:=∀ o i,subscripted b false o i=operate [o,i] (getItem o i)
def IxR (X:Cx) (r:R2):Prop:=
 ∀ (value slice:Expr) (pins:List (Addr×Obj)) (s:Shared) (σ:St) (H:Hp) (x y:V) (v u:Value) (Q:VK),Inv X pins σ H s->RelV x v->RelV y u->r x y H Q ->
  subscripted slice false v u=operate [v,u] (getItem v u)->wpAny (model X.prog X.w) X.A (subscriptTail value slice v u) (EP X pins σ Q) X.xe s
def MtR (X:Cx) (id:String) (r:V->List V->Hp->VK->Prop):Prop:=
 ∀ (pins:List (Addr×Obj)) (s:Shared) (σ:St) (H:Hp) (x:V) (xs:List V) (v:Value) (us:List Value) (Q:VK),Inv X pins σ H s->RelV x v->Vals xs us->r x xs H Q ->
  wpAny (model X.prog X.w) X.A (call (.builtin id) (v :: us)) (EP X pins σ Q) X.xe s
section
variable {X:Cx}{a b:Expr}{ta tb:TE}{pos:Pos}
theorem pe_ix {r:R2}(hr:IxR X r) (ha:PE X a ta) (hb:PE X b tb) (hs:zay2 b):PE X (.Subscript a b pos) (tOp r ta tb):=by
 intro pins s σ H Q I h
 exact Subscript_ (binT ha hb I h fun v u s2 x y H2 I2 rx ry q=>hr a b pins s2 σ H2 x y v u Q I2 rx ry q (hs _ _))
def rIxL (K:zcp3):R2:=fun x y H Q=>∃ p xs i v,x=.ref p/\y=.int i/\SqL K H p xs/\atI xs i=some v/\Q v H
def rIxT (K:zcp3):R2:=fun x y H Q=>∃ p xs i v,x=.ref p/\y=.int i/\SqT K H p xs/\atI xs i=some v/\Q v H
def rIxS:R2:=fun x y H Q=>∃ z i c,x=.str z/\y=.int i/\z.length<=sizeLine/\atI z.cps.toList i=some c/\Q (.str ⟨#[c]⟩) H
theorem zcg2:IxR X (rIxL X.K):=by
 intro value slice pins s σ H x y v u Q I rx ry h hs
 obtain⟨p,xs,i,z,rfl,rfl,hq,he,q⟩:=h
 cases rx
 obtain⟨t,rfl⟩:=ry
 obtain⟨its,r,pl,hz⟩:=I.list hq
 obtain⟨j,h1,h2,h3,h4,h5⟩:=zaz0 he
 obtain⟨w,ew,rw'⟩:=r.get h2
 have hl:=r.length
 have hn:=zad9
 have fin:EP X pins σ Q w s:=⟨z,H,I,rw',q⟩
 by_cases h0:0<=i
 ·have hj:i.toNat=j:=by
   rw[seqIndex_of h0 h5] at h1
   exact Option.some.inj h1
  exact item_listR pl.isList h0 (by omega) (by rw[hj];simpa using ew) fin hs
 ·have hj:(i+(its.toArray.size:Int)).toNat=j:=by
   rw[seqIndex_neg (by omega) h4] at h1
   rw[zcq2,← hl]
   exact Option.some.inj h1
  exact subscriptTail_builtinR (x:=w) pl.isList.typeIs slot_list_getitem.lookup
   (wpAny_getItem_list_neg (Q:=fun r s'=>r=w/\EP X pins σ Q r s') pl.isList (by omega) (by rw[zcq2]<;>omega) (by omega) (by rw[hj];simpa using ew) ⟨rfl,fin⟩) hs
theorem ix_tup:IxR X (rIxT X.K):=by
 intro value slice pins s σ H x y v u Q I rx ry h hs
 obtain⟨p,xs,i,z,rfl,rfl,hq,he,q⟩:=h
 cases rx
 obtain⟨t,rfl⟩:=ry
 obtain⟨its,r,pl,hz⟩:=I.tuple hq
 obtain⟨j,h1,h2,h3,h4,h5⟩:=zaz0 he
 obtain⟨w,ew,rw'⟩:=r.get h2
 have hl:=r.length
 have hn:=zad9
 have fin:EP X pins σ Q w s:=⟨z,H,I,rw',q⟩
 exact subscriptTail_builtinR (x:=w) pl.typeIs slot_tuple_getitem.lookup
  (getItem_tuple (j:=j) (Q:=fun r s'=>r=w/\EP X pins σ Q r s') pl (by omega) (by omega) (by rw[zcq2,← hl];exact h1) (by simpa using ew) ⟨rfl,fin⟩) hs
theorem ix_str:IxR X rIxS:=by
 intro value slice pins s σ H x y v u Q I rx ry h hs
 obtain⟨z,i,c,rfl,rfl,hz,he,q⟩:=h
 obtain⟨t,rfl⟩:=rx
 obtain⟨t',rfl⟩:=ry
 obtain⟨j,h1,h2,h3,h4,h5⟩:=zaz0 he
 have hl:z.cps.toList.length=z.length:=by simp[Str.length]
 rw[hl] at h1 h4 h5
 have hn:=zad9
 exact tail_any (typeIs_str s z t) slot_str_getitem.lookup (getItem_str (c:=c) (by
  have e1:decide (i < -(2 ^ 63:Int))=false:=decide_eq_false (by omega)
  have e2:decide (i≥2 ^ 63)=false:=decide_eq_false (by omega)
  rw[e1,e2,Bool.or_false]) (by rw[h1];simpa using h2) ⟨.str ⟨#[c]⟩,H,I.tok _,⟨_,rfl⟩,q⟩) hs
theorem zbg2 (its:List Value) (n j:Nat) (u:Value):Obj.mapSeq (·.setIfInBounds j u) { cls:=.type "list",data:=.seq its.toArray n }={ cls:=.type "list",data:=.seq (its.set j u).toArray n }:=by
 simp[Obj.mapSeq]
theorem Inv.lst {pins:List (Addr×Obj)}{σ:St}{H:Hp}{s:Shared}{p:Addr}{xs:List V}(I:Inv X pins σ H s) (h:H p=some (.lst xs)) :
  ∃ (its:List Value) (n:Nat),Vals xs its/\s.heap.get? p=some { cls:=.type "list",data:=.seq its.toArray n }/\xs.length<=sizeLine:=by
 obtain⟨z,its,n,r,e⟩:=I.hok p _ h
 exact⟨its,n,r,e,z⟩
theorem Inv.lstUpd {pins:List (Addr×Obj)}{σ:St}{H:Hp}{s:Shared}{p:Addr}{xs ys:List V}{its its':List Value}{n n':Nat}{f:Obj->Obj}(I:Inv X pins σ H s) (h:H p=some (.lst xs))
  (ho:s.heap.get? p=some { cls:=.type "list",data:=.seq its.toArray n }) (hf:f { cls:=.type "list",data:=.seq its.toArray n }={ cls:=.type "list",data:=.seq its'.toArray n' }) (r:Vals ys its') (hz:ys.length<=sizeLine) (t:Nat) :
  Inv X pins σ (upd H p (.lst ys)) { s with heap:=s.heap.update p f,toks:=t }:=by
 have e:(s.heap.update p f).get? p=some { cls:=.type "list",data:=.seq its'.toArray n' }:=by
  rw[zcu3 f ho (by rw[hf]<;>rfl),hf]
 refine I.write (x:=p) (e:=p) (by rw[h];trivial) (.inl rfl) (fun b u hb q=>(zcr7 _ _ (Ne.symm hb)).trans q) ⟨_,e⟩ ?_
 exact⟨hz,its',n',r,e⟩
def rSetL:V->V->V->Hp->(Hp->Prop)->Prop:=fun o i v H Q=>∃ p xs k j,o=.ref p/\i=.int k/\H p=some (.lst xs)/\ixN xs.length k=some j/\Q (upd H p (.lst (xs.set j v)))
theorem zbs7:PSet X rSetL:=by
 intro pins s σ H o i v ov iv u Q I ro ri rv h
 obtain⟨p,xs,k,j,rfl,rfl,hp,hj,q⟩:=h
 cases ro
 obtain⟨t,rfl⟩:=ri
 obtain⟨its,n,r,ho,hz⟩:=I.lst hp
 obtain⟨h1,h2,h3,h4⟩:=zbn4 hj
 have hl:=r.length
 have hn:=zad9
 have I':Inv X pins σ (upd H p (.lst (xs.set j v))) { s with heap:=s.heap.update p (Obj.mapSeq (·.setIfInBounds j u)) }:=
  I.lstUpd hp ho (zbg2 its n j u) (r.set rv j) (by rw[List.length_set];exact hz) s.toks
 by_cases h0:0<=k
 ·have hk:k.toNat=j:=by
   rw[seqIndex_of h0 h4] at h1
   exact Option.some.inj h1
  exact PySem.W.ki_setAt ho h0 (by omega) (by rw[zcq2,← hl];exact h4) (by rw[hk];exact⟨_,I',q⟩)
 ·have hk:(k+(its.toArray.size:Int)).toNat=j:=by
   rw[seqIndex_neg (by omega) h3] at h1
   rw[zcq2,← hl]
   exact Option.some.inj h1
  exact PySem.W.ki_setBack ho (by omega) (by rw[zcq2,← hl];exact h3) (by omega) (by rw[hk];exact⟨_,I',q⟩)
theorem zau8 (lo hi:Option Int) (n:Nat):(sliceBounds lo hi none n).1=((HT.sIx n 0 lo:Nat):Int)/\(sliceBounds lo hi none n).2.1=((HT.sIx n n hi:Nat):Int)/\(sliceBounds lo hi none n).2.2=1:=by
 refine⟨?_,?_,rfl⟩
 ·cases lo with
  | none=>simp[sliceBounds,HT.sIx]
  | some i=>
   simp only[sliceBounds,HT.sIx,Option.getD_none,show (1:Int)>0 by decide,if_true]
   by_cases h:i<0
   ·simp only[h,if_true]<;>omega
   ·simp only[h,if_false]<;>omega
 ·cases hi with
  | none=>simp[sliceBounds,HT.sIx]
  | some i=>
   simp only[sliceBounds,HT.sIx,Option.getD_none,show (1:Int)>0 by decide,if_true]
   by_cases h:i<0
   ·simp only[h,if_true]<;>omega
   ·simp only[h,if_false]<;>omega
theorem zal5 (its:List Value) (lo hi:Option Int):slicePick its.toArray lo hi none=((its.drop (HT.sIx its.length 0 lo)).take (HT.sIx its.length its.length hi - HT.sIx its.length 0 lo)).toArray:=by
 obtain⟨h1,h2,h3⟩:=zau8 lo hi its.toArray.size
 unfold slicePick
 rw[h1,h2,h3]
 simp only[sliceRange_one,pick_run,zcq2]<;>rfl
def rSlL (K:zcp3):V->Option Int->Option Int->Hp->VK->Prop:=fun x lo hi H Q=>∃ a xs,x=.ref a/\SqL K H a xs/\∀ p,H p=none->Q (.ref p) (upd H p (.lst (cutV xs lo hi)))
theorem zcg6:SlR X (rSlL X.K):=by
 intro pins s σ H x v vl vu lo hi sl Q I rx hs pl pu h
 obtain⟨a,xs,rfl,hx,q⟩:=h
 cases rx
 obtain⟨its,r,ht,hz⟩:=I.list hx
 have hlen:=r.length
 refine⟨"list",_,slot_list_getitem.lookup,ht.isList.typeIs,?_⟩
 refine wpAny_getItem_list_slice ht.isList hs pl pu .none (by simp) ?_ (by rw[zcq2]<;>omega)
 rw[zal5,← hlen]
 refine⟨.ref s.heap.objs.size,_,I.laid (t':=s.toks) (o:=.lst (cutV xs lo hi)) (fun b ob q=>zcp8 _ q) (zcq9 _) ?_,rfl,q _ (I.hok.fresh (zcq9 _))⟩
 exact⟨zcu1 (zae4 xs lo hi) hz,_,0,(r.drop (HT.sIx xs.length 0 lo)).take (HT.sIx xs.length xs.length hi - HT.sIx xs.length 0 lo),zcs3 _ rfl⟩
def zw1:V->Bool
 | .non=>true
 | .bl _=>true
 | .int _=>true
 | .str _=>true
 | _=>false
def eqV:V->V->Bool
 | .non,.non=>true
 | .bl a,.bl b=>a==b
 | .bl a,.int b=>(if a then 1 else 0)==b
 | .int a,.bl b=>a==(if b then 1 else 0)
 | .int a,.int b=>a==b
 | .str a,.str b=>a==b
 | _,_=>false
theorem zbk6 {A:Around}{s:Shared}{y x:V}{u v:Value}(ry:RelV y u) (rx:RelV x v) (fy:zw1 y=true) (fx:zw1 x=true):SeqAt.EqAt A s u v (eqV y x):=by
 cases y with
 | non=>
  cases ry
  cases x with
  | non=>cases rx;exact SeqAt.EqAt.same _
  | bl b=>cases rx;exact SeqAt.EqAt.none_bool b
  | int b=>obtain⟨t,rfl⟩:=rx;exact SeqAt.EqAt.none_int b t
  | str b=>obtain⟨t,rfl⟩:=rx;exact SeqAt.EqAt.none_str b t
  | _=>exact absurd (show false=true from fx) zcq0
 | bl a=>
  cases ry
  cases x with
  | non=>cases rx;exact SeqAt.EqAt.bool_none a
  | bl b=>cases rx;exact SeqAt.EqAt.bool_bool a b
  | int b=>obtain⟨t,rfl⟩:=rx;exact SeqAt.EqAt.bool_int a b t
  | str b=>obtain⟨t,rfl⟩:=rx;exact SeqAt.EqAt.bool_str a b t
  | _=>exact absurd (show false=true from fx) zcq0
 | int a=>
  obtain⟨t',rfl⟩:=ry
  cases x with
  | non=>cases rx;exact SeqAt.EqAt.int_none a t'
  | bl b=>cases rx;exact SeqAt.EqAt.int_bool a t' b
  | int b=>obtain⟨t,rfl⟩:=rx;exact SeqAt.EqAt.int_int a t' b t
  | str b=>obtain⟨t,rfl⟩:=rx;exact SeqAt.EqAt.int_str a t' b t
  | _=>exact absurd (show false=true from fx) zcq0
 | str a=>
  obtain⟨t',rfl⟩:=ry
  cases x with
  | non=>cases rx;exact SeqAt.EqAt.str_none a t'
  | bl b=>cases rx;exact SeqAt.EqAt.str_bool a t' b
  | int b=>obtain⟨t,rfl⟩:=rx;exact SeqAt.EqAt.str_int a t' b t
  | str b=>obtain⟨t,rfl⟩:=rx;exact SeqAt.EqAt.str_str a t' b t
  | _=>exact absurd (show false=true from fx) zcq0
 | _=>exact absurd (show false=true from fy) zcq0
def eqU (x:V) (u:Value):Bool:=match u with
 | .none=>eqV .non x
 | .bool b=>eqV (.bl b) x
 | .int i _=>eqV (.int i) x
 | .str z _=>eqV (.str z) x
 | _=>false
theorem zby7 {x y:V}{u:Value}(r:RelV y u) (f:zw1 y=true):eqU x u=eqV y x:=by
 cases y with
 | non=>cases r;rfl
 | bl b=>cases r;rfl
 | int i=>obtain⟨t,rfl⟩:=r;rfl
 | str z=>obtain⟨t,rfl⟩:=r;rfl
 | _=>exact absurd (show false=true from f) zcq0
theorem zaz2 {x:V}:∀ {xs:List V}{us:List Value},Vals xs us->xs.all zw1=true->us.any (eqU x)=xs.any fun y=>eqV y x
 | _,_,.nil,_=>rfl
 | y :: xs,u :: us,.cons r t,f=>by
  rw[List.all_cons,zcr6] at f
  rw[List.any_cons,List.any_cons,zby7 r f.1,zaz2 t f.2]
theorem zao5 {A:Around}{s:Shared}{x:V}{v:Value}(rx:RelV x v) (fx:zw1 x=true):∀ {xs:List V}{us:List Value},Vals xs us->xs.all zw1=true->∀ u∈us,SeqAt.EqAt A s u v (eqU x u)
 | _,_,.nil,_=>fun u hu=>by cases hu
 | y :: xs,u :: us,.cons r t,f=>fun u' hu=>by
  rw[List.all_cons,zcr6] at f
  rcases zcq6.mp hu with rfl|hu
  ·rw[zby7 r f.1];exact zbk6 r rx f.1 fx
  ·exact zao5 rx fx t f.2 u' hu
def inV (x:V) (xs:List V):Bool:=xs.any fun y=>eqV y x
def rIn (K:zcp3) (neg:Bool):R2:=fun x y H Q=>∃ p xs,y=.ref p/\(SqL K H p xs∨SqT K H p xs)/\zw1 x=true/\xs.all zw1=true/\Q (.bl (if neg then !inV x xs else inV x xs)) H
theorem zat3:OpR X (compareOp .NotIn) (rIn X.K true):=by
 intro pins s σ H x y v u Q I rx ry h
 obtain⟨p,xs,rfl,hq,fx,fs,q⟩:=h
 cases ry
 rcases hq with hq|hq
 ·obtain⟨its,r,pl,hz⟩:=I.list hq
  refine SeqAt.notIn_listAt (eqU x) pl.isList (fun w hw=>zao5 rx fx r fs w (by simpa using hw)) ⟨.bl _,H,I,rfl,?_⟩
  rw[show its.toArray.any (eqU x)=its.any (eqU x) by simp,zaz2 r fs]
  exact q
 ·obtain⟨its,r,pl,hz⟩:=I.tuple hq
  refine SeqAt.notIn_tupleAt (eqU x) pl (fun w hw=>zao5 rx fx r fs w (by simpa using hw)) ⟨.bl _,H,I,rfl,?_⟩
  rw[show its.toArray.any (eqU x)=its.any (eqU x) by simp,zaz2 r fs]
  exact q
theorem zar3:zn5 X (.builtin "len") (fun xs H Q=>∃ p ys,xs=[.ref p]/\(SqL X.K H p ys∨SqT X.K H p ys)/\Q (.int ys.length) H):=by
 intro pins s σ H xs us Q I r h
 obtain⟨p,ys,rfl,hq,q⟩:=h
 obtain⟨u,rfl,rx⟩:=zaa4 r
 cases rx
 have hn:=zad9
 rcases hq with hq|hq
 ·obtain⟨its,r',pl,hz⟩:=I.list hq
  have hlen:=r'.length
  exact Calls.call_len_list pl.isList (by simp only[zcq2]<;>omega) ⟨.int ys.length,H,I.tok _,⟨s.toks+1,by rw[zcq2,hlen]⟩,q⟩
 ·obtain⟨its,r',pl,hz⟩:=I.tuple hq
  have hlen:=r'.length
  exact len_tuple pl (by simp only[zcq2]<;>omega) ⟨.int ys.length,H,I.tok _,⟨s.toks+1,by rw[zcq2,hlen]⟩,q⟩
theorem zas6:zn5 X (.builtin "len") (fun xs H Q=>∃ z,xs=[.str z]/\z.length<=sizeLine/\Q (.int z.length) H):=by
 intro pins s σ H xs us Q I r h
 obtain⟨z,rfl,hz,q⟩:=h
 obtain⟨u,rfl,t,rfl⟩:=zaa4 r
 have hn:=zad9
 exact len_str (by omega) ⟨.int z.length,H,I.tok _,⟨_,rfl⟩,q⟩
theorem zak1:zn5 X (.type "tuple") (fun xs H Q=>∃ p ys,xs=[.ref p]/\((SqL X.K H p ys/\∀ l,H l=none->Q (.ref l) (upd H l (.tup ys)))∨(SqT X.K H p ys/\Q (.ref p) H))):=by
 intro pins s σ H xs us Q I r h
 obtain⟨p,ys,rfl,h⟩:=h
 obtain⟨u,rfl,rx⟩:=zaa4 r
 cases rx
 rcases h with ⟨hq,q⟩|⟨hq,q⟩
 ·obtain⟨its,r',pl,hz⟩:=I.list hq
  have hlen:=r'.length
  refine call_tuple_list pl.isList (fun h' kp=>?_) (by simp only[zcq2]<;>omega)
  have I1:Inv X pins σ H { s with heap:=h' }:=I.kept (t':=s.toks) kp
  have I2:Inv X pins σ (upd H h'.objs.size (.tup ys)) { s with heap:=h'.push { cls:=.type "tuple",data:=.seq its.toArray } }:=
   I1.laid (t':=s.toks) (fun b o e=>zcp8 _ e) (zcq9 _) (show zf3 X.prog X.w _ _ _ (.tup ys) from ⟨hz,its,r',IsTup.new _ _⟩)
  exact⟨.ref h'.objs.size,_,I2,rfl,q _ (I1.hok.fresh (zcq9 _))⟩
 ·obtain⟨its,r',pl,hz⟩:=I.tuple hq
  exact call_tuple_same pl ⟨.ref p,H,I,rfl,q⟩
def tyV (K:zcp3) (T:String) (x:V) (H:Hp):Prop:=match x with
 | .str _=>T="str"
 | .int _=>T="int"
 | .ref p=>(T="list"/\∃ xs,SqL K H p xs)∨(T="tuple"/\∃ o,K.lookup p=some o/\o.cls=.type "tuple"/\o.dict=none) ∨
   (T="dict"/\((∃ kvs,H p=some (.dK kvs))∨∃ kvs,H p=some (.dT kvs)))∨(T="set"/\∃ S n,H p=some (.set S n))
 | _=>False
theorem tyV_is {pins:List (Addr×Obj)}{σ:St}{H:Hp}{s:Shared}{T:String}{x:V}{v:Value}(I:Inv X pins σ H s) (r:RelV x v) (ty:tyV X.K T x H) :
  s.TypeIs v T/\∀ a,v=.ref a->∃ ob,s.heap.get? a=some ob/\ob.dict=none:=by
 cases x with
 | str z=>
  obtain⟨t,rfl⟩:=r
  cases (show T="str" from ty)
  exact⟨typeIs_str s z t,fun _ e=>nomatch e⟩
 | int i=>
  obtain⟨t,rfl⟩:=r
  cases (show T="int" from ty)
  exact⟨typeIs_int s i t,fun _ e=>nomatch e⟩
 | ref p=>
  cases r
  rcases ty with ⟨rfl,xs,hq⟩|⟨rfl,o,hk,hc,hd⟩|⟨rfl,hk⟩|⟨rfl,S,n,hk⟩
  ·obtain⟨its,_,pl,_⟩:=I.list hq
   refine⟨pl.isList.typeIs,fun a e=>?_⟩
   cases e
   obtain⟨o,n,e,c,hd,_⟩:=pl
   exact⟨o,e,hd⟩
  ·refine⟨⟨o,I.kIn p o hk,hc⟩,fun a e=>?_⟩
   cases e
   exact⟨o,I.kIn _ o hk,hd⟩
  ·have z:∃ o,s.heap.get? p=some o/\o.ExactDict:=by
    rcases hk with ⟨kvs,hk⟩|⟨kvs,hk⟩
    ·obtain⟨_,_,_,_,o,_,_,e,ex,_⟩:=I.hok p _ hk
     exact⟨o,e,ex⟩
    ·obtain⟨_,_,_,_,o,_,_,e,ex,_⟩:=I.hok p _ hk
     exact⟨o,e,ex⟩
   obtain⟨o,e,ex⟩:=z
   refine⟨⟨o,e,ex.1⟩,fun a e2=>?_⟩
   cases e2
   exact⟨o,e,ex.2.1⟩
  ·obtain⟨o,_,_,_,e,ex,_⟩:=I.hok p _ hk
   refine⟨⟨o,e,ex.1⟩,fun a e2=>?_⟩
   cases e2
   exact⟨o,e,ex.2.1⟩
 | _=>exact False.elim ty
variable {o e:Expr}{es:List Expr}{to:TE}{t:TA}{name:Str}{apos cpos:Pos}{T id:String}{r:V->List V->Hp->VK->Prop}
end
end L2
namespace L2
open PySem PySem.Spec PyProof.Rows
def MtM (X:Cx) (id:String) (r:V->List V->Hp->VK->Prop):Prop:=
 ∀ (pins:List (Addr×Obj)) (s:Shared) (σ:St) (H:Hp) (x:V) (xs:List V) (v:Value) (us:List Value) (Q:VK),Inv X pins σ H s->RelV x v->Vals xs us->r x xs H Q ->
  wpAny (model X.prog X.w) X.A (call (.builtin id) (v :: us)) (EP X pins σ Q) X.xe s
theorem Vals.one:∀ {x:V}{us:List Value},Vals [x] us->∃ u,us=[u]/\RelV x u
 | _,_,.cons r .nil=>⟨_,rfl,r⟩
theorem Vals.rep {xs:List V}{us:List Value}(h:Vals xs us):∀ k:Nat,Vals (List.replicate k xs).flatten (List.replicate k us).flatten
 | 0=>.nil
 | k+1=>by
  rw[zcw6,zcw6,List.flatten_cons,List.flatten_cons]
  exact Vals.append h (Vals.rep h k)
theorem zat5 (its:List Value):∀ (k:Nat) (acc:List Value),
  List.foldl (fun x1 x2=>x1++x2) acc.toArray (List.replicate k its.toArray)=(acc++(List.replicate k its).flatten).toArray
 | 0,acc=>by simp
 | k+1,acc=>by
  have e:acc.toArray++its.toArray=(acc++its).toArray:=by simp
  have e2:(acc++its)++(List.replicate k its).flatten=acc++(List.replicate (k+1) its).flatten:=by
   rw[zcw6,List.flatten_cons,List.append_assoc]
  rw[← e2,← zat5 its k (acc++its),← e,zcw6,List.foldl_cons]
section
variable {X:Cx}{pins:List (Addr×Obj)}{σ:St}{H:Hp}{s:Shared}{l b:Addr}{xs ys zs:List V}
theorem Inv.lset {its its':List Value}{n:Nat}{f:Array Value->Array Value}{t':Nat}(I:Inv X pins σ H s) (hH:H l=some (.lst xs))
  (e:s.heap.get? l=some { cls:=.type "list",data:=.seq its.toArray n }) (hf:f its.toArray=its'.toArray) (hv:Vals ys its') (hz:ys.length<=sizeLine) :
  Inv X pins σ (upd H l (.lst ys)) { s with heap:=s.heap.update l (Obj.mapSeq f),toks:=t' }:=by
 have q:=PySem.IsL.update e f
 rw[hf] at q
 refine I.write (x:=l) (e:=l) (by rw[hH];exact trivial) (.inl rfl) (fun b' u hb hu=>(zcr7 s.heap (Obj.mapSeq f) (Ne.symm hb)).trans hu) ⟨_,q⟩ ?_
 exact⟨hz,its',_,hv,q⟩
theorem Inv.lnew {its:List Value}{t':Nat}(I:Inv X pins σ H s) (hv:Vals ys its) (hz:ys.length<=sizeLine) :
  Inv X pins σ (upd H s.heap.objs.size (.lst ys)) { s with heap:=s.heap.push { cls:=.type "list",data:=.seq its.toArray },toks:=t' }:=
 I.laid (fun _ _ q=>zcp8 _ q) (zcq9 _) ⟨hz,its,0,hv,zcs3 _ rfl⟩
theorem Inv.fresh (I:Inv X pins σ H s):H s.heap.objs.size=none:=I.hok.fresh (zcq9 _)
theorem Inv.lstM (I:Inv X pins σ H s) (hH:H l=some (.lst xs)):xs.length<=sizeLine/\∃ (its:List Value) (n:Nat),Vals xs its/\xs.length=its.length/\s.heap.get? l=some { cls:=.type "list",data:=.seq its.toArray n }:=by
 obtain⟨z,its,n,r,e⟩:=I.hok l _ hH
 exact⟨z,its,n,r,r.length,e⟩
theorem zbc6 {n:Nat}(h:n<=sizeLine):Builtin.List.listTooLong n=false:=by
 unfold Builtin.List.listTooLong
 exact decide_eq_false (by omega)
end
section
variable {X:Cx}
def zce0:V->List V->Hp->VK->Prop:=fun x vs H Q=>∃ l xs y,x=.ref l/\vs=[y]/\H l=some (.lst xs)/\xs.length<sizeLine/\Q .non (upd H l (.lst (xs++[y])))
theorem zab9:MtM X "list.append" zce0:=by
 intro pins s σ H x vs v us Q I rx rv h
 obtain⟨l,xs,y,rfl,rfl,hH,hz,q⟩:=h
 cases rx
 obtain⟨u,rfl,ru⟩:=rv.one
 obtain⟨z,its,n,r,hl,e⟩:=I.lstM hH
 refine call_meets F.slot_list_append ⟨_,e,rfl⟩ F.entry_list_append (F.args_list_append_2 _ _) (PySem.list_append l its.toArray n u (by rw[zcq2];omega)) ⟨e,?_⟩
 refine⟨.non,_,I.lset (its':=its++[u]) hH e (by simp) (r.append (.cons ru .nil)) ?_,rfl,q⟩
 rw[zcr0,zcw1]
 omega
def zcc9:V->List V->Hp->VK->Prop:=fun x vs H Q=>∃ l b xs zs,x=.ref l/\vs=[.ref b]/\H l=some (.lst xs)/\H b=some (.lst zs)/\xs.length+zs.length<=sizeLine/\Q .non (upd H l (.lst (xs++zs)))
theorem mt_extend:MtM X "list.extend" zcc9:=by
 intro pins s σ H x vs v us Q I rx rv h
 obtain⟨l,b,xs,zs,rfl,rfl,hH,hB,hz,q⟩:=h
 cases rx
 obtain⟨u,rfl,ru⟩:=rv.one
 cases ru
 obtain⟨z,its,n,r,hl,e⟩:=I.lstM hH
 obtain⟨z2,its2,n2,r2,hl2,e2⟩:=I.lstM hB
 have hsz:its.toArray.size+its2.toArray.size<=sizeLine:=by rw[zcq2,zcq2];omega
 have hlong:¬ (!its.toArray.isEmpty&&Builtin.List.listTooLong (its.toArray.size+its2.toArray.size))=true:=by
  rw[zbc6 hsz,Bool.and_false]
  exact zcq0
 refine call_meets F.slot_list_extend ⟨_,e,rfl⟩ F.entry_list_extend (F.args_list_extend_2 _ _)
  (AutoSeq1.list_extend_list_list_0 l its.toArray n b its2.toArray n2 hlong (by rw[zcq2];omega) (by omega)) ⟨e,e2,?_⟩
 refine⟨.non,_,I.lset (its':=its++its2) hH e (by simp) (r.append r2) ?_,rfl,q⟩
 rw[zcr0]
 omega
def rCat:R2:=fun x y H Q=>∃ l b xs zs,x=.ref l/\y=.ref b/\H l=some (.lst xs)/\H b=some (.lst zs)/\xs.length+zs.length<=sizeLine/\∀ p,H p=none->Q (.ref p) (upd H p (.lst (xs++zs)))
theorem op_cat:OpR X (binaryOp .Add) rCat:=by
 intro pins s σ H x y v u Q I rx ry h
 obtain⟨l,b,xs,zs,rfl,rfl,hH,hB,hz,q⟩:=h
 cases rx
 cases ry
 obtain⟨z,its,n,r,hl,e⟩:=I.lstM hH
 obtain⟨z2,its2,n2,r2,hl2,e2⟩:=I.lstM hB
 refine PySem.P.add_list e e2 ?_ (by rw[zcq2,zcq2];omega)
 have ea:its.toArray++its2.toArray=(its++its2).toArray:=by simp
 rw[ea]
 exact⟨.ref _,_,I.lnew (t':=s.toks) (r.append r2) (by rw[zcr0];omega),rfl,q _ I.fresh⟩
def rRep:R2:=fun x y H Q=>∃ l k xs,x=.ref l/\y=.int k/\H l=some (.lst xs)/\-(2 ^ 63)<=k/\k<2 ^ 63/\xs.length*k.toNat<=sizeLine /\
 ∀ p,H p=none->Q (.ref p) (upd H p (.lst (List.replicate k.toNat xs).flatten))
theorem zce5 {α:Type}(xs:List α) (k:Nat):(List.replicate k xs).flatten.length=k*xs.length:=by
 induction k with
 | zero=>simp
 | succ k ih=>rw[zcw6,List.flatten_cons,zcr0,ih,Nat.succ_mul,Nat.add_comm]
theorem op_rep:OpR X (binaryOp .Mult) rRep:=by
 intro pins s σ H x y v u Q I rx ry h
 obtain⟨l,k,xs,rfl,rfl,hH,h1,h2,hz,q⟩:=h
 cases rx
 obtain⟨t,rfl⟩:=ry
 obtain⟨z,its,n,r,hl,e⟩:=I.lstM hH
 have hlen:its.toArray.size*k.toNat<=sizeLine:=by rw[zcq2,← hl];exact hz
 have hcap:¬ its.toArray.size*k.toNat>(2 ^ 63 - 1) / 8:=by
  have:(sizeLine:Nat)<=(2 ^ 63 - 1) / 8:=by decide
  omega
 have hfit:¬ (!Builtin.List.listFitsIndex k)=true:=by
  rw[fitsIndex_both h1 h2]
  exact zcq0
 have hlong:¬ Builtin.List.listTooLong (its.toArray.size*k.toNat)=true:=by
  rw[zbc6 hlen]
  exact zcq0
 have hnew:List.foldl (fun x1 x2=>x1++x2) #[] (List.replicate (if its.toArray.isEmpty=true then 0 else k.toNat) its.toArray)=(List.replicate k.toNat its).flatten.toArray:=by
  have f0:∀ m:Nat,List.foldl (fun x1 x2=>x1++x2) #[] (List.replicate m its.toArray)=(List.replicate m its).flatten.toArray:=fun m=>by
   have:=zat5 its m []
   rw[List.nil_append] at this
   exact this
  rw[f0]
  cases its with
  | nil=>simp
  | cons a r'=>rw[if_neg (by simp)]
 refine wpAny_binaryOp_repeat_ref (T:="list") (U:="int") (by decide) ⟨_,e,rfl⟩ (fun s'=>typeIs_int s' k t) noFill_list_mul F.fills_int_mul F.slot_int_rmul repeat_list F.slot_int_index.lookup
  (call_meets F.slot_int_rmul (typeIs_int s k t) F.entry_int_rmul (F.args_int_rmul_2 _ _) (int___rmul___int_list k t l its.toArray n)
   ⟨e,rfl,⟨_,e,rfl⟩,call_meets F.slot_list_mul ⟨_,e,rfl⟩ F.entry_list_mul (F.args_list_mul_2 _ _) (AutoListH.list___mul___list_int_3 l its.toArray n k t hfit hcap hlong) ⟨e,?_⟩⟩)
 rw[hnew]
 exact⟨.ref _,_,I.lnew (t':=s.toks) (r.rep k.toNat) (by rw[zce5,Nat.mul_comm];exact hz),rfl,q _ I.fresh⟩
end
section
variable {prog:Program}{w:World}{A:Around}{E:Value->Shared->Prop}{s:Shared}
end
section
variable {X:Cx}
end
end L2
namespace Att
open PySem PySem.W PySem.Calls PyProof.Rows
theorem zac3 {P:Params}{h:Heap}:∀ (ns:List Int) (vs:List Value),WellAll P h vs (ns.map WData.int)->IntsAre vs ns:=by
 intro ns
 induction ns with
 | nil=>
  intro vs w
  rw[List.map_nil] at w
  cases w
  exact .nil
 | cons n ns ih=>
  intro vs w
  rw[zcs0] at w
  cases w with
  | cons a b=>
   cases a
   exact .cons _ _ (ih _ b)
theorem zbj4 {l:OpenLaw}{n:Nat}(hn:l.most=some n) {P:Params}{h:Heap}{args:List WData}{vals:List Value}
  (hpre:l.row.toRowW.claim.pre args=true) (hwl:WellAll P h vals args) :
  ∃ a vs ns,vals=[Value.ref a]/\args=[WData.list (ns.map WData.int)]/\h.get? a=some { cls:=.type "list",data:=.seq vs.toArray }/\IntsAre vs ns/\ns.length<=n:=by
 have hsh:WShape.hasAll [] args [.list .int]=true:=(pre_splitW hpre).1
 have hc:l.pre.holds [] { args:=args }=true:=(pre_splitW hpre).2
 obtain⟨d,r,rfl,h1,h2⟩:=hasAllW_cons hsh
 obtain rfl:=hasAllW_nil h2
 obtain⟨xs,rfl,h3⟩:=hasW_list h1
 obtain⟨ns,rfl⟩:=items_int h3
 have hlen:ns.length<=n:=by
  unfold OpenLaw.pre at hc
  have h4:(WTm.not (.lt (.lit (.int (n:Int))) (.len (.arg 0)))).holds [] { args:=[.list (ns.map .int)] }=true:=by
   have h4:=(holds_andW hc).1
   rw[hn] at h4
   exact h4
  have h5:=condW_of h4 (w_not (w_lt w_lit (w_len_list (w_arg rfl))))
  rw[zcp2] at h5
  refine Nat.le_of_not_lt fun q=>?_
  have q':(n:Int)<((ns.length:Nat):Int):=by omega
  first
   | (rw[decide_eq_true q'] at h5;exact absurd h5 (by decide))
   | (simp at h5;omega)
 cases hwl with
 | cons w1 w2=>
  cases w2
  cases w1 with
  | list ho hall=>exact⟨_,_,ns,rfl,rfl,ho,zac3 ns _ hall,hlen⟩
theorem zbl6 (l:OpenLaw) (args:List WData):l.row.toRowW.claim.post args (.bool true) args=true:=
 postW_of (r:=l.row.toRowW) (X:=(true==true))
  (show WShape.has [] (.bool true) .bool=true by first|rfl|decide|simp[WShape.has,WShape.arms,WShape.armsAll])
  (show (WTm.eq .res (.lit (.bool true))).value [] { args:=args,res:=some (.bool true),after:=args }=some (.bool (true==true)) from w_eq_bool (w_res rfl) w_lit) rfl
theorem attach_call {l:OpenLaw}{n:Nat}{q:Program}{loose:List Str}{XP:(Str->Option Value)->Heap->Prop}{YP:World->Heap->Prop}{d:DefRec}
  (hn:l.most=some n) (hdf:d.params.defaults=[])
  (call:∀ (w:World) (s₀ s₁:Shared) (mg mb:Str->Option Value) (fa:Addr) (o:Obj) (pm cd doc:Value) (a:Addr) (vs:List Value) (ns:List Int),
   Ground q loose [] XP w s₀ mg mb s₁.heap->YP w s₁.heap ->
   s₁.heap.get? fa=some o->o.data=.func (docDef d.name d.params d.body d.scope pm cd doc)->s₁.heap.CodeRec cd d.name->mg d.name=some (.ref fa) ->
   s₁.heap.get? a=some { cls:=.type "list",data:=.seq vs.toArray }->IntsAre vs ns->ns.length<=n->s₁.gens=#[] ->
   codeAny (model l.prog w) callerA (.call (.ref fa) ⟨[.ref a],[]⟩) (fun r s'=>r=.ok (.ret (.bool true))/\OldK s₁.heap s'.heap/\s'.os=s₁.os/\AllBare s'.gens) s₁) :
  WalkO q loose XP YP l.row.toRowW d [] (fun f vs=>PySem.call f vs):=by
 intro w s₀ s₁ mg mb G Y fa o pm cd doc dV kV ho hd hcd hD hmg hg args vals as hpre hlay hrd hwl hlo
 obtain rfl:dV=.none:=Dflts.none hD hdf
 obtain rfl:kV=.none:=Dflts.noKw hD
 obtain⟨a,vs,ns,rfl,rfl,hobj,hints,hlen⟩:=zbj4 hn hpre hwl
 refine enter_call (codeAny_mono (call w s₀ s₁ mg mb fa o pm cd doc a vs ns G Y ho (fd_plain hd) hcd hmg hobj hints hlen hg) fun r s' hq=>?_)
 obtain⟨rfl,h2,h3,h4⟩:=hq
 exact⟨.inl ⟨.bool true,.bool true,[],rfl,fun _=>rfl,.bool true,zbl6 l _,fun _=>⟨List.Pairwise.nil,fun _ hm=>(nomatch hm)⟩⟩,h2,h3,h4⟩
section
variable {prog:Program}{w:World}{A:Around}{E:Value->Shared->Prop}{s:Shared}{K:Frag}
def ledger (h:Heap) (L d:Addr):List (Addr×Obj):=(List.range h.objs.size).filterMap fun a=>if a=L∨a=d then none else (h.get? a).map fun o=>(a,o)
end
end Att
namespace L2
open PySem PySem.Spec PyProof.Rows
theorem zas3:∀ {vs:List Value}{ns:List Int},IntsAre vs ns->Vals (ns.map V.int) vs
 | _,_,.nil=>.nil
 | _,_,.cons n t h=>.cons ⟨t,rfl⟩ (zas3 h)
def Only (H:Hp):Prop:=∀ b,H b=none∨∃ o xs,H b=some (.frz o (.lst xs))
theorem zbx2 {P:Program}{w:World}{K:zcp3}{mg mb:Str->Option Value}{CX:CXT}{k:Nat}{fa a:Addr}{fd:FuncData}{x:Str}{sp:Sp}{s₁:Shared}{vs:List Value}{ns:List Int}
  (KX:K.In s₁.heap) (hns:s₁.heap.Ns mainGlobals mg) (hb:s₁.heap.Ns builtinsNs mb) (hbb:∀ x:Str,x≠"__name__"->mb x=bootBuiltins x) (hlim:s₁.heap.NoLimit) (hg:s₁.gens=#[])
  (ha:s₁.heap.get? a=some { cls:=.type "list",data:=.seq vs.toArray }) (hi:IntsAre vs ns) (hl:ns.length<=sizeLine) (hr:Room k callerA)
  (F:∀ base:Heap,K.In base->base.Ns mainGlobals mg->FnOk P w K mg base CX k fa fd [x] sp) (hbind:∀ (s:Shared) (u:Value),BindsTo s fd ⟨[u],[]⟩ [(x,u)])
  (hsp:∀ H:Hp,Only H->SqL K H a (ns.map V.int)->sp [.ref a] H (fun v _=>v=.bl true) fun _ _ _=>False)
  (hCX:∀ H e s',CX [] H s₁ (fun _ _ _=>False) e s'->False) :
  codeAny (model P w) callerA (.call (.ref fa) ⟨[.ref a],[]⟩) (fun r s'=>r=.ok (.ret (.bool true))/\OldK s₁.heap s'.heap/\s'.os=s₁.os/\AllBare s'.gens) s₁:=by
 have rv:=zas3 hi
 have lenV:=hi.length
 have core:∀ H:Hp,Only H->SqL K H a (ns.map V.int)->HOk P w H s₁.heap->(∀ b,H b≠none->b=a)->(H a≠none->K.lookup a=none) ->
   codeAny (model P w) callerA (.call (.ref fa) ⟨[.ref a],[]⟩) (fun r s'=>r=.ok (.ret (.bool true))/\OldK s₁.heap s'.heap/\s'.os=s₁.os/\AllBare s'.gens) s₁:=by
  intro H hO hS hok hA hK
  have base_of:∀ {b:Addr}{o:Obj},s₁.heap.get? b=some o->H b=none->(hidT s₁.heap H).get? b=some o:=fun e n=>zbv7 e n
  have noA:∀ {b:Addr}{o:Obj}{es:Array DictEntry}{ep:Nat},s₁.heap.get? b=some o->o.data=.dict es ep->H b=none:=fun {b o es ep} e d=>by
   cases q:H b with
   | none=>rfl
   | some u=>
    have e':b=a:=hA b (by rw[q];simp)
    subst e'
    rw[ha] at e;cases e
    have d':Data.seq vs.toArray _=Data.dict es ep:=d
    cases d'
  have nsK:∀ {b:Addr}{m:Str->Option Value},s₁.heap.Ns b m->(hidT s₁.heap H).Ns b m:=fun {b m} ⟨o,es,ep,e,d,r⟩=>⟨o,es,ep,base_of e (noA e d),d,r⟩
  have hKb:K.In (hidT s₁.heap H):=fun b o e=>base_of (KX b o e) (by
   cases q:H b with
   | none=>rfl
   | some u=>
    have e':b=a:=hA b (by rw[q];simp)
    subst e'
    rw[hK (by rw[q];simp)] at e;cases e)
  have hM:Mod K mg (hidT s₁.heap H):=⟨hKb,nsK hns,⟨mb,nsK hb,hbb⟩,let ⟨mc,h1,h2⟩:=hlim;⟨mc,nsK h1,h2⟩⟩
  have e0:Env0 P w K mg (hidT s₁.heap H) callerA [] s₁ H:=⟨rfl,hM,fun b o e=>zcb2 e,Nat.le_of_eq (zbh7 _ _),trivial,fun b hb=>absurd (show b∈([]:List Addr) from hb) (by simp),hok,.of_eq hg⟩
  refine codeAny_mono ((F _ hKb (nsK hns)).run callerA [] s₁ H ⟨[.ref a],[]⟩ [.ref a] [.ref a] _ _ hr e0 (hbind s₁ (.ref a)) (.cons rfl .nil) (hsp H hO hS)) fun r s' h=>?_
  cases r with
  | error e=>exact (hCX H e s' h).elim
  | ok fl=>
   cases fl with
   | next=>exact False.elim h
   | brk=>exact False.elim h
   | cont=>exact False.elim h
   | ret u=>
    obtain⟨v,H',os,bare,un,hok',r',q⟩:=h
    have q':v=.bl true:=q
    subst q'
    obtain rfl:u=Value.bool true:=r'
    refine⟨rfl,OldK.of_keep fun b o e=>?_,os,bare⟩
    cases q:H b with
    | none=>exact un.keep b o e q (by intro z;exact absurd (show b∈([]:List Addr) from z) (by simp)) (by simp)
    | some u=>
     rcases hO b with z|⟨ob,xs,z⟩
     ·rw[q] at z;cases z
     ·have z2:=un.frzs b ob _ z
      obtain⟨e1,_⟩:=hok b _ z
      obtain⟨e2,_⟩:=hok' b _ z2
      rw[e] at e1;cases e1
      exact e2
 cases hk:K.lookup a with
 | some o=>
  have e:=KX a o hk
  rw[ha] at e
  cases e
  refine core (fun _=>none) (fun _=>.inl rfl) (.inr ⟨_,vs.toArray,_,hk,rfl,rfl,rfl,by rw[zcq2,lenV];exact hl,by simpa using rv⟩) (fun b u z=>by have z':(none:Option HO)=some u:=z;cases z') (fun b z=>absurd rfl z) fun z=>absurd rfl z
 | none=>
  refine core (fun b=>if b=a then some (.frz { cls:=.type "list",data:=.seq vs.toArray } (.lst (ns.map V.int))) else none) (fun b=>?_) (.inl (.inr ⟨{ cls:=.type "list",data:=.seq vs.toArray },if_pos rfl⟩)) (fun b u z=>?_) (fun b z=>?_) fun _=>hk
  ·by_cases hb:b=a
   ·exact .inr ⟨_,_,if_pos hb⟩
   ·exact .inl (if_neg hb)
  ·by_cases hb:b=a
   ·have z':=(if_pos hb).symm.trans z
    cases z'
    subst hb
    exact⟨ha,by rw[zcp2];exact hl,vs,_,rv,ha⟩
   ·have z':=(if_neg hb).symm.trans z
    cases z'
  ·by_cases hb:b=a
   ·exact hb
   ·exact absurd (if_neg hb) z
end L2
namespace L2
open PySem PySem.Spec PyProof.Rows
theorem walk_of {l:PySem.W.OpenLaw}{n k:Nat}{q:Program}{loose:List Str}{XP:(Str->Option Value)->Heap->Prop}{YP:World->Heap->Prop}{d:DefRec}{K:Params->zcp3}{CX:World->CXT}{sp:World->Sp}{x:Str}
  (hn:l.most=some n) (hn2:n<=sizeLine) (hdf:d.params.defaults=[]) (hr:Room k callerA)
  (hY:∀ (w:World) (h:Heap),YP w h->(K w.params).In h)
  (F:∀ (w:World) (mg:Str->Option Value) (fa:Addr) (h:Heap),(K w.params).In h->h.Ns mainGlobals mg->mg d.name=some (.ref fa) ->
   ∃ fd:FuncData,(∀ (s:Shared) (u:Value),BindsTo s fd ⟨[u],[]⟩ [(x,u)]) /\
    ∀ base:Heap,(K w.params).In base->base.Ns mainGlobals mg->FnOk l.prog w (K w.params) mg base (CX w) k fa fd [x] (sp w))
  (hsp:∀ (w:World) (H:Hp) (a:Addr) (ns:List Int),ns.length<=n->Only H->SqL (K w.params) H a (ns.map V.int)->sp w [.ref a] H (fun v _=>v=.bl true) fun _ _ _=>False)
  (hCX:∀ (w:World) (H:Hp) (s:Shared) (e:Value) (s':Shared),CX w [] H s (fun _ _ _=>False) e s'->False) :
  PySem.W.WalkO q loose XP YP l.row.toRowW d [] (fun f vs=>PySem.call f vs):=by
 refine Att.attach_call hn hdf fun w s₀ s₁ mg mb fa o pm cd doc a vs ns G Y ho hd hcd hmg hobj hints hlen hg=>?_
 have KX:=hY w _ Y
 obtain⟨fd,hb,hF⟩:=F w mg fa _ KX G.T.g hmg
 exact zbx2 KX G.T.g G.T.b G.T.builtins G.T.nolimit hg hobj hints (zcu1 hlen hn2) hr hF hb (fun H hO hS=>hsp w H a ns hlen hO hS) fun H e s'=>hCX w H s₁ e s'
end L2
namespace L2
open PySem PySem.Spec PyProof.Rows
def zcd3 (s:Stmt) (j:Nat):Stmt:=match s with
 | .ClassDef _ _ _ body _ _ _ _ _ _ _=>body.getD j (.Pass ⟨0,0,0,0⟩)
 | _=>.Pass ⟨0,0,0,0⟩
def zb3 (s:Stmt):Arguments:=match s with
 | .FunctionDef _ a _ _ _ _ _ _ _ _=>a
 | _=>{ posonlyargs:=[],args:=[],vararg:=none,kwonlyargs:=[],kw_defaults:=[],kwarg:=none,defaults:=[] }
def zb2 (s:Stmt):List Stmt:=match s with
 | .FunctionDef _ _ b _ _ _ _ _ _ _=>b
 | _=>[]
def za3 (s:Stmt):Scope:=match s with
 | .FunctionDef _ _ _ _ _ _ sc _ _ _=>sc
 | _=>{ kind:=.function,names:=[],isGenerator:=false,isCoroutine:=false }
abbrev CX0:CXT:=fun _ _ _ _ _ _=>False
abbrev E0:XK:=fun _ _ _=>False
theorem zb7 {X:Cx}:zai2 CX0 X E0:=fun _ _ _ _ _ _ _ h=>h.elim
structure Fun (K:zcp3) (x qual:Str) (st:Stmt) (f:Addr) (fd:FuncData):Prop where
 ex:∃ (oc:Value) (od:Option Addr) (kV doc pm:Value) (an:Option Addr) (cdv ct:Value) (osl:Array (Option Value)),
  fd=zcq8 x qual (zb3 st) (zb2 st) (za3 st) .none kV doc pm an cdv ct/\K.lookup f=some ⟨oc,od,.func fd,osl⟩/\zcq5 K cdv qual=true
 kp:zcq3 K (.ref f)=true
section
variable {P:Program}{w:World}{K:zcp3}{mg:Str->Option Value}{base:Heap}
theorem Fun.ok {x qual:Str}{st:Stmt}{f:Addr}{fd:FuncData}{N ps:List Str}{k:Nat}{sp:Sp}(F:Fun K x qual st f fd) (S:zb4 N ps (za3 st)) (len:∀ vs H Q E,sp vs H Q E->vs.length=ps.length)
  (hbody:∀ (cdv:Value) (A:Around) (outer:List Env) (s:Shared) (H:Hp) (vs:List V) (Q:VK) (E:XK),Room k (A.deeper (envOfC qual (za3 st) s.heap.objs.size f cdv))->sp vs H Q E ->
   ∃ t,PSs (cxOf CX0 P w K mg base N qual (za3 st) f cdv A outer s H E).nox (zb2 st) t/\t { nx:=fun _ H'=>Q .non H',rt:=Q } (zal0 N vs) H):FnOk P w K mg base CX0 (k+1) f fd ps sp:=by
 obtain⟨oc,od,kV,doc,pm,an,cdv,ct,osl,rfl,lk,hcd⟩:=F.ex
 refine fn_of lk hcd S len fun A outer s H vs Q E hr hsp=>?_
 obtain⟨t,h,q⟩:=hbody cdv A outer s H vs Q E hr hsp
 exact⟨t,h.nox,q⟩
theorem Fun.binds {x qual:Str}{st:Stmt}{f:Addr}{fd:FuncData}{ps:List Str}(F:Fun K x qual st f fd)
  (h:∀ (kV doc pm:Value) (an:Option Addr) (cdv ct:Value) (us:List Value),us.length=ps.length->bindArgs (zcq8 x qual (zb3 st) (zb2 st) (za3 st) .none kV doc pm an cdv ct) ⟨us,[]⟩=pure (ps.zip us)):zah3 K fd ps []:=by
 obtain⟨oc,od,kV,doc,pm,an,cdv,ct,osl,rfl,lk,hcd⟩:=F.ex
 exact .all (h kV doc pm an cdv ct)
theorem zc3 {x qual:Str}{st:Stmt}{f:Addr}{oc:Value}{od an:Option Addr}{osl:Array (Option Value)}{kV doc pm cdv ct:Value}(l:K.lookup f=some ⟨oc,od,.func (zcq8 x qual (zb3 st) (zb2 st) (za3 st) .none kV doc pm an cdv ct),osl⟩)
  (c:zcq5 K cdv qual=true) (k:zcq3 K (.ref f)=true):Fun K x qual st f (zcq8 x qual (zb3 st) (zb2 st) (za3 st) .none kV doc pm an cdv ct):=⟨⟨oc,od,kV,doc,pm,an,cdv,ct,osl,rfl,l,c⟩,k⟩
end
section
variable {X:Cx}
end
theorem iteF {A B:Prop}(h:B):if false=true then A else B:=by
 rw[if_neg zcq0]
 exact h
theorem iteT {A B:Prop}(h:A):if true=true then A else B:=by
 rw[if_pos rfl]
 exact h
theorem ite2 {c A B:Prop}[Decidable c] (h1:c->A) (h2:¬ c->B):if c then A else B:=by
 by_cases h:c
 ·rw[if_pos h]
  exact h1 h
 ·rw[if_neg h]
  exact h2 h
def Same (H H':Hp):Prop:=∀ b o,H b=some o->H' b=some o
theorem Same.refl (H:Hp):Same H H:=fun _ _ h=>h
theorem Same.trans {H H1 H2:Hp}(a:Same H H1) (b:Same H1 H2):Same H H2:=fun c o h=>b c o (a c o h)
theorem Same.free {H H':Hp}(e:Same H H') {l:Addr}(h:H' l=Option.none):H l=Option.none:=by
 cases q:H l with
 | none=>rfl
 | some o=>
  rw[e l o q] at h
  cases h
theorem Same.seq {K:zcp3}{H H':Hp}{a:Addr}{xs:List V}(e:Same H H') (h:SqL K H a xs):SqL K H' a xs:=by
 rcases h with (h|⟨o,h⟩)|h
 ·exact .inl (.inl (e _ _ h))
 ·exact .inl (.inr ⟨o,e _ _ h⟩)
 ·exact .inr h
end L2
set_option maxHeartbeats 1000000
namespace L2
open PySem PySem.Spec PyProof.Rows
@[irreducible] def br (c:Bool) (A B:Prop):Prop:=if c=true then A else B
section
variable {A B p:Prop}{c:Bool}
theorem zz5:br c A B=(if c=true then A else B):=by unfold br;rfl
theorem br_T (h:A):br true A B:=by unfold br;exact iteT h
theorem br_F (h:B):br false A B:=by unfold br;exact iteF h
theorem br_any (h1:c=true->A) (h2:c=false->B):br c A B:=by
 cases c with
 | true=>exact br_T (h1 rfl)
 | false=>exact br_F (h2 rfl)
theorem zf5 [Decidable p] (h1:p->A) (h2:¬ p->B):br (decide p) A B:=br_any (fun h=>h1 (of_decide_eq_true h)) fun h=>h2 (of_decide_eq_false h)
theorem zr3 [Decidable p] (hp:p) (h:A):br (decide p) A B:=zf5 (fun _=>h) fun n=>absurd hp n
theorem zq7 [Decidable p] (hp:¬ p) (h:B):br (decide p) A B:=zf5 (fun n=>absurd n hp) fun _=>h
theorem zd2 (h:br c B A):br (!c) A B:=by
 cases c with
 | true=>unfold br at h ⊢;simpa using h
 | false=>unfold br at h ⊢;simpa using h
end
def Chg (a:Addr) (H H':Hp):Prop:=∀ b o,b≠a->H b=some o->H' b=some o
theorem Chg.upd {H:Hp}{a:Addr}{o:HO}:Chg a H (upd H a o):=fun b u hb e=>by rw[zc0 hb];exact e
theorem Same.upd {H:Hp}{a:Addr}{o:HO}(h:H a=none):Same H (L2.upd H a o):=fun b u e=>by rw[zc0 (za6 e h)];exact e
theorem Same.chg {H0 H H':Hp}{a:Addr}(s:Same H0 H) (n:H0 a=none) (c:Chg a H H'):Same H0 H':=fun b o e=>c b o (za6 e n) (s b o e)
theorem Chg.refl (a:Addr) (H:Hp):Chg a H H:=fun _ _ _ e=>e
theorem Chg.trans {H H1 H2:Hp}{a:Addr}(x:Chg a H H1) (y:Chg a H1 H2):Chg a H H2:=fun b o h e=>y b o h (x b o h e)
theorem Chg.same {H H1 H2:Hp}{a:Addr}(x:Chg a H H1) (y:Same H1 H2):Chg a H H2:=fun b o h e=>y b o (x b o h e)
theorem Same.toChg {H H1:Hp}{a:Addr}(x:Same H H1):Chg a H H1:=fun b o _ e=>x b o e
theorem Same.at {H H':Hp}{b:Addr}{o:HO}(s:Same H H') (e:H b=some o):H' b=some o:=s b o e
theorem Chg.at {H H':Hp}{a b:Addr}{o:HO}(s:Chg a H H') (e:H b=some o) (n:b≠a):H' b=some o:=s b o n e
def qV (i:Nat):TE:=fun σ H Q=>match σ[i]? with
 | some (some v)=>Q v H
 | _=>False
section
variable {X:Cx}
theorem pq (i:Nat) {x:Str}{pos:Pos}(hN:X.N[i]?=some x:=by rfl) (hv:Vis X.env.scope x:=by first|exact Or.inl rfl|exact Or.inr (Or.inl rfl)|exact Or.inr (Or.inr rfl)) (hd:(x==("__debug__":Str))=false:=by decide)
  (hcd:(x==("__classdict__":Str))=false:=by decide):PE X (.Name x pos) (qV i):=fun pins s σ H Q I h=>by
 refine pe_var hN hv hd hcd pins s σ H Q I ?_
 unfold qV at h
 split at h
 ·rename_i v e
  exact⟨v,e,h⟩
 ·exact h.elim
@[irreducible] def zbf2 (i j:Int) (H:Hp) (Q:VK):Prop:=IntMulOk i j/\Q (.int (i*j)) H
@[irreducible] def zbe7 (i j:Int) (H:Hp) (Q:VK):Prop:=(j≠0/\j.natAbs.log2<9000)/\Q (.int (i.fdiv j)) H
@[irreducible] def zbm6 (i j:Int) (H:Hp) (Q:VK):Prop:=j≠0/\Q (.int (i.fmod j)) H
@[irreducible] def rPowI (i j:Int) (H:Hp) (Q:VK):Prop:=CPow i j/\Q (.int (i ^ j.toNat)) H
@[irreducible] def rCatL (a b:Addr) (H:Hp) (Q:VK):Prop:=∃ xs zs,H a=some (.lst xs)/\H b=some (.lst zs)/\xs.length+zs.length<=sizeLine /\
 ∀ p H',H p=none->Same H H'->H' p=some (.lst (xs++zs))->Q (.ref p) H'
@[irreducible] def rRepL (a:Addr) (k:Int) (H:Hp) (Q:VK):Prop:=∃ xs,H a=some (.lst xs)/\-(2 ^ 63)<=k/\k<2 ^ 63/\xs.length*k.toNat<=sizeLine /\
 ∀ p H',H p=none->Same H H'->H' p=some (.lst (List.replicate k.toNat xs).flatten)->Q (.ref p) H'
def rAddM:R2:=fun x y H Q=>match x,y with
 | .int i,.int j=>Q (.int (i+j)) H
 | .ref a,.ref b=>rCatL a b H Q
 | .str a,.str b=>a.length+b.length<=sizeLine/\Q (.str (a++b)) H
 | _,_=>False
def rSubM:R2:=fun x y H Q=>match x,y with
 | .int i,.int j=>Q (.int (i - j)) H
 | _,_=>False
def rMulM:R2:=fun x y H Q=>match x,y with
 | .int i,.int j=>zbf2 i j H Q
 | .ref a,.int k=>rRepL a k H Q
 | _,_=>False
def rDivM:R2:=fun x y H Q=>match x,y with
 | .int i,.int j=>zbe7 i j H Q
 | _,_=>False
def rModM:R2:=fun x y H Q=>match x,y with
 | .int i,.int j=>zbm6 i j H Q
 | _,_=>False
def rPowM:R2:=fun x y H Q=>match x,y with
 | .int i,.int j=>rPowI i j H Q
 | _,_=>False
theorem oAdd:OpR X (binaryOp .Add) rAddM:=by
 intro pins s σ H x y v u Q I rx ry h
 unfold rAddM at h
 split at h
 ·exact op_add pins s σ H _ _ v u Q I rx ry ⟨_,_,rfl,rfl,h⟩
 ·unfold rCatL at h
  obtain⟨xs,zs,h1,h2,h3,h4⟩:=h
  exact op_cat pins s σ H _ _ v u Q I rx ry ⟨_,_,xs,zs,rfl,rfl,h1,h2,h3,fun p hp=>h4 p _ hp (Same.upd hp) zc2⟩
 ·exact zbh3 pins s σ H _ _ v u Q I rx ry ⟨_,_,rfl,rfl,h.1,h.2⟩
 ·exact h.elim
theorem oSub:OpR X (binaryOp .Sub) rSubM:=by
 intro pins s σ H x y v u Q I rx ry h
 unfold rSubM at h
 split at h
 ·exact op_sub pins s σ H _ _ v u Q I rx ry ⟨_,_,rfl,rfl,h⟩
 ·exact h.elim
theorem oMul:OpR X (binaryOp .Mult) rMulM:=by
 intro pins s σ H x y v u Q I rx ry h
 unfold rMulM at h
 split at h
 ·unfold zbf2 at h
  obtain⟨t,rfl⟩:=rx
  obtain⟨t',rfl⟩:=ry
  exact mul_int ⟨.int _,H,I.tok _,⟨_,rfl⟩,h.2⟩ h.1
 ·unfold rRepL at h
  obtain⟨xs,h1,h2,h3,h4,h5⟩:=h
  exact op_rep pins s σ H _ _ v u Q I rx ry ⟨_,_,xs,rfl,rfl,h1,h2,h3,h4,fun p hp=>h5 p _ hp (Same.upd hp) zc2⟩
 ·exact h.elim
theorem oDiv:OpR X (binaryOp .FloorDiv) rDivM:=by
 intro pins s σ H x y v u Q I rx ry h
 unfold rDivM at h
 split at h
 ·unfold zbe7 at h
  obtain⟨⟨h1,h2⟩,h3⟩:=h
  obtain⟨t,rfl⟩:=rx
  obtain⟨t',rfl⟩:=ry
  exact floordiv_int h1 ⟨.int _,H,I.tok _,⟨_,rfl⟩,h3⟩ (.inl (PyProof.noPylong_of_log2 h2))
 ·exact h.elim
theorem oMod:OpR X (binaryOp .Mod) rModM:=by
 intro pins s σ H x y v u Q I rx ry h
 unfold rModM at h
 split at h
 ·unfold zbm6 at h
  exact zcc4 pins s σ H _ _ v u Q I rx ry ⟨_,_,rfl,rfl,h.1,h.2⟩
 ·exact h.elim
theorem oPow:OpR X (binaryOp .Pow) rPowM:=by
 intro pins s σ H x y v u Q I rx ry h
 unfold rPowM at h
 split at h
 ·unfold rPowI at h
  exact op_pow pins s σ H _ _ v u Q I rx ry ⟨_,_,rfl,rfl,h.1,h.2⟩
 ·exact h.elim
def rNegM:V->Hp->VK->Prop:=fun x H Q=>match x with
 | .int i=>Q (.int (-i)) H
 | _=>False
theorem uNeg:UnR X (unaryOp .USub) rNegM:=by
 intro pins s σ H x v Q I rx h
 unfold rNegM at h
 split at h
 ·exact un_neg pins s σ H _ v Q I rx ⟨_,rfl,h⟩
 ·exact h.elim
section
variable {i j:Int}{H:Hp}{Q:VK}
theorem zv1 (h:IntMulOk i j) (q:Q (.int (i*j)) H):zbf2 i j H Q:=by unfold zbf2;exact⟨h,q⟩
theorem log2_lt {n k:Nat}(h:n<2 ^ k) (hk:0<k):n.log2<k:=by
 by_cases h0:n=0
 ·subst h0;simpa using hk
 ·exact (Nat.log2_lt h0).mpr h
theorem zaw8 {j:Int}(h1:-(10 ^ 240)<j) (h2:j<10 ^ 240):j.natAbs<2 ^ 2000:=by
 have e:(10:Int) ^ 240=((10 ^ 240:Nat):Int):=by norm_cast
 have e2:(10:Nat) ^ 240<2 ^ 2000:=by decide +kernel
 rw[e] at h1 h2
 generalize hN:(10:Nat) ^ 240=N at h1 h2 e2
 generalize hM:(2:Nat) ^ 2000=M at e2
 omega
theorem zr8 (h1:-(10 ^ 240)<i) (h2:i<10 ^ 240) (h3:-(10 ^ 240)<j) (h4:j<10 ^ 240):IntMulOk i j:=by
 have f:∀ {k:Int},-(10 ^ 240)<k->k<10 ^ 240->Builtin.Int.intBits k<=2 ^ 20:=fun {k} a b=>by
  have h:=log2_lt (zaw8 a b) (by decide)
  unfold Builtin.Int.intBits
  have e:(2:Nat) ^ 20=1048576:=by decide
  rw[e]
  split<;>omega
 exact .of_bits (f h1 h2) (f h3 h4)
theorem div_rd (h1:0<j) (h2:j<10 ^ 240) (q:Q (.int (i / j)) H):zbe7 i j H Q:=by
 unfold zbe7
 refine⟨⟨by omega,?_⟩,?_⟩
 ·have h:=log2_lt (zaw8 (j:=j) (by have:(0:Int)<10 ^ 240:=(by decide +kernel);generalize (10:Int) ^ 240=N at this;omega) h2) (by decide)
  omega
 ·rw[Int.fdiv_eq_ediv_of_nonneg _ (by omega)];exact q
theorem zbk5 (h0:j≠0) (h1:-(10 ^ 240)<j) (h2:j<10 ^ 240) (q:Q (.int (i.fdiv j)) H):zbe7 i j H Q:=by
 unfold zbe7
 refine⟨⟨h0,?_⟩,q⟩
 have h:=log2_lt (zaw8 h1 h2) (by decide)
 omega
theorem zbo2 (h1:0<j) (q:Q (.int (i % j)) H):zbm6 i j H Q:=by
 unfold zbm6
 refine⟨by omega,?_⟩
 rw[Int.fmod_eq_emod_of_nonneg _ (by omega)];exact q
theorem zca6 (h:CPow i j) (q:Q (.int (i ^ j.toNat)) H):rPowI i j H Q:=by unfold rPowI;exact⟨h,q⟩
theorem zby9 {a b:Addr}{xs zs:List V}(h1:H a=some (.lst xs)) (h2:H b=some (.lst zs)) (h3:xs.length+zs.length<=sizeLine)
  (q:∀ p H',H p=none->Same H H'->H' p=some (.lst (xs++zs))->Q (.ref p) H'):rCatL a b H Q:=by unfold rCatL;exact⟨xs,zs,h1,h2,h3,q⟩
theorem rep_rd {a:Addr}{k:Int}{xs:List V}(h1:H a=some (.lst xs)) (h2:-(2 ^ 63)<=k) (h3:k<2 ^ 63) (h4:xs.length*k.toNat<=sizeLine)
  (q:∀ p H',H p=none->Same H H'->H' p=some (.lst (List.replicate k.toNat xs).flatten)->Q (.ref p) H'):rRepL a k H Q:=by unfold rRepL;exact⟨xs,h1,h2,h3,h4,q⟩
end
def rLtM:R2:=fun x y H Q=>match x,y with
 | .int i,.int j=>Q (.bl (decide (i<j))) H
 | _,_=>False
def rLeM:R2:=fun x y H Q=>match x,y with
 | .int i,.int j=>Q (.bl (decide (i<=j))) H
 | _,_=>False
def rGtM:R2:=fun x y H Q=>match x,y with
 | .int i,.int j=>Q (.bl (decide (j<i))) H
 | _,_=>False
def rGeM:R2:=fun x y H Q=>match x,y with
 | .int i,.int j=>Q (.bl (decide (j<=i))) H
 | _,_=>False
theorem oLt:OpR X (compareOp .Lt) rLtM:=by
 intro pins s σ H x y v u Q I rx ry h
 unfold rLtM at h
 split at h
 ·exact op_lt pins s σ H _ _ v u Q I rx ry ⟨_,_,rfl,rfl,h⟩
 ·exact h.elim
theorem oLe:OpR X (compareOp .LtE) rLeM:=by
 intro pins s σ H x y v u Q I rx ry h
 unfold rLeM at h
 split at h
 ·exact op_le pins s σ H _ _ v u Q I rx ry ⟨_,_,rfl,rfl,h⟩
 ·exact h.elim
theorem oGt:OpR X (compareOp .Gt) rGtM:=by
 intro pins s σ H x y v u Q I rx ry h
 unfold rGtM at h
 split at h
 ·exact op_gt pins s σ H _ _ v u Q I rx ry ⟨_,_,rfl,rfl,h⟩
 ·exact h.elim
theorem oGe:OpR X (compareOp .GtE) rGeM:=by
 intro pins s σ H x y v u Q I rx ry h
 unfold rGeM at h
 split at h
 ·exact op_ge pins s σ H _ _ v u Q I rx ry ⟨_,_,rfl,rfl,h⟩
 ·exact h.elim
inductive EqR (K:zcp3) (H:Hp):Nat->V->V->Bool->Prop where
 | flat {n:Nat}{x y:V}(fx:zw1 x=true) (fy:zw1 y=true):EqR K H n x y (eqV x y)
 | tup {n:Nat}{a b:Addr}{xs ys:List V}(e:Nat->Bool) (ha:SqT K H a xs) (hb:SqT K H b ys) (h:∀ (j:Nat) (x y:V),xs[j]?=some x->ys[j]?=some y->EqR K H n x y (e j)) :
   EqR K H (n+1) (.ref a) (.ref b) ((List.range (min xs.length ys.length)).all e&&xs.length==ys.length)
 | lst {n:Nat}{a b:Addr}{xs ys:List V}(e:Nat->Bool) (ha:SqL K H a xs) (hb:SqL K H b ys) (hl:xs.length=ys.length) (h:∀ (j:Nat) (x y:V),xs[j]?=some x->ys[j]?=some y->EqR K H n x y (e j)) :
   EqR K H (n+1) (.ref a) (.ref b) ((List.range xs.length).all e)
 | lstN {n:Nat}{a b:Addr}{xs ys:List V}(ha:SqL K H a xs) (hb:SqL K H b ys) (hl:xs.length≠ys.length):EqR K H (n+1) (.ref a) (.ref b) false
theorem zbu6 {x:V}(f:zw1 x=true):eqV x x=true:=by
 cases x<;>first|rfl|(simp[eqV];done)|exact absurd (show false=true from f) zcq0
section
variable {pins:List (Addr×Obj)}{σ:St}{H:Hp}{s:Shared}
theorem EqR.self (I:Inv X pins σ H s) {n:Nat}{x y:V}{b:Bool}(h:EqR X.K H n x y b):x=y->b=true:=by
 induction h with
 | flat fx fy=>rintro rfl;exact zbu6 fx
 | tup e ha hb h ih=>
  intro q
  cases q
  have q:=I.tuple_inj ha hb
  subst q
  rw[Nat.min_self,zcr6]
  refine⟨zcs6.mpr fun j hj=>?_,by simp⟩
  have hj:=zcu0.mp hj
  exact ih j _ _ (zcp1 hj) (zcp1 hj) rfl
 | lst e ha hb hl h ih=>
  intro q
  cases q
  have q:=I.list_inj ha hb
  subst q
  refine zcs6.mpr fun j hj=>?_
  have hj:=zcu0.mp hj
  exact ih j _ _ (zcp1 hj) (zcp1 hj) rfl
 | lstN ha hb hl=>
  intro q
  cases q
  exact absurd (congrArg List.length (I.list_inj ha hb)) hl
theorem zx9 (A:Around):A.in1.units=A.units+1:=rfl
mutual
theorem EqR.at (I:Inv X pins σ H s):∀ {n:Nat}{x y:V}{b:Bool},EqR X.K H n x y b->∀ {u v:Value}{A:Around},RelV x u->RelV y v->A.units+n<cLine->SeqAt.EqAt A s u v b
 | _,_,_,_,.flat fx fy,u,v,A,rx,ry,_=>zbk6 rx ry fx fy
 | _,.ref a,.ref b,_,h,u,v,A,rx,ry,hu=>by
  cases rx
  cases ry
  by_cases e:a=b
  ·subst e
   rw[h.self I rfl]
   exact SeqAt.EqAt.same _
  ·exact SeqAt.EqAt.of_refs e (EqR.rc I h hu)
theorem EqR.rc (I:Inv X pins σ H s):∀ {n:Nat}{a b:Addr}{c:Bool},EqR X.K H n (.ref a) (.ref b) c->∀ {A:Around},A.units+n<cLine->SeqAt.RcAt A s (.ref a) (.ref b) c
 | _,_,_,_,.flat fx _,_,_=>absurd (show false=true from fx) zcq0
 | _,a,b,_,.tup (xs:=xs) (ys:=ys) e ha hb h,A,hu=>by
  obtain⟨its,r1,t1,z1⟩:=I.tuple ha
  obtain⟨its2,r2,t2,z2⟩:=I.tuple hb
  have l1:its.toArray.size=xs.length:=by rw[zcq2];exact r1.length.symm
  have l2:its2.toArray.size=ys.length:=by rw[zcq2];exact r2.length.symm
  have q:=SeqAt.RcAt.tuples (A:=A) (e:=e) t1 t2 (by omega) fun j h1 h2=>by
   rw[l1] at h1
   rw[l2] at h2
   obtain⟨u1,e1,q1⟩:=r1.get (zcp1 h1)
   obtain⟨u2,e2,q2⟩:=r2.get (zcp1 h2)
   have i1:its.toArray[j]=u1:=by
    have:=(zcp4.mp e1).2
    simpa using this
   have i2:its2.toArray[j]=u2:=by
    have:=(zcp4.mp e2).2
    simpa using this
   rw[i1,i2]
   exact EqR.at I (h j _ _ (zcp1 h1) (zcp1 h2)) q1 q2 (by rw[zx9];omega)
  rw[l1,l2] at q
  exact q
 | _,a,b,_,.lst (xs:=xs) (ys:=ys) e ha hb hl h,A,hu=>by
  obtain⟨its,r1,t1,z1⟩:=I.list ha
  obtain⟨its2,r2,t2,z2⟩:=I.list hb
  have l1:its.toArray.size=xs.length:=by rw[zcq2];exact r1.length.symm
  have l2:its2.toArray.size=ys.length:=by rw[zcq2];exact r2.length.symm
  have q:=SeqAt.RcAt.lists (A:=A) (e:=e) t1.isList t2.isList (by rw[l1,l2];exact hl) (by omega) fun j h1 h2=>by
   rw[l1] at h1
   rw[l2] at h2
   obtain⟨u1,e1,q1⟩:=r1.get (zcp1 h1)
   obtain⟨u2,e2,q2⟩:=r2.get (zcp1 h2)
   have i1:its.toArray[j]=u1:=by
    have:=(zcp4.mp e1).2
    simpa using this
   have i2:its2.toArray[j]=u2:=by
    have:=(zcp4.mp e2).2
    simpa using this
   rw[i1,i2]
   exact EqR.at I (h j _ _ (zcp1 h1) (zcp1 h2)) q1 q2 (by rw[zx9];omega)
  rw[l1] at q
  exact q
 | _,a,b,_,.lstN (xs:=xs) (ys:=ys) ha hb hl,A,hu=>by
  obtain⟨its,r1,t1,z1⟩:=I.list ha
  obtain⟨its2,r2,t2,z2⟩:=I.list hb
  have l1:its.toArray.size=xs.length:=by rw[zcq2];exact r1.length.symm
  have l2:its2.toArray.size=ys.length:=by rw[zcq2];exact r2.length.symm
  exact SeqAt.RcAt.lists_lengths t1.isList t2.isList (by rw[l1,l2];simpa using hl) (by omega)
end
theorem EqR.rcNe (I:Inv X pins σ H s):∀ {n:Nat}{a b:Addr}{c:Bool},EqR X.K H n (.ref a) (.ref b) c->∀ {A:Around},A.units+n<cLine->SeqAt.RcNeAt A s (.ref a) (.ref b) (!c)
 | _,_,_,_,.flat fx _,_,_=>absurd (show false=true from fx) zcq0
 | _,a,b,_,.tup (xs:=xs) (ys:=ys) e ha hb h,A,hu=>by
  obtain⟨its,r1,t1,z1⟩:=I.tuple ha
  obtain⟨its2,r2,t2,z2⟩:=I.tuple hb
  have l1:its.toArray.size=xs.length:=by rw[zcq2];exact r1.length.symm
  have l2:its2.toArray.size=ys.length:=by rw[zcq2];exact r2.length.symm
  have q:=SeqAt.RcNeAt.tuples (A:=A) (e:=e) t1 t2 (by omega) fun j h1 h2=>by
   rw[l1] at h1
   rw[l2] at h2
   obtain⟨u1,e1,q1⟩:=r1.get (zcp1 h1)
   obtain⟨u2,e2,q2⟩:=r2.get (zcp1 h2)
   have i1:its.toArray[j]=u1:=by
    have:=(zcp4.mp e1).2
    simpa using this
   have i2:its2.toArray[j]=u2:=by
    have:=(zcp4.mp e2).2
    simpa using this
   rw[i1,i2]
   exact EqR.at I (h j _ _ (zcp1 h1) (zcp1 h2)) q1 q2 (by rw[zx9];omega)
  rw[l1,l2] at q
  exact q
 | _,a,b,_,.lst (xs:=xs) (ys:=ys) e ha hb hl h,A,hu=>by
  obtain⟨its,r1,t1,z1⟩:=I.list ha
  obtain⟨its2,r2,t2,z2⟩:=I.list hb
  have l1:its.toArray.size=xs.length:=by rw[zcq2];exact r1.length.symm
  have l2:its2.toArray.size=ys.length:=by rw[zcq2];exact r2.length.symm
  have q:=SeqAt.RcNeAt.lists (A:=A) (e:=e) t1.isList t2.isList (by rw[l1,l2];exact hl) (by omega) fun j h1 h2=>by
   rw[l1] at h1
   rw[l2] at h2
   obtain⟨u1,e1,q1⟩:=r1.get (zcp1 h1)
   obtain⟨u2,e2,q2⟩:=r2.get (zcp1 h2)
   have i1:its.toArray[j]=u1:=by
    have:=(zcp4.mp e1).2
    simpa using this
   have i2:its2.toArray[j]=u2:=by
    have:=(zcp4.mp e2).2
    simpa using this
   rw[i1,i2]
   exact EqR.at I (h j _ _ (zcp1 h1) (zcp1 h2)) q1 q2 (by rw[zx9];omega)
  rw[l1] at q
  exact q
 | _,a,b,_,.lstN (xs:=xs) (ys:=ys) ha hb hl,A,hu=>by
  obtain⟨its,r1,t1,z1⟩:=I.list ha
  obtain⟨its2,r2,t2,z2⟩:=I.list hb
  have l1:its.toArray.size=xs.length:=by rw[zcq2];exact r1.length.symm
  have l2:its2.toArray.size=ys.length:=by rw[zcq2];exact r2.length.symm
  exact SeqAt.RcNeAt.lists_lengths t1.isList t2.isList (by rw[l1,l2];simpa using hl) (by omega)
end
@[irreducible] def rEqO (K:zcp3) (a b:Addr) (H:Hp) (Q:VK):Prop:=∃ n c,n<=40/\EqR K H n (.ref a) (.ref b) c/\Q (.bl c) H
def rEqM (K:zcp3):R2:=fun x y H Q=>match x,y with
 | .int i,.int j=>Q (.bl (decide (i=j))) H
 | .bl i,.bl j=>Q (.bl (decide (i=j))) H
 | .str i,.str j=>Q (.bl (decide (i=j))) H
 | .ref a,.ref b=>rEqO K a b H Q
 | x,y=>scal x y=true/\Q (.bl (decide (x=y))) H
def rNeM (K:zcp3):R2:=fun x y H Q=>rEqM K x y H fun v H'=>match v with
 | .bl b=>Q (.bl (!b)) H'
 | _=>False
theorem zn7 {α β:Type}[DecidableEq α] [DecidableEq β] {f:α->β}(hf:∀ a b,f a=f b->a=b) (a b:α):decide (f a=f b)=decide (a=b):=by
 by_cases h:a=b
 ·subst h;simp
 ·rw[decide_eq_false h,decide_eq_false fun e=>h (hf _ _ e)]
theorem oEq (hu:X.A.units+40<cLine):OpR X (compareOp .Eq) (rEqM X.K):=by
 intro pins s σ H x y v u Q I rx ry h
 unfold rEqM at h
 split at h
 ·rename_i i j
  exact zaz5 pins s σ H _ _ v u Q I rx ry ⟨rfl,by rw[zn7 (f:=V.int) fun a b e=>V.int.inj e];exact h⟩
 ·exact zaz5 pins s σ H _ _ v u Q I rx ry ⟨rfl,by rw[zn7 (f:=V.bl) fun a b e=>V.bl.inj e];exact h⟩
 ·exact zaz5 pins s σ H _ _ v u Q I rx ry ⟨rfl,by rw[zn7 (f:=V.str) fun a b e=>V.str.inj e];exact h⟩
 ·unfold rEqO at h
  obtain⟨n,c,hn,h1,h2⟩:=h
  cases rx
  cases ry
  exact EqR.rc I h1 (A:=X.A) (by omega) _ _ _ _ ⟨.bl c,H,I,rfl,h2⟩
 ·exact zaz5 pins s σ H _ _ v u Q I rx ry h
theorem oNe (hu:X.A.units+40<cLine):OpR X (compareOp .NotEq) (rNeM X.K):=by
 intro pins s σ H x y v u Q I rx ry h
 unfold rNeM rEqM at h
 split at h
 ·rename_i i j
  exact zav6 pins s σ H _ _ v u Q I rx ry ⟨rfl,by rw[zn7 (f:=V.int) fun a b e=>V.int.inj e];exact h⟩
 ·exact zav6 pins s σ H _ _ v u Q I rx ry ⟨rfl,by rw[zn7 (f:=V.bl) fun a b e=>V.bl.inj e];exact h⟩
 ·exact zav6 pins s σ H _ _ v u Q I rx ry ⟨rfl,by rw[zn7 (f:=V.str) fun a b e=>V.str.inj e];exact h⟩
 ·unfold rEqO at h
  obtain⟨n,c,hn,h1,h2⟩:=h
  cases rx
  cases ry
  exact EqR.rcNe I h1 (A:=X.A) (by omega) _ _ _ _ ⟨.bl (!c),H,I,rfl,h2⟩
 ·exact zav6 pins s σ H _ _ v u Q I rx ry ⟨h.1,h.2⟩
section
variable {K:zcp3}{H:Hp}{Q:VK}{a b:Addr}{c:Bool}{n:Nat}
end
def qB (t:TE):TT:=fun σ H Q=>t σ H fun x H1=>match x with
 | .bl c=>Q c H1
 | .int i=>Q (!decide (i=0)) H1
 | _=>False
theorem ptV {e:Expr}{t:TE}(h:PE X e t) (he:∀ whole,isTrue e X.env whole=(do let v ← whole;standAt e.pos;holding [v] (truthy v)):=by intro _;rfl):PT X e (qB t):=fun pins s σ H Q I hw=>by
 refine isTrue_plain (thn (h pins s σ H _ I hw) fun v s1 ⟨x,H1,I1,r1,q1⟩=>?_) (he _)
 dsimp only at q1
 split at q1
 ·exact zbr1 pins s1 σ H1 _ v Q I1 r1 ⟨_,rfl,q1⟩
 ·rename_i i
  refine zbr1 pins s1 σ H1 _ v Q I1 r1 ⟨_,rfl,?_⟩
  have e:(i != 0)=!decide (i=0):=by by_cases h:i=0<;>simp[h]
  rw[e];exact q1
 ·exact q1.elim
theorem ptC {a b:Expr}{ta tb:TE}{pos:Pos}{op:CmpOp}{r:R2}(ho:OpR X (compareOp op) r) (ha:PE X a ta) (hb:PE X b tb) (hm:behindInMarks op b=false:=by first|exact zby1 _|with_unfolding_all rfl):PT X (.Compare a [op] [b] pos) (qB (tOp r ta tb)):=by
 intro pins s σ H Q I h
 refine wpAny_isTrue_Compare1 (thn (ha pins s σ H _ I h) fun v s1 ⟨x,H1,I1,r1,q1⟩=>thn (hb pins s1 σ H1 _ I1 q1) fun u s2 ⟨y,H2,I2,r2,q2⟩=>
  thn (ho pins s2 σ H2 x y v u _ I2 r1 r2 q2) fun c s3 ⟨z,H3,I3,r3,q3⟩=>?_) hm
 dsimp only at q3
 split at q3
 ·cases r3
  exact wpAny_truthy_bool ⟨H3,I3,q3⟩
 ·rename_i i
  refine zbr1 pins s3 σ H3 _ c Q I3 r3 ⟨_,rfl,?_⟩
  have e:(i != 0)=!decide (i=0):=by by_cases h:i=0<;>simp[h]
  rw[e];exact q3
 ·exact q3.elim
theorem peC {a b:Expr}{ta tb:TE}{pos:Pos}{op:CmpOp}{r:R2}(ho:OpR X (compareOp op) r) (ha:PE X a ta) (hb:PE X b tb) (hm:behindInMarks op b=false:=by first|exact zby1 _|with_unfolding_all rfl):PE X (.Compare a [op] [b] pos) (tOp r ta tb):=
 zcc3 ho ha hb hm
variable {a b:Expr}{rest:List Expr}{tA tB':TT}{ta tb:TE}{pos:Pos}
def qAnd (t u:TT):TT:=fun σ H Q=>t σ H fun c H1=>br c (u σ H1 Q) (Q false H1)
def qOr (t u:TT):TT:=fun σ H Q=>t σ H fun c H1=>br c (Q true H1) (u σ H1 Q)
theorem pwAnd (ha:PT X a tA) (hb:PW X (.BoolOp .And (b :: rest) pos) tB'):PW X (.BoolOp .And (a :: b :: rest) pos) (qAnd tA tB'):=fun wh pins s σ H Q I h=>
 pw_and ha hb wh pins s σ H Q I (by unfold qAnd at h;simp only[zz5] at h;exact h)
theorem pwOr (ha:PT X a tA) (hb:PW X (.BoolOp .Or (b :: rest) pos) tB'):PW X (.BoolOp .Or (a :: b :: rest) pos) (qOr tA tB'):=fun wh pins s σ H Q I h=>
 pw_or ha hb wh pins s σ H Q I (by unfold qOr at h;simp only[zz5] at h;exact h)
def qAndV (ta tb:TE):TE:=fun σ H Q=>ta σ H fun x H1=>match x with
 | .bl c=>br c (tb σ H1 Q) (Q (.bl false) H1)
 | _=>False
def qNotV (ta:TE):TE:=fun σ H Q=>ta σ H fun x H1=>match x with
 | .bl c=>Q (.bl (!c)) H1
 | _=>False
theorem zu8 (ha:PE X a ta) (hb:PE X (.BoolOp .And (b :: rest) pos) tb):PE X (.BoolOp .And (a :: b :: rest) pos) (qAndV ta tb):=by
 intro pins s σ H Q I h
 refine BoolOp_and (thn (ha pins s σ H _ I h) fun v s1 ⟨x,H1,I1,r1,q1⟩=>?_)
 dsimp only at q1
 split at q1
 ·rename_i c
  cases r1
  refine wpAny_truthy_bool ?_
  rw[zz5] at q1
  cases c with
  | true=>exact hb pins s1 σ H1 Q I1 (by simpa using q1)
  | false=>exact⟨.bl false,H1,I1,rfl,by simpa using q1⟩
 ·exact q1.elim
theorem peNot (ha:PE X a ta):PE X (.UnaryOp .Not a pos) (qNotV ta):=by
 intro pins s σ H Q I h
 refine UnaryOp_ (thn (ha pins s σ H _ I h) fun v s1 ⟨x,H1,I1,r1,q1⟩=>?_)
 dsimp only at q1
 split at q1
 ·rename_i c
  cases r1
  exact not_of (wpAny_truthy_bool ⟨.bl (!c),H1,I1,rfl,q1⟩)
 ·exact q1.elim
def qIf (t:TT) (ta tb:TE):TE:=fun σ H Q=>t σ H fun c H1=>br c (ta σ H1 Q) (tb σ H1 Q)
theorem peIf {c:Expr}(hc:PT X c tA) (ha:PE X a ta) (hb:PE X b tb):PE X (.IfExp c a b pos) (qIf tA ta tb):=fun pins s σ H Q I h=>
 zbw6 hc ha hb pins s σ H Q I (by unfold qIf at h;simp only[zz5] at h;exact h)
def qChain (r r':R2) (ta tb tc:TE):TE:=fun σ H Q=>ta σ H fun x H1=>tb σ H1 fun y H2=>r x y H2 fun z H3=>match z with
 | .bl k=>br k (tc σ H3 fun w' H4=>r' y w' H4 Q) (Q (.bl false) H3)
 | _=>False
theorem zch1 {c:Expr}{tc:TE}{op op':CmpOp}{r r':R2}(ho:OpR X (compareOp op) r) (ho':OpR X (compareOp op') r') (ha:PE X a ta) (hb:PE X b tb) (hc:PE X c tc)
  (hm:lastMarks [op,op'] [b,c]=false:=by with_unfolding_all rfl):PE X (.Compare a [op,op'] [b,c] pos) (qChain r r' ta tb tc):=by
 intro pins s σ H Q I h
 refine Compare_chain (thn (ha pins s σ H _ I h) fun v s1 ⟨x,H1,I1,r1,q1⟩=>chain_link (thn (hb pins s1 σ H1 _ I1 q1) fun u s2 ⟨y,H2,I2,r2,q2⟩=>
  thn (ho pins s2 σ H2 x y v u _ I2 r1 r2 q2) fun d s3 ⟨z,H3,I3,r3,q3⟩=>?_)) hm
 dsimp only at q3
 split at q3
 ·rename_i k
  cases r3
  refine wpAny_truthy_bool ?_
  rw[zz5] at q3
  cases k with
  | false=>exact ite_ff ⟨.bl false,H3,I3,rfl,by simpa using q3⟩
  | true=>exact ite_tt (chain_last (thn (hc pins s3 σ H3 _ I3 (by simpa using q3)) fun w' s4 ⟨z',H4,I4,r4,q4⟩=>ho' pins s4 σ H4 y z' u w' Q I4 r2 r4 q4))
 ·exact q3.elim
variable {st:Stmt}{t u:TS}{e:Expr}{te:TE}
def qIfS (c:TT) (t u:TS):TS:=fun D σ H=>c σ H fun b H1=>br b (t D σ H1) (u D σ H1)
theorem psIf {c:Expr}{a b:List Stmt}{tc:TT}(hc:PT X c tc) (ha:PSs X a t) (hb:PSs X b u):PS X (.If c a b pos) (qIfS tc t u):=fun pins s σ H D I h=>
 ps_if hc ha hb pins s σ H D I (by unfold qIfS at h;simp only[zz5] at h;exact h)
@[irreducible] def zah4 (J:It) (g:TG) (tb:TS) (D:Ends) (σ:St) (H1:Hp):Prop:=∃ W:Nat->Nat->St->Hp->Prop,(∃ m,W 0 m σ H1)/\∀ i m σ H,W i m σ H ->
 (J.stop i H/\D.nx σ H)∨(J.go i H/\∃ N:St->Hp->Prop,(∀ σ' H',N σ' H'->∃ m',m'<m/\W (i+1) m' σ' H')/\∀ x H',J.yld i H x H'->g x σ H' fun σ2 H2=>tb { D with nx:=N,ct:=N,bk:=D.nx } σ2 H2)
def qFor (wi:TI) (g:TG) (tb:TS):TS:=fun D σ H=>wi σ H fun J H1=>zah4 J g tb D σ H1
theorem zu5 {iter tg:Expr}{body:List Stmt}{wi:TI}{g:TG}{tb:TS}{pos:Pos}(hp:PassesOwn (model X.prog X.w) X.A X.env X.xe) (hc:X.calm=true) (hi:PI X tg iter wi) (hg:PG X tg g) (hb:PSs X body tb)
  (hs:∀ x,foldedSetIterable iter X.env x=pure x:=by intro _;rfl):PS X (.For tg iter body [] pos) (qFor wi g tb):=fun pins s σ H D I h=>
 ps_for hp hc hi hg hb hs pins s σ H D I (by unfold qFor at h;unfold zah4 at h;exact h)
@[irreducible] def zbe1 (K:zcp3) (a:Addr) (H:Hp) (R:It->Hp->Prop):Prop:=((∃ xs,SqL K H a xs)/\R (Itl K a) H)∨((∃ xs,SqT K H a xs)/\R (Itt K a) H)
def qiSeq (K:zcp3) (tl:TE):TI:=fun σ H R=>tl σ H fun x H1=>match x with
 | .ref a=>zbe1 K a H1 R
 | _=>False
theorem piSeq {tg l:Expr}{tl:TE}(hl:PE X l tl):PI X tg l (qiSeq X.K tl):=by
 intro pins s σ H R I h
 refine thn (hl pins s σ H _ I h) fun v s1 ⟨x,H1,I1,r1,q1⟩=>?_
 dsimp only at q1
 split at q1
 ·rename_i a
  unfold zbe1 at q1
  cases r1
  have fp:∀ b∈[s1.heap.objs.size],FpOk X pins H1 b:=fun b hb=>by
   have e:b=s1.heap.objs.size:=by simpa using hb
   subst e
   exact I1.fpOk (zcq9 _) (I1.hok.fresh (zcq9 _))
  rcases q1 with ⟨⟨xs,hq⟩,q⟩|⟨⟨xs,hq⟩,q⟩
  ·obtain⟨its,rv,p,hz⟩:=I1.list hq
   refine wpAny_pyIter_list p.isList ?_
   exact⟨s1.heap.objs.size,[s1.heap.objs.size],_,_,H1,rfl,I1.kept (t':=s1.toks) fun b o e=>zcp8 _ e,zbh9 a _,⟨_,zcs3 _ rfl,rfl,rfl⟩,fp,q⟩
  ·obtain⟨its,rv,p,hz⟩:=I1.tuple hq
   refine wpAny_pyIter_tuple (show s1.heap.IsTuple a its.toArray from p) ?_
   exact⟨s1.heap.objs.size,[s1.heap.objs.size],_,_,H1,rfl,I1.kept (t':=s1.toks) fun b o e=>zcp8 _ e,zbe2 a _,⟨_,zcs3 _ rfl,rfl,rfl⟩,fp,q⟩
 ·exact q1.elim
@[irreducible] def zai7 (i j:Int) (H:Hp) (R:It->Hp->Prop):Prop:=(-(2 ^ 62)<=i/\i<2 ^ 62/\-(2 ^ 62)<=j/\j<2 ^ 62)/\R (Itr i (j - i).toNat) H
def qiRng (ta:TA):TI:=fun σ H R=>ta σ H fun vs H1=>match vs with
 | [.int j]=>zai7 0 j H1 R
 | [.int i,.int j]=>zai7 i j H1 R
 | _=>False
theorem zn9 {tg a:Expr}{ta:TA}{p pos:Pos}(hm:X.mg "range"=none) (ha:PA X [a] ta) (hg:Gl X "range":=by rfl) (hs:starEach [a] X.env=[(false,eval a X.env)]:=by rfl):PI X tg (.Call (.Name "range" p) [a] [] pos) (qiRng ta):=by
 intro pins s σ H R I h
 refine Call_ (zaa0 I hg hm boot_range (PyProof.Rows.callWith_type1 (thn (ha pos pins s σ H _ I h) fun us s1 ⟨vs,H1,I1,r1,q1⟩=>?_) hs rfl))
 dsimp only at q1
 split at q1
 ·unfold zai7 at q1
  obtain⟨⟨a1,a2,a3,a4⟩,q⟩:=q1
  cases r1 with
  | cons r rr=>
   cases rr
   obtain⟨t,rfl⟩:=r
   exact call_range_1 (zba5 I1 a1 a2 a3 a4 q)
 ·unfold zai7 at q1
  cases r1 with
  | cons r rr=>
   cases rr with
   | cons r' rr=>
    cases rr
    obtain⟨t,rfl⟩:=r
    obtain⟨t',rfl⟩:=r'
    obtain⟨⟨a1,a2,a3,a4⟩,q⟩:=q1
    exact call_range_2 (zba5 I1 a1 a2 a3 a4 q)
 ·exact q1.elim
section
variable {K:zcp3}{g:TG}{tb:TS}{D:Ends}{σ:St}{H:Hp}{R:It->Hp->Prop}
theorem zc6 {a:Addr}{xs:List V}(h:H a=some (.lst xs)) (q:R (Itl K a) H):zbe1 K a H R:=by unfold zbe1;exact .inl ⟨⟨xs,SqL.of h⟩,q⟩
theorem zbv1 {a:Addr}{xs:List V}(h:H a=some (.tup xs)) (q:R (Itt K a) H):zbe1 K a H R:=by unfold zbe1;exact .inr ⟨⟨xs,SqT.of h⟩,q⟩
theorem zf2 {i j:Int}(h1:-(2 ^ 62)<=i) (h2:i<2 ^ 62) (h3:-(2 ^ 62)<=j) (h4:j<2 ^ 62) (q:R (Itr i (j - i).toNat) H):zai7 i j H R:=by unfold zai7;exact⟨⟨h1,h2,h3,h4⟩,q⟩
theorem zs6 {a:Addr}{xs:List V}(Pv:Nat->St->Hp->Prop) (h0:Pv 0 σ H) (hl:∀ i σ H,i<=xs.length->Pv i σ H->SqL K H a xs)
  (hs:∀ i x σ H,xs[i]?=some x->Pv i σ H->g x σ H fun σ2 H2=>tb { D with nx:=Pv (i+1),ct:=Pv (i+1),bk:=D.nx } σ2 H2) (hd:∀ σ H,Pv xs.length σ H->D.nx σ H):zah4 (Itl K a) g tb D σ H:=by
 unfold zah4;exact zbx1 Pv h0 hl hs hd
theorem zk7 {lo:Int}{n:Nat}(Pv:Nat->St->Hp->Prop) (h0:Pv 0 σ H)
  (hs:∀ i σ H,i<n->Pv i σ H->g (.int (lo+i)) σ H fun σ2 H2=>tb { D with nx:=Pv (i+1),ct:=Pv (i+1),bk:=D.nx } σ2 H2) (hd:∀ σ H,Pv n σ H->D.nx σ H):zah4 (Itr lo n) g tb D σ H:=by
 unfold zah4;exact zbr3 Pv h0 hs hd
end
@[irreducible] def wIf (W:Nat->St->Hp->Prop) (m:Nat) (tb:TS) (D:Ends) (σ:St) (b:Bool) (H1:Hp):Prop:=
 if b=true then ∃ N:St->Hp->Prop,(∀ σ' H',N σ' H'->∃ m',m'<m/\W m' σ' H')/\tb { D with nx:=N,ct:=N,bk:=D.nx } σ H1 else D.nx σ H1
@[irreducible] def zbb0 (c:TT) (tb:TS):TS:=fun D σ H=>∃ W:Nat->St->Hp->Prop,(∃ m,W m σ H)/\∀ m σ H,W m σ H->c σ H fun b H1=>wIf W m tb D σ b H1
theorem zcd0 {c:Expr}{body:List Stmt}{tc:TT}{tb:TS}(hp:PassesOwn (model X.prog X.w) X.A X.env X.xe) (hc:PT X c tc) (hb:PSs X body tb):PS X (.While c body [] pos) (zbb0 tc tb):=fun pins s σ H D I h=>
 zbw4 hp hc hb pins s σ H D I (by unfold zbb0 at h;unfold wIf at h;exact h)
section
variable {c:TT}{tb:TS}{D:Ends}{σ:St}{H H1:Hp}{W:Nat->St->Hp->Prop}{m:Nat}{p:Prop}
theorem zbt2 (Pv:St->Hp->Prop) (μ:St->Hp->Nat) (h0:Pv σ H) (hs:∀ σ H,Pv σ H->c σ H fun b H1=>wIf (fun m σ H=>m=μ σ H/\Pv σ H) (μ σ H) tb D σ b H1):zbb0 c tb D σ H:=by
 unfold zbb0
 refine⟨fun m σ H=>m=μ σ H/\Pv σ H,⟨_,rfl,h0⟩,?_⟩
 rintro m σ H ⟨rfl,p⟩
 exact hs σ H p
theorem zce2 {Pv:St->Hp->Prop}{μ:St->Hp->Nat}[Decidable p] (h1:p->tb { D with nx:=fun σ' H'=>Pv σ' H'/\μ σ' H'<m,ct:=fun σ' H'=>Pv σ' H'/\μ σ' H'<m,bk:=D.nx } σ H1) (h2:¬ p->D.nx σ H1) :
  wIf (fun m σ H=>m=μ σ H/\Pv σ H) m tb D σ (decide p) H1:=by
 unfold wIf
 refine ite2 (fun h=>⟨_,fun σ' H' ⟨a,b⟩=>⟨_,b,rfl,a⟩,h1 (of_decide_eq_true h)⟩) fun h=>h2 fun hp=>h (decide_eq_true hp)
end
@[irreducible] def rNewT (xs:List V) (H:Hp) (Q:VK):Prop:=xs.length<=sizeLine/\∀ p H',H p=none->Same H H'->H' p=some (.tup xs)->Q (.ref p) H'
@[irreducible] def rNewL (xs:List V) (H:Hp) (Q:VK):Prop:=xs.length<=sizeLine/\∀ p H',H p=none->Same H H'->H' p=some (.lst xs)->Q (.ref p) H'
def qTup (t:TA):TE:=fun σ H Q=>t σ H fun xs H1=>rNewT xs H1 Q
def qLst (t:TA):TE:=fun σ H Q=>t σ H fun xs H1=>rNewL xs H1 Q
theorem zn8 {es:List Expr}{x1} {t:TA}(h:PA X es t):PE X (.Tuple es x1 pos) (qTup t):=by
 intro pins s σ H Q I hq
 refine wpAny_Tuple_spliced (thn (h pos pins s σ H _ I hq) fun us s1 ⟨xs,H1,I1,r,z⟩=>?_)
 unfold rNewT at z
 obtain⟨z,q⟩:=z
 refine⟨by rw[← r.length];exact z,?_⟩
 have hf:H1 s1.heap.objs.size=none:=I1.hok.fresh (zcq9 _)
 refine⟨.ref s1.heap.objs.size,upd H1 s1.heap.objs.size (.tup xs),I1.laid (t':=s1.toks) (fun b u e=>zcp8 _ e) (zcq9 _) ?_,rfl,q _ _ hf (Same.upd hf) zc2⟩
 exact⟨z,us,r,⟨_,zcs3 _ rfl,rfl,_,rfl⟩⟩
theorem zk1 {es:List Expr}{t:TA}(h:PA X es t):PE X (.List es pos) (qLst t):=by
 intro pins s σ H Q I hq
 refine wpAny_List_spliced (thn (h pos pins s σ H _ I hq) fun us s1 ⟨xs,H1,I1,r,z⟩=>?_)
 unfold rNewL at z
 obtain⟨z,q⟩:=z
 refine⟨by rw[← r.length];exact z,?_⟩
 have hf:H1 s1.heap.objs.size=none:=I1.hok.fresh (zcq9 _)
 refine⟨.ref s1.heap.objs.size,upd H1 s1.heap.objs.size (.lst xs),I1.laid (t':=s1.toks) (fun b u e=>zcp8 _ e) (zcq9 _) ?_,rfl,q _ _ hf (Same.upd hf) zc2⟩
 exact⟨z,us,0,r,zcs3 _ rfl⟩
@[irreducible] def rIxA (K:zcp3) (p:Addr) (i:Int) (H:Hp) (Q:VK):Prop:=∃ xs v,(SqL K H p xs∨SqT K H p xs)/\atI xs i=some v/\Q v H
def rIxM (K:zcp3):R2:=fun x y H Q=>match x,y with
 | .ref p,.int i=>rIxA K p i H Q
 | .str z,.int i=>∃ c,z.length<=sizeLine/\atI z.cps.toList i=some c/\Q (.str ⟨#[c]⟩) H
 | _,_=>False
theorem ixM:IxR X (rIxM X.K):=by
 intro value slice pins s σ H x y v u Q I rx ry h hs
 unfold rIxM at h
 split at h
 ·unfold rIxA at h
  obtain⟨xs,z,h1,h2,q⟩:=h
  rcases h1 with h1|h1
  ·exact zcg2 value slice pins s σ H _ _ v u Q I rx ry ⟨_,xs,_,z,rfl,rfl,h1,h2,q⟩ hs
  ·exact ix_tup value slice pins s σ H _ _ v u Q I rx ry ⟨_,xs,_,z,rfl,rfl,h1,h2,q⟩ hs
 ·obtain⟨c,h1,h2,q⟩:=h
  exact ix_str value slice pins s σ H _ _ v u Q I rx ry ⟨_,_,c,rfl,rfl,h1,h2,q⟩ hs
 ·exact h.elim
theorem peIx (ha:PE X a ta) (hb:PE X b tb) (hs:zay2 b:=by exact fun _ _=>rfl):PE X (.Subscript a b pos) (tOp (rIxM X.K) ta tb):=pe_ix ixM ha hb hs
@[irreducible] def rSetA (p:Addr) (k:Int) (v:V) (H:Hp) (Q:Hp->Prop):Prop:=∃ xs j,H p=some (.lst xs)/\ixN xs.length k=some j/\∀ H',Chg p H H'->H' p=some (.lst (xs.set j v))->Q H'
def rSetM:TSet:=fun o i v H Q=>match o,i with
 | .ref p,.int k=>rSetA p k v H Q
 | _,_=>False
theorem setM:PSet X rSetM:=by
 intro pins s σ H o i v ov iv u Q I ro ri rv h
 unfold rSetM at h
 split at h
 ·unfold rSetA at h
  obtain⟨xs,j,h1,h2,q⟩:=h
  exact zbs7 pins s σ H _ _ v ov iv u Q I ro ri rv ⟨_,xs,_,j,rfl,rfl,h1,h2,q _ Chg.upd zc2⟩
 ·exact h.elim
def qPart (t:TE):TO:=fun σ H Q=>t σ H fun x H1=>match x with
 | .int i=>Q (some i) H1
 | _=>False
theorem zz8 (h:PE X e te):PO X (some e) (qPart te):=by
 intro pins s σ H Q I hw
 rw[evalPart_some]
 refine thn (h pins s σ H _ I hw) fun u s1 ⟨x,H1,I1,r1,q1⟩=>?_
 dsimp only at q1
 split at q1
 ·rename_i i
  obtain⟨t,rfl⟩:=r1
  exact⟨some i,H1,I1,.int i t,q1⟩
 ·exact q1.elim
section
variable {K:zcp3}{H:Hp}{Q:VK}{p:Addr}{xs:List V}{v:V}{i:Int}
theorem zd6 (q:∀ p H',H p=none->Same H H'->H' p=some (.tup xs)->Q (.ref p) H') (h:xs.length<=sizeLine:=by first|assumption|(simp only[zcr8,zcu4,Nat.zero_add,Nat.reduceAdd];decide)):rNewT xs H Q:=by unfold rNewT;exact⟨h,q⟩
theorem zc4 (q:∀ p H',H p=none->Same H H'->H' p=some (.lst xs)->Q (.ref p) H') (h:xs.length<=sizeLine:=by first|assumption|(simp only[zcr8,zcu4,Nat.zero_add,Nat.reduceAdd];decide)):rNewL xs H Q:=by unfold rNewL;exact⟨h,q⟩
theorem zb1 (h:H p=some (.tup xs)) (e:atI xs i=some v) (q:Q v H):rIxA K p i H Q:=by unfold rIxA;exact⟨xs,v,.inr (SqT.of h),e,q⟩
theorem zb0 (h:H p=some (.lst xs)) (e:atI xs i=some v) (q:Q v H):rIxA K p i H Q:=by unfold rIxA;exact⟨xs,v,.inl (SqL.of h),e,q⟩
theorem zbi8 {R:Hp->Prop}{j:Nat}(h:H p=some (.lst xs)) (e:ixN xs.length i=some j) (q:∀ H',Chg p H H'->H' p=some (.lst (xs.set j v))->R H'):rSetA p i v H R:=by unfold rSetA;exact⟨xs,j,h,e,q⟩
end
def qgNil:TGs:=fun vs σ H Q=>match vs with
 | []=>Q σ H
 | _=>False
def zby8 (t:TG) (u:TGs):TGs:=fun vs σ H Q=>match vs with
 | v :: r=>t v σ H fun σ' H'=>u r σ' H' Q
 | _=>False
theorem zl6:PGs X [] qgNil:=fun pins s σ H vs us Q I r h=>by
 unfold qgNil at h
 split at h
 ·exact zcc2 pins s σ H _ us Q I r ⟨rfl,h⟩
 ·exact h.elim
theorem zb6 {e:Expr}{es:List Expr}{t:TG}{u:TGs}(h1:PG X e t) (h2:PGs X es u)
  (hs:(assignEach (e :: es) X.env).map (·.2)=assign e X.env :: (assignEach es X.env).map (·.2):=by rfl):PGs X (e :: es) (zby8 t u):=fun pins s σ H vs us Q I r h=>by
 unfold zby8 at h
 split at h
 ·exact zbs2 h1 h2 hs pins s σ H _ us Q I r ⟨_,_,rfl,h⟩
 ·exact h.elim
def qPar (i j:Nat) (ta:TA):TS:=fun D σ H=>ta σ H fun vs H1=>match vs with
 | [v,w]=>D.nx ((σ.set i (some v)).set j (some w)) H1
 | _=>False
theorem psPar {i j:Nat}{x y:Str}{a b:Expr}{ta:TA}{px py pt:Pos}{kt k2 pt2} (hc:X.calm=true) (hN:X.N.Nodup) (hi:X.N[i]?=some x) (hj:X.N[j]?=some y) (hij:i≠j)
  (hx:X.env.scope.names.lookup x=some .local) (hy:X.env.scope.names.lookup y=some .local) (ha:PA X [a,b] ta)
  (hw:swappedStores [.Tuple [.Name x px,.Name y py] kt pt] (.Tuple [a,b] k2 pt2) X.env=pure (some [x,y]))
  (hs:swapsWithSole [.Tuple [.Name x px,.Name y py] kt pt] (.Tuple [a,b] k2 pt2) pos.line X.env=pure false:=by rfl) :
  PS X (.Assign [.Tuple [.Name x px,.Name y py] kt pt] (.Tuple [a,b] k2 pt2) pos) (qPar i j ta) :=by
 intro pins s σ H D I h
 rw[exec_Assign_arm]
 refine wpAny_bind (wpAny_standAt ?_)
 rw[hs]
 refine wpAny_bind (wpAny_pure ?_)
 rw[if_neg (by decide)]
 refine wpAny_bind (Tuple_ (thn (ha _ pins s σ H _ I h) fun us s1 ⟨vs,H1,I1,r1,q1⟩=>?_))
 dsimp only at q1
 split at q1
 case h_2=>exact q1.elim
 rename_i v w
 obtain⟨u1,u2,rfl,rv,rw'⟩:∃ u1 u2,us=[u1,u2]/\RelV v u1/\RelV w u2:=by
  cases r1 with
  | cons p q=>
   cases q with
   | cons p' q'=>
    cases q'
    exact⟨_,_,rfl,p,p'⟩
 refine wpAny_newObj_type ?_ (by show 2<=sizeLine;decide)
 have I2:Inv X pins σ H1 { s1 with heap:=s1.heap.push { cls:=.type "tuple",data:=.seq [u1,u2].toArray } }:=I1.kept (t':=s1.toks) fun b o e=>zcp8 _ e
 rw[hw]
 refine wpAny_bind (wpAny_pure ?_)
 show wpAny (model X.prog X.w) X.A (do rule "assign.swapped-stores";let items ← unpackItems (.ref s1.heap.objs.size) 2 none;assignInOrder [fun v=>bindName X.env y v,fun v=>bindName X.env x v] items.reverse;pure Flow.next) _ _ _
 refine wpAny_bind (wpAny_rule (wpAny_bind (unpackItems_tuple (items:=#[u1,u2]) (I.ok.hd hc) (IsTup.new s1.heap _) fun h' hx'=>?_)))
 have I3:=I2.kept (h':=h') (t':=s1.toks) fun b o e=>hx' b o (zcs5 (zcq7 e)) e
 show wpAny _ _ (assignInOrder [fun v=>bindName X.env y v,fun v=>bindName X.env x v] [u2,u1] >>= fun _=>pure Flow.next) _ _ _
 refine wpAny_bind (assignInOrder_cons (wpAny_bindName (zu2 I3 hN hj (.inl hy) rw' (fun s2 I4=>?_) (.inr hy))))
 refine assignInOrder_cons (wpAny_bindName (zu2 I4 hN hi (.inl hx) rv (fun s3 I5=>assignInOrder_nil (wpAny_pure ?_)) (.inr hx)))
 rw[List.set_comm _ _ (Ne.symm hij)] at I5
 exact⟨_,H1,I5,q1⟩
end
end L2
set_option maxHeartbeats 1000000
namespace L2
open PySem PySem.Spec PyProof.Rows
section
variable {X:Cx}
def rAbsM:List V->Hp->VK->Prop:=fun xs H Q=>match xs with
 | [.int i]=>Q (.int (i.natAbs:Int)) H
 | _=>False
def rIntM:List V->Hp->VK->Prop:=fun xs H Q=>match xs with
 | [.int i]=>Q (.int i) H
 | [.bl k]=>Q (.int (if k=true then 1 else 0)) H
 | _=>False
theorem cInt:zn5 X (.type "int") rIntM:=fun pins s σ H xs us Q I r h=>by
 unfold rIntM at h
 split at h
 ·exact zau4 pins s σ H _ us Q I r (.inl ⟨_,rfl,h⟩)
 ·exact zau4 pins s σ H _ us Q I r (.inr ⟨_,rfl,h⟩)
 ·exact h.elim
@[irreducible] def zbf8 (K:zcp3) (p:Addr) (H:Hp) (Q:VK):Prop:=∃ ys,(SqL K H p ys∨SqT K H p ys)/\Q (.int ys.length) H
def rLenM (K:zcp3):List V->Hp->VK->Prop:=fun xs H Q=>match xs with
 | [.ref p]=>zbf8 K p H Q
 | [.str z]=>z.length<=sizeLine/\Q (.int z.length) H
 | _=>False
theorem cLen:zn5 X (.builtin "len") (rLenM X.K):=fun pins s σ H xs us Q I r h=>by
 unfold rLenM at h
 split at h
 ·unfold zbf8 at h
  obtain⟨ys,h1,h2⟩:=h
  exact zar3 pins s σ H _ us Q I r ⟨_,ys,rfl,h1,h2⟩
 ·exact zas6 pins s σ H _ us Q I r ⟨_,rfl,h.1,h.2⟩
 ·exact h.elim
@[irreducible] def zu7 (K:zcp3) (x c:V) (H:Hp) (Q:VK):Prop:=∃ t b,TyOf K H x t/\(∀ cv,RelV c cv->zcr1 K t cv=some b)/\Q (.bl b) H
def rIsiM (K:zcp3):List V->Hp->VK->Prop:=fun xs H Q=>match xs with
 | [x,c]=>zu7 K x c H Q
 | _=>False
theorem cIsi:zn5 X (.builtin "isinstance") (rIsiM X.K):=fun pins s σ H xs us Q I r h=>by
 unfold rIsiM at h
 split at h
 ·unfold zu7 at h
  obtain⟨t,b,h1,h2,h3⟩:=h
  obtain⟨u,w,rfl,r1,r2⟩:=zaq7 r
  exact zbk4 I r1 h1 (h2 _ r2) fun tk=>⟨.bl b,H,I.tok _,rfl,h3⟩
 ·exact h.elim
section
variable {K:zcp3}{H:Hp}{Q:VK}{p:Addr}{xs:List V}
theorem zh3 (h:H p=some (.lst xs)) (q:Q (.int xs.length) H):zbf8 K p H Q:=by unfold zbf8;exact⟨xs,.inl (SqL.of h),q⟩
theorem zp4 (h:H p=some (.tup xs)) (q:Q (.int xs.length) H):zbf8 K p H Q:=by unfold zbf8;exact⟨xs,.inr (SqT.of h),q⟩
theorem zan8 {i:Int}{n:String}{b:Bool}(q:Q (.bl b) H) (e:zcr1 K (.type "int") (.type n)=some b:=by rfl):zu7 K (.int i) (.ty n) H Q:=by
 unfold zu7;exact⟨_,b,.int i,fun cv r=>by cases r;exact e,q⟩
theorem zan9 {i:Bool}{n:String}{b:Bool}(q:Q (.bl b) H) (e:zcr1 K (.type "bool") (.type n)=some b:=by rfl):zu7 K (.bl i) (.ty n) H Q:=by
 unfold zu7;exact⟨_,b,.bl i,fun cv r=>by cases r;exact e,q⟩
theorem zbm0 {n:String}{b:Bool}(q:Q (.bl b) H) (e:zcr1 K (.type "NoneType") (.type n)=some b:=by rfl):zu7 K .non (.ty n) H Q:=by
 unfold zu7;exact⟨_,b,.non,fun cv r=>by cases r;exact e,q⟩
theorem zbl2 {x:Str}{n:String}{b:Bool}(q:Q (.bl b) H) (e:zcr1 K (.type "str") (.type n)=some b:=by rfl):zu7 K (.str x) (.ty n) H Q:=by
 unfold zu7;exact⟨_,b,.str x,fun cv r=>by cases r;exact e,q⟩
theorem zad0 {n:String}{b:Bool}(h:H p=some (.tup xs)) (q:Q (.bl b) H) (e:zcr1 K (.type "tuple") (.type n)=some b:=by rfl):zu7 K (.ref p) (.ty n) H Q:=by
 unfold zu7;exact⟨_,b,.tup h,fun cv r=>by cases r;exact e,q⟩
theorem zao3 {n:String}{b:Bool}(h:H p=some (.lst xs)) (q:Q (.bl b) H) (e:zcr1 K (.type "list") (.type n)=some b:=by rfl):zu7 K (.ref p) (.ty n) H Q:=by
 unfold zu7;exact⟨_,b,.lst h,fun cv r=>by cases r;exact e,q⟩
end
theorem bt_max:bootBuiltins "max"=some (.builtin "max"):=by decide +kernel
theorem bt_min:bootBuiltins "min"=some (.builtin "min"):=by decide +kernel
theorem zj5:bootBuiltins "len"=some (.builtin "len"):=by decide +kernel
theorem zao7:bootBuiltins "sum"=some (.builtin "sum"):=by decide +kernel
theorem zx0:bootBuiltins "all"=some (.builtin "all"):=by decide +kernel
theorem zb9:bootBuiltins "isinstance"=some (.builtin "isinstance"):=by decide +kernel
theorem zbq6:bootBuiltins "sorted"=some (.builtin "sorted"):=by decide +kernel
theorem zaf4:bootBuiltins "int"=some (.type "int"):=by decide +kernel
theorem zcf4:bootBuiltins "bool"=some (.type "bool"):=by decide +kernel
theorem zac1:bootBuiltins "list"=some (.type "list"):=by decide +kernel
theorem zx1:bootBuiltins "tuple"=some (.type "tuple"):=by decide +kernel
theorem pTy {x:Str}{n:String}{pos:Pos}(hm:X.mg x=none) (hv:bootBuiltins x=some (.type n)) (hg:Gl X x:=by rfl) (hn:x≠"__name__":=by decide) (hd:(x==("__debug__":Str))=false:=by decide):PE X (.Name x pos) (tC (.ty n)):=
 zci3 hg hm hv rfl hn hd
theorem pB {x:Str}{p pos:Pos}{e:Expr}{es:List Expr}{t:TA}{id:String}{r:List V->Hp->VK->Prop}(hc:zn5 X (.builtin id) r) (hm:X.mg x=none) (hv:bootBuiltins x=some (.builtin id)) (ha:PA X (e :: es) t) (hg:Gl X x:=by rfl) (hn:x≠"__name__":=by decide) (hdb:(x==("__debug__":Str))=false:=by decide)
  (he:starEach (e :: es) X.env=(false,eval e X.env) :: starEach es X.env:=by rfl) (hpl:(backTo pos (starEach es X.env)).any (·.1)=false:=by rfl):PE X (.Call (.Name x p) (e :: es) [] pos) (tCB r t):=zbu2 hc hg hm hv ha hn hdb he hpl
theorem pT {x:Str}{p pos:Pos}{e:Expr}{es:List Expr}{t:TA}{id:String}{r:List V->Hp->VK->Prop}(hc:zn5 X (.type id) r) (hm:X.mg x=none) (hv:bootBuiltins x=some (.type id)) (ha:PA X (e :: es) t) (hg:Gl X x:=by rfl) (hn:x≠"__name__":=by decide) (hdb:(x==("__debug__":Str))=false:=by decide)
  (he:starEach (e :: es) X.env=(false,eval e X.env) :: starEach es X.env:=by rfl) (hpl:(backTo pos (starEach es X.env)).any (·.1)=false:=by rfl):PE X (.Call (.Name x p) (e :: es) [] pos) (tCB r t):=zbh8 hc hg hm hv ha hn hdb he hpl
structure Def (P:Program) (w:World) (K:zcp3) (mg:Str->Option Value) (base:Heap) (CX:CXT) (k:Nat) (x:Str) (ps:List Str) (sp:Sp):Prop where
 ex:∃ (f:Addr) (fd:FuncData),FnOk P w K mg base CX k f fd ps sp/\mg x=some (.ref f)/\zcq3 K (.ref f)=true/\zah3 K fd ps []
def qCall (sp:Sp) (E:XK) (t:TA):TE:=fun σ H Q=>t σ H fun vs H1=>sp vs H1 Q E
theorem pD {CX:CXT}{k j:Nat}{x:Str}{ps:List Str}{sp:Sp}{E:XK}{p pos:Pos}{e:Expr}{es:List Expr}{t:TA}(F:Def X.prog X.w X.K X.mg X.base CX k x ps sp) (hr:Room j X.A) (hx:zai2 CX X E) (ha:PA X (e :: es) t) (hk:k<=j:=by decide) (hg:Gl X x:=by rfl)
  (hdb:(x==("__debug__":Str))=false:=by decide) (he:starEach (e :: es) X.env=(false,eval e X.env) :: starEach es X.env:=by rfl) (hpl:(backTo pos (starEach es X.env)).any (·.1)=false:=by rfl) :
  PE X (.Call (.Name x p) (e :: es) [] pos) (qCall sp E t):=by
 obtain⟨f,fd,F1,F2,F3,F4⟩:=F.ex
 intro pins s σ H Q I h
 refine zcf0 F1 (hr.mono hk) hg F2 F3 F4 .nil hx ha hdb he hpl pins s σ H Q I ?_
 unfold tCall
 simp only[List.append_nil]
 exact h
theorem psS {i:Nat}{x:Str}{e:Expr}{te:TE}{pos' pos:Pos}(hN:X.N.Nodup) (he:PE X e te) (hi:X.N[i]?=some x:=by rfl) (hx:Loc X.env.scope x:=by first|exact Or.inl rfl|exact Or.inr rfl) (hs:swapsWith e (some (.Name x pos')) pos.line X.env=pure false:=by rfl) (hf:X.fn x=true∨X.env.scope.names.lookup x=some .local:=by first|exact .inl rfl|exact .inr rfl|assumption) :
  PS X (.Assign [.Name x pos'] e pos) (tAsg te (zbr2 i)):=zca1 hN hi hx he hs hf
section
variable {K:zcp3}{H:Hp}{Q:VK}{p:Addr}{xs:List V}{i j:Int}
theorem zae9 (h1:-18446744073709551616<i) (h2:i<18446744073709551616) (q:Q (.int (i*j)) H):zbf2 i j H Q:=zv1 (.of_left (intBits_le_64 (by simpa using h1) (by simpa using h2))) q
theorem zci0 (h1:-18446744073709551616<j) (h2:j<18446744073709551616) (q:Q (.int (i*j)) H):zbf2 i j H Q:=zv1 (.of_right (intBits_le_64 (by simpa using h1) (by simpa using h2))) q
theorem zad7 (h:0<j) (q:∀ r:Int,0<=r->r<j->Q (.int r) H):zbm6 i j H Q:=zbo2 h (q _ (Int.emod_nonneg _ (by omega)) (Int.emod_lt_of_pos _ h))
theorem zt8 (h:H p=some (.lst xs)) (h0:0<=i) (h1:i<xs.length) (q:∀ v,v∈xs->Q v H):rIxA K p i H Q:=by
 have hl:i.toNat<xs.length:=by omega
 refine zb0 h (v:=xs[i.toNat]) ?_ (q _ (zcw2 hl))
 have e:((i.toNat:Nat):Int)=i:=by omega
 have z:=zc5 (zcp1 hl)
 rw[e] at z
 exact z
theorem hu40 {A:Around}{k:Nat}(hr:Room k A):A.units+40<cLine:=by have:=hr.units;omega
end
@[irreducible] def qCut (t:TS):TS:=fun D σ H=>∃ R:St->Hp->Prop,t { D with nx:=R } σ H/\∀ σ' H',R σ' H'->D.nx σ' H'
theorem psCut {st:Stmt}{t:TS}(h:PS X st t):PS X st (qCut t):=fun pins s σ H D I hq=>by
 unfold qCut at hq
 obtain⟨R,h1,h2⟩:=hq
 refine thn (h pins s σ H _ I h1) fun f s' q=>?_
 cases f with
 | next=>obtain⟨σ',H',I',z⟩:=q;exact⟨σ',H',I',h2 _ _ z⟩
 | brk=>exact q
 | cont=>exact q
 | ret u=>exact q
theorem zca4 {t:TS}{D:Ends}{σ:St}{H:Hp}(R:St->Hp->Prop) (h1:t { D with nx:=R } σ H) (h2:∀ σ' H',R σ' H'->D.nx σ' H'):qCut t D σ H:=by unfold qCut;exact⟨R,h1,h2⟩
theorem EqR.ints2 {K:zcp3}{H:Hp}{a b:Addr}{t u x y:Int}(ha:H a=some (.tup [.int t,.int u])) (hb:H b=some (.tup [.int x,.int y])):EqR K H 1 (.ref a) (.ref b) (decide (t=x/\u=y)):=by
 have h:=EqR.tup (K:=K) (H:=H) (n:=0) (fun j=>match j with|0=>decide (t=x)|1=>decide (u=y)|_=>true) (SqT.of ha) (SqT.of hb) (fun j p q hp hq=>by
  have fl:∀ (i k:Int),EqR K H 0 (.int i) (.int k) (decide (i=k)):=fun i k=>by
   have:=EqR.flat (K:=K) (H:=H) (n:=0) (x:=.int i) (y:=.int k) rfl rfl
   have e:eqV (.int i) (.int k)=decide (i=k):=by
    by_cases z:i=k
    ·subst z;simp[eqV]
    ·simp[eqV,z]
   rw[e] at this;exact this
  match j with
  | 0=>simp at hp hq;subst hp hq;exact fl t x
  | 1=>simp at hp hq;subst hp hq;exact fl u y
  | j+2=>simp at hp)
 have e:((List.range (min [V.int t,V.int u].length [V.int x,V.int y].length)).all (fun j=>match j with|0=>decide (t=x)|1=>decide (u=y)|_=>true)&&([V.int t,V.int u].length==[V.int x,V.int y].length))=decide (t=x/\u=y):=by
  show ((decide (t=x)&&(decide (u=y)&&true))&&true)=_
  rw[Bool.and_true,Bool.and_true,Bool.decide_and]
 rw[e] at h
 exact h
end
end L2
set_option maxHeartbeats 2000000
namespace L2
open PySem PySem.Spec PyProof.Rows
theorem zy0 {env:Env}:∀ (names:List (Str×NameKind)) (acc:List (Str×Addr)),(∀ x∈names,x.2=.free->∃ c,env.cells.lookup x.1=some c) ->
  ∃ acc',(forIn (m:=Sem) names acc (fun (x:Str×NameKind) (r:List (Str×Addr))=>if (x.2==.free)=true then (do let c ← cellOf env x.1;pure (ForInStep.yield ((x.1,c) :: r))) else pure (ForInStep.yield r)))=pure acc' /\
   (∀ x c,acc'.lookup x=some c->acc.lookup x=some c∨env.cells.lookup x=some c)/\(∀ x c,acc.lookup x=some c->∃ c',acc'.lookup x=some c')/\∀ x∈names,x.2=.free->∃ c,acc'.lookup x.1=some c
 | [],acc,_=>⟨acc,rfl,fun _ _ h=>.inl h,fun _ c h=>⟨c,h⟩,fun _ h=>by cases h⟩
 | (n,k) :: r,acc,h=>by
  by_cases hk:k=.free
  ·subst hk
   obtain⟨c,hc⟩:=h (n,.free) zcu6 rfl
   obtain⟨acc',e,h1,h2,h3⟩:=zy0 r ((n,c) :: acc) fun x hx=>h x (zct6 _ hx)
   have hco:cellOf env n=pure c:=by unfold cellOf;rw[hc]
   refine⟨acc',?_,fun x d hd=>?_,fun x d hd=>?_,fun x hx hf=>?_⟩
   ·rw[List.forIn_cons]
    simp only[hco]
    exact e
   ·rcases h1 x d hd with q|q
    ·rw[zcs7] at q
     split at q
     ·rename_i hx
      have hx:x=n:=by simpa using hx
      subst hx
      cases q
      exact .inr hc
     ·exact .inl q
    ·exact .inr q
   ·by_cases hx:x=n
    ·subst hx
     exact h2 x c (by simp[zcs7])
    ·refine h2 x d ?_
     rw[zcs7]
     have:(x==n)=false:=by simpa using hx
     rw[this];exact hd
   ·rcases zcq6.mp hx with rfl|hx
    ·exact h2 n c (by simp[zcs7])
    ·exact h3 x hx hf
  ·obtain⟨acc',e,h1,h2,h3⟩:=zy0 r acc fun x hx=>h x (zct6 _ hx)
   refine⟨acc',?_,h1,h2,fun x hx hf=>?_⟩
   ·rw[List.forIn_cons]
    have:(k==NameKind.free)=false:=by simpa using hk
    simp only[this]
    exact e
   ·rcases zcq6.mp hx with rfl|hx
    ·exact absurd hf hk
    ·exact h3 x hx hf
theorem zy4 {scope:Scope}{env:Env}(h:∀ x∈scope.names,x.2=.free->∃ c,env.cells.lookup x.1=some c) :
  ∃ cl,closureFor scope env=pure cl/\(∀ x c,cl.lookup x=some c->env.cells.lookup x=some c)/\∀ x∈scope.names,x.2=.free->∃ c,cl.lookup x.1=some c:=by
 obtain⟨cl,e,h1,_,h3⟩:=zy0 (env:=env) scope.names [] h
 refine⟨cl,?_,fun x c hc=>(h1 x c hc).elim (fun q=>by cases q) id,h3⟩
 unfold closureFor
 show (forIn (m:=Sem) scope.names ([]:List (Str×Addr)) _ >>= fun r=>pure r)=_
 rw[e]
 rfl
theorem zs9 {env:Env}:∀ {names:List (Str×NameKind)}{x:Str},names.lookup x=some .free ->
  (names.map fun (n,k)=>if (k==NameKind.free&&env.scope.kind==.function&&env.kindOf n==some .cell) then (n,NameKind.cell) else (n,k)).lookup x=some .cell ∨
  (names.map fun (n,k)=>if (k==NameKind.free&&env.scope.kind==.function&&env.kindOf n==some .cell) then (n,NameKind.cell) else (n,k)).lookup x=some .free
 | [],_,h=>by simp at h
 | (n,k) :: r,x,h=>by
  have ih:=@zs9 env r x
  show List.lookup x ((if (k==NameKind.free&&env.scope.kind==.function&&env.kindOf n==some .cell)=true then (n,NameKind.cell) else (n,k)) :: _)=_∨List.lookup x ((if (k==NameKind.free&&env.scope.kind==.function&&env.kindOf n==some .cell)=true then (n,NameKind.cell) else (n,k)) :: _)=_
  cases hx:x==n with
  | true=>
   simp only[zcs7,hx] at h
   cases h
   by_cases hc:(NameKind.free==NameKind.free&&env.scope.kind==.function&&env.kindOf n==some .cell)=true
   ·left;rw[if_pos hc];simp only[zcs7,hx]
   ·right;rw[if_neg hc];simp only[zcs7,hx]
  | false=>
   simp only[zcs7,hx] at h
   by_cases hc:(k==NameKind.free&&env.scope.kind==.function&&env.kindOf n==some .cell)=true
   ·rw[if_pos hc];simp only[zcs7,hx];exact ih h
   ·rw[if_neg hc];simp only[zcs7,hx];exact ih h
theorem zt2 {env:Env}:∀ {names:List (Str×NameKind)}{x:Str}{k':NameKind},(∀ y∈names,y.2≠.cell)->(k'=.cell∨k'=.free) ->
  (names.map fun (n,k)=>if (k==NameKind.free&&env.scope.kind==.function&&env.kindOf n==some .cell) then (n,NameKind.cell) else (n,k)).lookup x=some k'->∃ y∈names,y.1=x/\y.2=.free
 | [],_,_,_,_,h=>by simp at h
 | (n,k) :: r,x,k',hn,hk,h=>by
  have ih:=@zt2 env r x k' (fun y hy=>hn y (zct6 _ hy)) hk
  replace h:List.lookup x ((if (k==NameKind.free&&env.scope.kind==.function&&env.kindOf n==some .cell)=true then (n,NameKind.cell) else (n,k)) :: List.map (fun (n,k)=>if (k==NameKind.free&&env.scope.kind==.function&&env.kindOf n==some .cell) then (n,NameKind.cell) else (n,k)) r)=some k':=h
  cases hx:x==n with
  | true=>
   have hx':x=n:=by simpa using hx
   by_cases hf:k=.free
   ·exact⟨(n,k),zcu6,hx'.symm,hf⟩
   ·have hc:¬ (k==NameKind.free&&env.scope.kind==.function&&env.kindOf n==some .cell)=true:=by
     have:(k==NameKind.free)=false:=by simpa using hf
     rw[this];simp
    rw[if_neg hc] at h
    simp only[zcs7,hx] at h
    have:k=k':=Option.some.inj h
    subst this
    rcases hk with hk|hk
    ·exact absurd hk (hn (n,k) zcu6)
    ·exact absurd hk hf
  | false=>
   have h':List.lookup x (List.map (fun (n,k)=>if (k==NameKind.free&&env.scope.kind==.function&&env.kindOf n==some .cell) then (n,NameKind.cell) else (n,k)) r)=some k':=by
    by_cases hc:(k==NameKind.free&&env.scope.kind==.function&&env.kindOf n==some .cell)=true
    ·rw[if_pos hc] at h;simp only[zcs7,hx] at h;exact h
    ·rw[if_neg hc] at h;simp only[zcs7,hx] at h;exact h
   obtain⟨y,hy,h1,h2⟩:=ih h'
   exact⟨y,zct6 _ hy,h1,h2⟩
def blk (X:Cx) (N:List Str) (scope:Scope) (cl:List (Str×Addr)) (C:Addr) (s3:Shared) (H3:Hp) (fp:List Addr):Cx:=
 { X with N:=N,s₀:=s3,H₀:=H3,env:=compEnvC scope cl C X.env,outer:=X.stack,ex:=fp,fn:=fun _=>false,pn:=[],xe:=fun _ _=>False }
def PTs (X:Cx) (ifs:List Expr) (t:TT):Prop:=
 ∀ (pins:List (Addr×Obj)) (s:Shared) (σ:St) (H:Hp) (Q:Bool->Hp->Prop),Inv X pins σ H s->t σ H Q ->
  wpAny (model X.prog X.w) X.A (forIn ifs true fun c r=>if r=true then do let ok ← isTrue c X.env (eval c X.env);pure (ForInStep.yield ok) else pure (ForInStep.yield r)) (TP X pins σ Q) X.xe s
theorem zc7 {X:Cx}:PTs X [] (fun _ H Q=>Q true H):=fun _ _ _ H _ I h=>wpAny_tests_nil ⟨H,I,h⟩
@[irreducible] def cPut (W:Nat->Nat->List V->St->Hp->Prop) (acc:Addr) (ys:List V) (i m:Nat) (σ2:St) (v:V) (H5:Hp):Prop:=
 H5 acc=some (.lst ys)/\∀ H6,Chg acc H5 H6->H6 acc=some (.lst (ys++[v]))->∃ m',m'<m/\W (i+1) m' (ys++[v]) σ2 H6
@[irreducible] def zaj8 (W:Nat->Nat->List V->St->Hp->Prop) (ys:List V) (i m:Nat) (σ2:St) (H4:Hp):Prop:=∃ m',m'<m/\W (i+1) m' ys σ2 H4
@[irreducible] def zy1 (J:It) (g:TG) (tt:TT) (te:TE) (σ0:St) (H1:Hp) (Q:VK):Prop:=
 ∀ acc H2,H1 acc=none->Same H1 H2->H2 acc=some (.lst [])->∃ W:Nat->Nat->List V->St->Hp->Prop,(∃ m,W 0 m [] σ0 H2)/\∀ i m ys σ H,W i m ys σ H->H acc=some (.lst ys)/\ys.length<sizeLine /\
  ((J.stop i H/\Q (.ref acc) H)∨(J.go i H/\∀ x H',J.yld i H x H'->g x σ H' fun σ2 H3=>tt σ2 H3 fun b H4=>
   br b (te σ2 H4 fun v H5=>cPut W acc ys i m σ2 v H5) (zaj8 W ys i m σ2 H4)))
section
variable {X:Cx}{pins:List (Addr×Obj)}{σ:St}{H:Hp}{s2:Shared}
theorem zce4 {N:List Str}{scope:Scope}{cl:List (Str×Addr)}{C:Addr}{s3 s4:Shared}{H3:Hp}{fp:List Addr}{σc:St}(I:Inv X pins σ H3 s3)
  (hcl1:∀ x c,cl.lookup x=some c->X.env.cells.lookup x=some c) (hcl2:∀ x∈scope.names,x.2=.free->∃ c,cl.lookup x.1=some c) (hkind:scope.kind=.function) (hcell:∀ y∈scope.names,y.2≠.cell)
  (hcap:∀ (i:Nat) (x:Str) (v:V),N[i]?=some x->σc[i]?=some (some v)->∃ j:Nat,X.N[j]?=some x/\σ[j]?=some (some v)/\scope.names.lookup x=some .free/\(X.env.kindOf x=some .cell∨X.env.kindOf x=some .free))
  (hlen:σc.length=N.length) (hC:s3.heap.objs.size=C) (hfp:∀ b∈fp,FpOk X pins H3 b) (hfpl:∀ b∈fp,b<C) (hex:∀ b o,X.base.get? b=some o->b ∉ fp) (hns:∃ m,s4.heap.Ns C m) (hk:∀ b o,s3.heap.get? b=some o->s4.heap.get? b=some o) (h4:s4.os=s3.os) (h5:s4.gens=s3.gens) :
  Inv (blk X N scope cl C s3 H3 fp) [] σc H3 s4:=by
 subst hC
 have look:∀ x,(blk X N scope cl s3.heap.objs.size s3 H3 fp).env.kindOf x=(relabel scope X.env).names.lookup x:=fun x=>rfl
 have cne:∀ x c,cl.lookup x=some c->c<s3.heap.objs.size:=fun x c h=>by
  obtain⟨v,o,ho,_⟩:=I.cell x c (hcl1 x c h)
  exact zcq7 ho
 refine⟨⟨I.ok.mod,?_,I.ok.glob,I.ok.blt,zcq9 _,fun x y c h1 h2=>I.ok.inj x y c (hcl1 _ _ h1) (hcl1 _ _ h2),fun x hx=>?_,fun x c h=>?_,I.ok.hd,I.ok.frames,.inl rfl,fun b hb=>⟨zcs5 (hfpl b hb),fun x c h=>?_⟩,fun b o e=>I.bs b o e,zcu1 I.ok.bsz I.sz,fun b o e=>hex b o e,fun b hb=>?_,I.stack,I.stkFree⟩,
  h4,by rw[h5];exact I.bare,Un.kept hk,?_,fun x c h=>?_,I.hok.fresh (zcq9 _),fun x c h=>I.freeC x c (hcl1 _ _ h),fun p hp=>(by cases hp),I.hok.kept hk,hlen⟩
 ·exact hkind
 ·have hx':(relabel scope X.env).names.lookup x=some .cell∨(relabel scope X.env).names.lookup x=some .free:=hx
  have hz:∃ y∈scope.names,y.1=x/\y.2=.free:=by
   rcases hx' with q|q
   ·exact zt2 hcell (.inl rfl) q
   ·exact zt2 hcell (.inr rfl) q
  obtain⟨y,hy,rfl,hf⟩:=hz
  exact hcl2 y hy hf
 ·exact absurd (show false=true from h) zcq0
 ·exact (hfp b hb).2.2.2.2.1 x c (hcl1 x c h)
 ·have:=(hfp b hb).1
  intro hz
  obtain⟨f0,f1,f2,_⟩:=hfp b hb
  have hz:b∈frs X.stack:=hz
  rcases zcq6.mp (I.stkSub b hz) with q|q
  ·exact f1 q
  ·exact f2 q
 ·obtain⟨m,hm⟩:=hns
  refine⟨m,hm,fun i x v h1 h2 h3=>?_⟩
  obtain⟨j,e1,e2,e3,e4⟩:=hcap i x v h1 h2
  obtain⟨mX,_,hl⟩:=I.loc
  obtain⟨u,r,q⟩:=hl j x v e1 e2 (by rcases e4 with e4|e4;exact .inr (.inl e4);exact .inr (.inr e4))
  refine⟨u,r,.inr ⟨zs9 e3,?_⟩⟩
  obtain⟨c,hc⟩:=hcl2 (x,.free) (PySem.mem_of_lookup e3) rfl
  refine⟨c,hc,?_⟩
  have hc':=hcl1 x c hc
  rcases q with ⟨k,_⟩|⟨_,c2,e5,o,ho,hd⟩
  ·rcases e4 with e4|e4<;>rw[e4] at k<;>cases k
  ·rw[hc'] at e5
   cases e5
   exact⟨o,hk _ _ ho,hd⟩
 ·obtain⟨v,o,ho,hd⟩:=I.cell x c (hcl1 x c h)
  exact⟨v,o,hk _ _ ho,hd⟩
theorem zav3 {prog:Program}{w:World}{A:Around}{R:Result->Shared->Prop}{s:Shared}{elt target iter:Expr}{ifs:List Expr}{scope:Scope}{pos:Pos}{it acc:Value}{env:Env}(I:Nat->Shared->Prop)
  (turn:∀ n s,I n s->wpAny (model prog w) A (pyNext it) (fun r s₁=>match r with
   | none=>R (.ok .next) s₁
   | some v=>wpAny (model prog w) A (letOwnedTupleGo target it v) (fun _ s₁'=>wpAny (model prog w) A (assign target env v) (fun _ s₂=>
     wpAny (model prog w) A (forIn ifs true fun c r=>if r=true then do let ok ← isTrue c env (eval c env);pure (ForInStep.yield ok) else pure (ForInStep.yield r)) (fun ok s₃=>
      if ok=true then wpAny (model prog w) A (eval elt env) (fun x s₄=>
       wpAny (model prog w) A (call (.builtin "list.append") [acc,x]) (fun _ s₅=>∃ m,m<n/\I m s₅) (fun _ _=>False) s₄) (fun _ _=>False) s₃
      else ∃ m,m<n/\I m s₃) (fun _ _=>False) s₂) (fun _ _=>False) s₁') (fun _ _=>False) s₁) (fun _ _=>False) s)
  (n:Nat) (h:I n s):codeAny (model prog w) A (.compLoop (.ListComp elt [⟨target,iter,ifs,0⟩] scope pos) 0 it acc env) R s:=by
 refine codeAny_loop rfl I (fun n s hI=>?_) n h
 show wpAny _ A ((compTurn (.ListComp elt [⟨target,iter,ifs,0⟩] scope pos) 0 it acc env).onRaise (fun x=>do noteFrame x env;theTreesLotGoes x)) _ _ s
 refine wpAny_noted ?_
 rw[compTurn_list]
 refine wpAny_bind (wpAny_standAt (wpAny_bind (wpAny_mono (turn n s hI) (fun r s₁ h₁=>?_) fun _ _ h'=>h'.elim)))
 cases r with
 | none=>exact wpAny_pure h₁
 | some v=>
  refine wpAny_bind (wpAny_mono h₁ (fun _ s₁' h₁'=>?_) fun _ _ h'=>h'.elim)
  refine wpAny_bind (wpAny_mono h₁' (fun _ s₂ h₂=>wpAny_bind (wpAny_mono h₂ (fun ok s₃ h₃=>?_) fun _ _ h'=>h'.elim)) fun _ _ h'=>h'.elim)
  cases ok with
  | false=>exact wpAny_pure ⟨rfl,h₃⟩
  | true=>
   exact wpAny_bind (wpAny_bind (wpAny_mono h₃ (fun x s₄ h₄=>wpAny_bind (wpAny_mono h₄ (fun _ s₅ h₅=>wpAny_pure (wpAny_pure ⟨rfl,h₅⟩)) fun _ _ h'=>h'.elim)) fun _ _ h'=>h'.elim))
theorem zas8 {E:Value->Shared->Prop}{elt tg iter:Expr}{ifs:List Expr}{scope:Scope}{pos:Pos}{cl:List (Str×Addr)}{N:List Str}{σc:St}{J:It}{fp:List Addr}{it:Addr}{tn:Nat->Heap->Prop}{g:TG}{tt:TT}{te:TE}{Q:VK}
  {RR:Value->Addr->Result->Shared->Prop}
  (hcl1:∀ x c,cl.lookup x=some c->X.env.cells.lookup x=some c) (hcl2:∀ x∈scope.names,x.2=.free->∃ c,cl.lookup x.1=some c) (hkind:scope.kind=.function) (hcell:∀ y∈scope.names,y.2≠.cell)
  (hcap:∀ (i:Nat) (x:Str) (v:V),N[i]?=some x->σc[i]?=some (some v)->∃ j:Nat,X.N[j]?=some x/\σ[j]?=some (some v)/\scope.names.lookup x=some .free/\(X.env.kindOf x=some .cell∨X.env.kindOf x=some .free))
  (hlen:σc.length=N.length) (hc:X.calm=true) (I:Inv X pins σ H s2) (T:Turn X.prog X.w X.K tg J fp it tn) (st:tn 0 s2.heap) (fpok:∀ b∈fp,FpOk X pins H b)
  (hg:∀ C s3 H3 fp,PG (blk X N scope cl C s3 H3 fp) tg g) (ht:∀ C s3 H3 fp,PTs (blk X N scope cl C s3 H3 fp) ifs tt) (he:∀ C s3 H3 fp,PE (blk X N scope cl C s3 H3 fp) elt te)
  (h:zy1 J g tt te σc H Q)
  (hRR:∀ (acc C:Addr) (H':Hp) (s':Shared),Inv X pins σ H' s'->FpOk X pins H' C->(∃ m,s'.heap.Ns C m)->Q (.ref acc) H'->RR (.ref acc) C (.ok .next) s') :
  wpAny (model X.prog X.w) X.A (newList []) (fun acc s₃=>wpAny (model X.prog X.w) X.A (newFunctionEnv scope X.env.globals cl [] X.env.qual none .none (some X.env)) (fun cenv s₄=>
   codeAny (model X.prog X.w) X.A (.compStart (.ListComp elt [⟨tg,iter,ifs,0⟩] scope pos) 0 (.ref it) acc { cenv with scope:=relabel scope X.env }) (RR acc cenv.locals) s₄) E s₃) E s2:=by
 refine wpAny_newObj_type (wpAny_newFunctionEnv hcell (by intro y hy;simp at hy) (fun h₁ hns₁ hsb₁=>?_) hkind)
 dsimp only at hns₁ hsb₁ ⊢
 have hf:H s2.heap.objs.size=none:=I.fresh
 have I3:Inv X pins σ (upd H s2.heap.objs.size (.lst [])) { s2 with heap:=s2.heap.push { cls:=.type "list",data:=.seq ([]:List Value).toArray } }:=I.lnew (t':=s2.toks) (its:=[]) .nil (zct3 _)
 generalize hs3:({ s2 with heap:=s2.heap.push { cls:=.type "list",data:=.seq ([]:List Value).toArray } }:Shared)=s3 at I3
 have hH:s2.heap.push { cls:=.type "list",dict:=none,data:=.seq ([]:List Value).toArray }=s3.heap:=by rw[← hs3]
 rw[hH] at hns₁ hsb₁ ⊢
 have hsz:s3.heap.objs.size=s2.heap.objs.size+1:=by rw[← hH,Heap.size_push]
 have old23:∀ b o,s2.heap.get? b=some o->s3.heap.get? b=some o:=fun b o e=>by rw[← hH];exact zcp8 _ e
 have fplt:∀ b∈fp,b<s2.heap.objs.size:=fun b hb=>by
  obtain⟨o,e,_⟩:=T.obj 0 _ st b hb
  exact zcq7 e
 have fp3:∀ b∈fp,FpOk X pins (upd H s2.heap.objs.size (.lst [])) b:=fun b hb=>by
  obtain⟨f0,f1⟩:=fpok b hb
  refine⟨?_,f1⟩
  rw[zc0 (zcs5 (fplt b hb))]
  exact f0
 have old34:∀ b o,s3.heap.get? b=some o->h₁.get? b=some o:=fun b o e=>hsb₁.extBut b o (zcs5 (zcq7 e)) (zcp8 _ e)
 have nob:∀ b o,X.base.get? b=some o->b ∉ fp:=fun b o e hb=>by
  obtain⟨_,_,_,f3,_,_⟩:=fpok b hb
  rcases f3 with f3|f3
  ·exact I.ok.noex b o e f3
  ·exact absurd (zcr4 (zcq7 e) I.ok.bsz) (Nat.not_lt.mpr f3)
 have hs4e:({ s2 with heap:=h₁,toks:=s2.toks+([]:List (Str×Value)).length }:Shared).os=s3.os:=by rw[← hs3]
 have hs4g:({ s2 with heap:=h₁,toks:=s2.toks+([]:List (Str×Value)).length }:Shared).gens=s3.gens:=by rw[← hs3]
 have I4:Inv (blk X N scope cl s3.heap.objs.size s3 (upd H s2.heap.objs.size (.lst [])) fp) [] σc (upd H s2.heap.objs.size (.lst [])) { s2 with heap:=h₁,toks:=s2.toks+([]:List (Str×Value)).length }:=
  zce4 (s4:={ s2 with heap:=h₁,toks:=s2.toks+([]:List (Str×Value)).length }) I3 hcl1 hcl2 hkind hcell hcap hlen rfl fp3 (fun b hb=>zcr4 (fplt b hb) (by rw[hsz];exact zcv7 _)) nob ⟨_,hns₁⟩ old34 hs4e hs4g
 have st4:tn 0 h₁:=T.keep _ _ _ st fun b hb o e=>old34 b o (old23 b o e)
 unfold zy1 at h
 obtain⟨W,⟨m0,w0⟩,turn⟩:=h s2.heap.objs.size _ hf (Same.upd hf) zc2
 have loop:codeAny (model X.prog X.w) X.A (.compLoop (.ListComp elt [⟨tg,iter,ifs,0⟩] scope pos) 0 (.ref it) (.ref s2.heap.objs.size) (blk X N scope cl s3.heap.objs.size s3 (upd H s2.heap.objs.size (.lst [])) fp).env)
   (RR (.ref s2.heap.objs.size) s3.heap.objs.size) { s2 with heap:=h₁,toks:=s2.toks+([]:List (Str×Value)).length }:=by
  refine zav3 (fun n s'=>∃ i ys σ' H',Inv (blk X N scope cl s3.heap.objs.size s3 (upd H s2.heap.objs.size (.lst [])) fp) [] σ' H' s'/\tn i s'.heap/\(∀ b∈fp,H' b=none)/\W i n ys σ' H') ?_ m0 ⟨0,[],σc,_,I4,st4,fun b hb=>(fp3 b hb).1,w0⟩
  rintro n s5 ⟨i,ys,σ5,H5,I5,st5,fr5,w5⟩
  obtain⟨hacc,hl5,hcase⟩:=turn i n ys σ5 H5 w5
  have stat:∀ {H':Hp},(∀ b∈fp,H' b=none)->∀ b∈fp,FpOk (blk X N scope cl s3.heap.objs.size s3 (upd H s2.heap.objs.size (.lst [])) fp) [] H' b:=fun hn b hb=>by
   obtain⟨_,f1,f2,f3,f4,_⟩:=fpok b hb
   refine⟨hn b hb,zcs5 (zcr4 (fplt b hb) (by rw[hsz];exact zcv7 _)),fun hz=>?_,.inl hb,fun x c hx=>f4 x c (hcl1 x c hx),fun p hp=>by cases hp⟩
   rcases zcq6.mp (I.stkSub b hz) with q|q
   ·exact f1 q
   ·exact f2 q
  rcases hcase with ⟨stop,hq⟩|⟨go,step⟩
  ·refine thn (T.done (blk X N scope cl s3.heap.objs.size s3 (upd H s2.heap.objs.size (.lst [])) fp) rfl rfl rfl hc i [] s5 σ5 H5 (fun _ _=>False) I5 (stat fr5) st5 stop) fun r s6 ⟨hr,I6⟩=>?_
   subst hr
   have u1:Un (frs X.stack) fp H (upd H s2.heap.objs.size (.lst [])) s2.heap s3.heap:=Un.laid old23 (zcq9 _) hf
   have u2:Un (frs X.stack) fp (upd H s2.heap.objs.size (.lst [])) H5 s3.heap s6.heap:=I6.base
   have hC:H5 s3.heap.objs.size=none:=I6.free
   obtain⟨m6,hm6,_⟩:=I6.loc
   have hos:s6.os=s2.os:=by rw[I6.os];show s3.os=s2.os;rw[← hs3]
   have hok6:=I6.hok
   have bare6:=I6.bare
   obtain⟨hh,gg,dd,tt',os'⟩:=s6
   obtain rfl:os'=s2.os:=hos
   exact hRR _ _ H5 _ (I.call (h':=hh) (g':=gg) (d':=dd) (t':=tt') (ch:=fp) (u1.trans u2) hok6 bare6 fun b hb=>⟨(fpok b hb).2.2.2.1,(fpok b hb).2.1,(fpok b hb).2.2.2.2.1,(fpok b hb).2.2.2.2.2⟩)
    (I.fpOk (by rw[hsz];exact zcv7 _) hC) ⟨m6,hm6⟩ hq
  ·refine thn (T.item (blk X N scope cl s3.heap.objs.size s3 (upd H s2.heap.objs.size (.lst [])) fp) rfl rfl rfl hc i [] s5 σ5 H5 (fun _ _=>False) I5 (stat fr5) st5 go) fun r s6 ⟨u,hr,h6⟩=>?_
   subst hr
   refine thn h6 fun _ s7 ⟨x,H7,I7,r7,y7,st7,fr7⟩=>?_
   have I7':=I7.pinned (stat fr7) (T.obj _ _ st7)
   refine thn (hg _ _ _ _ _ s7 σ5 H7 x u _ I7' r7 (step x H7 y7)) fun _ s8 ⟨σ8,H8,I8,q8⟩=>?_
   refine thn (ht _ _ _ _ _ s8 σ8 H8 _ I8 q8) fun ok s9 ⟨H9,I9,q9⟩=>?_
   have again:∀ {s10:Shared}{σ10:St}{H10:Hp}{zs:List V},Inv (blk X N scope cl s3.heap.objs.size s3 (upd H s2.heap.objs.size (.lst [])) fp) ([]++zaj1 fp s7.heap) σ10 H10 s10->(∃ m',m'<n/\W (i+1) m' zs σ10 H10) ->
     ∃ m,m<n/\∃ i ys σ' H',Inv (blk X N scope cl s3.heap.objs.size s3 (upd H s2.heap.objs.size (.lst [])) fp) [] σ' H' s10/\tn i s10.heap/\(∀ b∈fp,H' b=none)/\W i m ys σ' H':=fun {s10 σ10 H10 zs} I10 ⟨m',hm,w10⟩=>by
    refine⟨m',hm,i+1,zs,σ10,H10,I10.unpinned,T.keep _ _ _ st7 fun b hb o e=>(I10.pin (b,o) (zcs8 _ (zcs8 _ (zo4 hb e)))).1,fun b hb=>?_,w10⟩
    obtain⟨o,e,d⟩:=T.obj _ _ st7 b hb
    exact (I10.pin (b,o) (zcs8 _ (zcs8 _ (zo4 hb e)))).2.1
   dsimp only at q9
   rw[zz5] at q9
   cases ok with
   | false=>
    have q9:∃ m',m'<n/\W (i+1) m' ys σ8 H9:=by rw[if_neg zcq0] at q9;unfold zaj8 at q9;exact q9
    exact again I9 q9
   | true=>
    have q9:=(if_pos rfl▸q9:te σ8 H9 _)
    refine thn (he _ _ _ _ _ s9 σ8 H9 _ I9 q9) fun v s10 ⟨y,H10,I10,r10,q10⟩=>?_
    unfold cPut at q10
    obtain⟨e10,q10⟩:=q10
    refine thn (zab9 _ s10 σ8 H10 (.ref s2.heap.objs.size) [y] (.ref s2.heap.objs.size) [v] (fun _ H11=>∃ m',m'<n/\W (i+1) m' (ys++[y]) σ8 H11) I10 rfl (.cons r10 .nil) ⟨_,ys,y,rfl,rfl,e10,hl5,q10 _ Chg.upd zc2⟩) fun _ s11 ⟨z,H11,I11,_,q11⟩=>?_
    exact again I11 q11
 exact codeAny_compStart_list loop (T.self _ 0 _ _ _ st4 loop)
def capS (ks:List (Option Nat)) (σ:St):St:=ks.map fun k=>match k with
 | none=>none
 | some j=>(σ[j]?).join
inductive zaa7 (X:Cx) (scope:Scope):List Str->List (Option Nat)->Prop where
 | nil:zaa7 X scope [] []
 | skip {x:Str}{N:List Str}{ks:List (Option Nat)}(t:zaa7 X scope N ks):zaa7 X scope (x :: N) (none :: ks)
 | take {x:Str}{N:List Str}{ks:List (Option Nat)}{j:Nat}(h1:X.N[j]?=some x) (h2:scope.names.lookup x=some .free) (h3:X.env.kindOf x=some .cell∨X.env.kindOf x=some .free) (t:zaa7 X scope N ks):zaa7 X scope (x :: N) (some j :: ks)
theorem zaa7.cap {scope:Scope}{N:List Str}{ks:List (Option Nat)}(h:zaa7 X scope N ks) (σ:St):∀ (i:Nat) (x:Str) (v:V),N[i]?=some x->(capS ks σ)[i]?=some (some v)->∃ j:Nat,X.N[j]?=some x/\σ[j]?=some (some v)/\scope.names.lookup x=some .free/\(X.env.kindOf x=some .cell∨X.env.kindOf x=some .free):=by
 induction h with
 | nil=>intro i x v h;simp at h
 | skip t ih=>
  intro i x v h1 h2
  cases i with
  | zero=>simp[capS] at h2
  | succ i=>exact ih i x v (by simpa using h1) (by simpa [capS] using h2)
 | take a b c t ih=>
  intro i x v h1 h2
  cases i with
  | zero=>
   simp only[List.getElem?_cons_zero,Option.some.injEq] at h1
   subst h1
   refine⟨_,a,?_,b,c⟩
   simpa [capS,Option.join_eq_some_iff] using h2
  | succ i=>exact ih i x v (by simpa using h1) (by simpa [capS] using h2)
theorem zaa7.len {scope:Scope}{N:List Str}{ks:List (Option Nat)}(h:zaa7 X scope N ks) (σ:St):(capS ks σ).length=N.length:=by
 have:ks.length=N.length:=by
  induction h with
  | nil=>rfl
  | skip t ih=>simp[ih]
  | take a b c t ih=>simp[ih]
 simp[capS,this]
def qComp (ks:List (Option Nat)) (wi:TI) (g:TG) (tt:TT) (te:TE):TE:=fun σ H Q=>wi σ H fun J H1=>zy1 J g tt te (capS ks σ) H1 Q
def freeB (scope:Scope) (f:Str->Option NameKind):Bool:=scope.names.all fun x=>x.2 != .free || (f x.1==some .cell || f x.1==some .free)
def zbb2 (scope:Scope):Bool:=scope.names.all (fun x=>x.2 != .cell)&&scope.names.all fun x=>x.2 != .local || scope.names.lookup x.1==some .local
theorem zal2 {scope:Scope}{f:Str->Option NameKind}(h:freeB scope f=true):∀ x∈scope.names,x.2=.free->f x.1=some .cell∨f x.1=some .free:=fun x hx hf=>by
 have:=zcs6.mp h x hx
 simpa [hf] using this
theorem zat9 {scope:Scope}(h:zbb2 scope=true):(∀ y∈scope.names,y.2≠.cell)/\∀ x∈scope.names,x.2=.local->scope.names.lookup x.1=some .local:=by
 unfold zbb2 at h
 rw[zcr6] at h
 refine⟨fun y hy=>?_,fun x hx hl=>?_⟩
 ·have:=zcs6.mp h.1 y hy
  simpa using this
 ·have:=zcs6.mp h.2 x hx
  simpa [hl] using this
theorem zf4 {elt tg iter:Expr}{ifs:List Expr}{scope:Scope}{pos:Pos}{N:List Str}{ks:List (Option Nat)}{wi:TI}{g:TG}{tt:TT}{te:TE}(hi:PI X tg iter wi)
  (hg:∀ cl C s3 H3 fp,PG (blk X N scope cl C s3 H3 fp) tg g) (ht:∀ cl C s3 H3 fp,PTs (blk X N scope cl C s3 H3 fp) ifs tt) (he:∀ cl C s3 H3 fp,PE (blk X N scope cl C s3 H3 fp) elt te) (hcap:zaa7 X scope N ks)
  (hc:X.calm=true:=by rfl) (hkind:scope.kind=.function:=by rfl) (hb:freeB scope X.env.kindOf=true:=by rfl) (hn:zbb2 scope=true:=by rfl) (hs:∀ x,foldedSetIterable iter X.env x=pure x:=by intro _;rfl) :
  PE X (.ListComp elt [⟨tg,iter,ifs,0⟩] scope pos) (qComp ks wi g tt te):=by
 intro pins s σ H Q I h
 obtain⟨hcell,hnames⟩:=zat9 hn
 obtain⟨cl,hcl,hcl1,hcl2⟩:=zy4 (scope:=scope) (env:=X.env) fun x hx hf=>I.ok.has x.1 (zal2 hb x hx hf)
 rw[eval_ListComp]
 refine wpAny_comprehension_free (use:=none) rfl hs hcl hkind hnames ?_
 show wpAny _ _ (eval iter X.env) _ _ s
 refine thn (hi pins s σ H _ I h) fun v s1 h1=>thn h1 fun itv s2 h2=>?_
 obtain⟨it,fp,tn,J,H2,e,I2,T,st2,f2,q2⟩:=h2
 subst e
 refine zas8 (RR:=fun acc C=>compPost (model X.prog X.w) X.A X.xe none (EP X pins σ Q) acc C) hcl1 hcl2 hkind hcell (hcap.cap σ) (hcap.len σ) hc I2 T st2 f2 (hg cl) (ht cl) (he cl) q2 ?_
 rintro acc C H' s' I' hC ⟨m,hm⟩ hq
 refine⟨m,hm,fun h' hsb=>⟨.ref acc,H',?_,rfl,hq⟩⟩
 exact I'.turned (t':=s'.toks) (fun b o hb e=>hsb.extBut b o hb e) hC.1 hC.2.1 hC.2.2.2.1 hC.2.2.2.2.1 hC.2.2.2.2.2
theorem psC {i:Nat}{y:Str}{py spos:Pos}{elt tg iter:Expr}{ifs:List Expr}{scope:Scope}{pos:Pos}{N:List Str}{ks:List (Option Nat)}{wi:TI}{g:TG}{tt:TT}{te:TE}(hN:X.N.Nodup) (hi:PI X tg iter wi)
  (hg:∀ cl C s3 H3 fp,PG (blk X N scope cl C s3 H3 fp) tg g) (ht:∀ cl C s3 H3 fp,PTs (blk X N scope cl C s3 H3 fp) ifs tt) (he:∀ cl C s3 H3 fp,PE (blk X N scope cl C s3 H3 fp) elt te) (hcap:zaa7 X scope N ks)
  (hy:X.N[i]?=some y:=by rfl) (hl:X.env.scope.names.lookup y=some .local:=by rfl) (hsw:swapsWith (.ListComp elt [⟨tg,iter,ifs,0⟩] scope pos) (some (.Name y py)) spos.line X.env=pure true:=by rfl)
  (hc:X.calm=true:=by rfl) (hkind:scope.kind=.function:=by rfl) (hb:freeB scope X.env.kindOf=true:=by rfl) (hn:zbb2 scope=true:=by rfl) (hs:∀ x,foldedSetIterable iter X.env x=pure x:=by intro _;rfl) :
  PS X (.Assign [.Name y py] (.ListComp elt [⟨tg,iter,ifs,0⟩] scope pos) spos) (tAsg (qComp ks wi g tt te) (zbr2 i)):=by
 intro pins s σ H D I h
 obtain⟨hcell,hnames⟩:=zat9 hn
 obtain⟨cl,hcl,hcl1,hcl2⟩:=zy4 (scope:=scope) (env:=X.env) fun x hx hf=>I.ok.has x.1 (zal2 hb x hx hf)
 rw[exec_Assign_Name_used _ _ _ _ hsw]
 refine wpAny_bind (wpAny_standAt (wpAny_bind ?_))
 show wpAny _ X.A (do let _ ← comprehension (.ListComp elt [⟨tg,iter,ifs,0⟩] scope pos) scope X.env _ (newList []) false (eval iter X.env) (some (assign (.Name y py) X.env))) _ _ s
 refine wpAny_bind (wpAny_mono (wpAny_comprehension_free (use:=some (assign (.Name y py) X.env)) (Q:=fun _ s'=>SP X pins D .next s') rfl hs hcl hkind hnames ?_) (fun _ s' hq=>wpAny_pure (wpAny_pure hq)) fun _ _ e=>e)
 refine thn (hi pins s σ H _ I h) fun v s1 h1=>thn h1 fun itv s2 h2=>?_
 obtain⟨it,fp,tn,J,H2,e,I2,T,st2,f2,q2⟩:=h2
 subst e
 refine zas8 (RR:=fun acc C=>compPost (model X.prog X.w) X.A X.xe (some (assign (.Name y py) X.env)) (fun _ s'=>SP X pins D .next s') acc C) hcl1 hcl2 hkind hcell (hcap.cap σ) (hcap.len σ) hc I2 T st2 f2 (hg cl) (ht cl) (he cl) q2 ?_
 rintro acc C H' s' I' hC ⟨m,hm⟩ hq
 show wpAny _ _ (assign (.Name y py) X.env (.ref acc)) _ _ _
 refine wpAny_assign_Name (zao9 I' hN hy (.inl hl) (v:=.ref acc) rfl (fun s'' I'' hsb=>?_) (.inr hl))
 obtain⟨a,hsb,ha⟩:=hsb
 have hCa:C≠a:=by
  rcases ha with ha|ha
  ·rw[ha];exact hC.2.1
  ·exact (hC.2.2.2.2.1 y a ha).symm
 refine⟨m,hm.sameBut hsb hCa,fun h' hsb'=>⟨σ.set i (some (.ref acc)),H',?_,hq⟩⟩
 exact I''.turned (t':=s''.toks) (fun b o hb e=>hsb'.extBut b o hb e) hC.1 hC.2.1 hC.2.2.2.1 hC.2.2.2.2.1 hC.2.2.2.2.2
end
section
variable {K:zcp3}{g:TG}{tt:TT}{te:TE}{σ0:St}{H1:Hp}{Q:VK}
end
end L2
set_option maxHeartbeats 2000000
namespace L2
open PySem PySem.Spec PyProof.Rows
section
variable {X:Cx}
@[irreducible] def rSumA (K:zcp3) (p:Addr) (H:Hp) (Q:VK):Prop:=∃ ns:List Int,SqL K H p (ns.map V.int)/\Q (.int ns.sum) H
def rSumM (K:zcp3):List V->Hp->VK->Prop:=fun xs H Q=>match xs with
 | [.ref p]=>rSumA K p H Q
 | _=>False
theorem cSum (hc:X.calm=true):zn5 X (.builtin "sum") (rSumM X.K):=fun pins s σ H xs us Q I r h=>by
 unfold rSumM at h
 split at h
 ·unfold rSumA at h
  obtain⟨ns,h1,h2⟩:=h
  obtain⟨u,rfl,rx⟩:=zaa4 r
  cases rx
  obtain⟨its,r',pl,hz⟩:=I.list h1
  have hi:=zz2 r'
  obtain⟨ys,hx⟩:=hi.allInts.items
  have hl':s.heap.IsList _ (intItems ys):=hx▸pl.isList
  refine sum_intListG (I.ok.hd hc) hl' fun h' tk t' hk=>?_
  have e1:ns=ys.toList.map (·.1):=by
   rw[← nums_intItems,← hx]
   exact (show numsOf its.toArray.toList=ns from hi.numsOf).symm
  have e2:preSum (numAt ys) ys.size=ns.sum:=by
   rw[preSum_eq,zcw0 (by simp),e1]
  rw[e2]
  exact⟨.int ns.sum,H,I.kept hk,⟨_,rfl⟩,h2⟩
 ·exact h.elim
theorem zao8 {K:zcp3}{p:Addr}{H:Hp}{Q:VK}{ns:List Int}(h:H p=some (.lst (ns.map V.int))) (q:Q (.int ns.sum) H):rSumA K p H Q:=by unfold rSumA;exact⟨ns,SqL.of h,q⟩
theorem zad6:∀ {bs:List Bool}{us:List Value},Vals (bs.map V.bl) us->LSm.BoolsAre us bs
 | [],us,r=>by rw[List.map_nil] at r;cases r;exact .nil
 | b :: bs,us,r=>by
  rw[zcs0] at r
  cases r with
  | cons r1 r2=>
   cases r1
   exact .cons b (zad6 r2)
@[irreducible] def rAllA (K:zcp3) (p:Addr) (H:Hp) (Q:VK):Prop:=∃ bs:List Bool,SqL K H p (bs.map V.bl)/\Q (.bl (bs.all id)) H
def rAllM (K:zcp3):List V->Hp->VK->Prop:=fun xs H Q=>match xs with
 | [.ref p]=>rAllA K p H Q
 | _=>False
theorem cAll (hc:X.calm=true):zn5 X (.builtin "all") (rAllM X.K):=fun pins s σ H xs us Q I r h=>by
 unfold rAllM at h
 split at h
 ·rename_i p
  unfold rAllA at h
  obtain⟨bs,h1,h2⟩:=h
  obtain⟨u,rfl,rx⟩:=zaa4 r
  cases rx
  obtain⟨its,r',pl,hz⟩:=I.list h1
  have hb:=zad6 r'
  have hlt:p<s.heap.objs.size:=by obtain⟨_,e,_⟩:=pl.isList;exact zcq7 e
  refine call_all_walk (wpAny_pyIter_list pl.isList ?_)
  refine⟨s.heap.objs.size,[s.heap.objs.size,_],[s.heap.objs.size],its.toArray.size,_,_,fun i=>(bs[i]?).getD true,rfl,Walks.list (A:=X.A.in1) (I.ok.hd hc) _ _ (zcs5 hlt) its.toArray,
   ⟨⟨_,zcs3 _ rfl,rfl,rfl⟩,pl.isList.push _⟩,fun i v s' Q' E' hP hQ=>?_,fun h' tk hk=>?_⟩
  ·obtain⟨b,e,rfl⟩:=hb.get i v (by simpa using hP)
   simp only[e,Option.getD_some] at hQ
   exact wpAny_truthy_bool hQ
  ·have e:((List.range its.toArray.size).all fun i=>(bs[i]?).getD true)=bs.all id:=by
    rw[zcq2,hb.length];exact LSm.range_all bs
   rw[e]
   exact⟨.bl _,H,I.kept (LSm.kept_iter hk),rfl,h2⟩
 ·exact h.elim
theorem zv5 {K:zcp3}{p:Addr}{H:Hp}{Q:VK}{bs:List Bool}(h:H p=some (.lst (bs.map V.bl))) (q:Q (.bl (bs.all id)) H):rAllA K p H Q:=by unfold rAllA;exact⟨bs,SqL.of h,q⟩
@[irreducible] def zba9 (K:zcp3) (p:Addr) (H:Hp) (R:Prop):Prop:=(∃ xs,SqL K H p xs)/\R
def qBM (K:zcp3) (r:Addr->List V->Hp->VK->Prop) (to:TE) (t:TA):TE:=fun σ H Q=>to σ H fun x H1=>match x with
 | .ref p=>zba9 K p H1 (t σ H1 fun xs H2=>r p xs H2 Q)
 | _=>False
theorem zaf6 {K:zcp3}{p:Addr}{H:Hp}{R:Prop}{xs:List V}(h:H p=some (.lst xs)) (q:R):zba9 K p H R:=by unfold zba9;exact⟨⟨xs,SqL.of h⟩,q⟩
def MtA (X:Cx) (id:String) (r:Addr->List V->Hp->VK->Prop):Prop:=
 ∀ (pins:List (Addr×Obj)) (s:Shared) (σ:St) (H:Hp) (p:Addr) (xs:List V) (us:List Value) (Q:VK),Inv X pins σ H s->Vals xs us->r p xs H Q ->
  wpAny (model X.prog X.w) X.A (call (.builtin id) (.ref p :: us)) (EP X pins σ Q) X.xe s
theorem peBM {o e:Expr}{es:List Expr}{to:TE}{t:TA}{name:Str}{apos cpos:Pos}{id:String}{r:Addr->List V->Hp->VK->Prop}(slot:Slot "list" name id) (hty:typeOf (.builtin id)=pure (.type "method_descriptor")) (hm:MtA X id r) (ho:PE X o to) (ha:PA X (e :: es) t)
  (hbase:attributeBase o name X.env (eval o X.env)=eval o X.env:=by rfl)
  (hfew:((backTo cpos (starEach (e :: es) X.env)).all (fun x=>!x.1)&&(backToKw cpos (keywordEach [] X.env)).all (fun x=>x.1.isSome)
   && decide ((e :: es).length+([]:List Keyword).length+(if ([]:List Keyword).isEmpty then 0 else 1)<30))=true:=by rfl)
  (hline:(apos.endLine==cpos.line)=true:=by rfl) (hs:starEach (e :: es) X.env=(false,eval e X.env) :: starEach es X.env:=by rfl) (hplain:(backTo cpos (starEach es X.env)).any (·.1)=false:=by rfl) :
  PE X (.Call (.Attribute o name apos) (e :: es) [] cpos) (qBM X.K r to t):=by
 intro pins s σ H Q I h
 refine wpAny_Call_method_late hbase hfew hline rfl (thn (ho pins s σ H _ I h) fun v s1 ⟨x,H1,I1,r1,q1⟩=>?_)
 dsimp only at q1
 split at q1
 ·rename_i p
  unfold zba9 at q1
  obtain⟨hq,q1⟩:=q1
  obtain⟨h1,h2⟩:=tyV_is (T:="list") I1 r1 (.inl ⟨rfl,hq⟩)
  refine⟨"list",id,PySem.F.plainAttrs_list,slot,hty,h1,h2,?_⟩
  have hA:=ha cpos pins s1 σ H1 _ I1 q1
  rw[hs] at hA ⊢
  refine Calls.callWith_builtin (by show (false || (backTo cpos (starEach es X.env)).any (·.1))=false;rw[hplain]<;>rfl) (Calls.evalArgs_plain ?_)
  cases r1
  exact thn hA fun us s2 ⟨vs,H2,I2,r2,q2⟩=>hm pins s2 σ H2 p vs us Q I2 r2 q2
 ·exact q1.elim
@[irreducible] def rAppA (p:Addr) (v:V) (H:Hp) (Q:VK):Prop:=∃ xs,H p=some (.lst xs)/\xs.length<sizeLine/\∀ H',Chg p H H'->H' p=some (.lst (xs++[v]))->Q .non H'
def rAppM:Addr->List V->Hp->VK->Prop:=fun p vs H Q=>match vs with
 | [v]=>rAppA p v H Q
 | _=>False
theorem zcc7:MtA X "list.append" rAppM:=fun pins s σ H p xs us Q I r h=>by
 unfold rAppM at h
 split at h
 ·unfold rAppA at h
  obtain⟨ys,h1,h2,h3⟩:=h
  exact zab9 pins s σ H (.ref p) _ (.ref p) us Q I rfl r ⟨p,ys,_,rfl,rfl,h1,h2,h3 _ Chg.upd zc2⟩
 ·exact h.elim
theorem zad8 {p:Addr}{v:V}{H:Hp}{Q:VK}{xs:List V}(h:H p=some (.lst xs)) (hz:xs.length<sizeLine) (q:∀ H',Chg p H H'->H' p=some (.lst (xs++[v]))->Q .non H'):rAppA p v H Q:=by unfold rAppA;exact⟨xs,h,hz,q⟩
theorem zm7 {o e:Expr}{to:TE}{t:TA}{apos cpos:Pos}(ho:PE X o to) (ha:PA X [e] t) (hbase:attributeBase o "append" X.env (eval o X.env)=eval o X.env:=by rfl)
  (hfew:((backTo cpos (starEach [e] X.env)).all (fun x=>!x.1)&&(backToKw cpos (keywordEach [] X.env)).all (fun x=>x.1.isSome)
   && decide ([e].length+([]:List Keyword).length+(if ([]:List Keyword).isEmpty then 0 else 1)<30))=true:=by rfl)
  (hline:(apos.endLine==cpos.line)=true:=by rfl) (hs:starEach [e] X.env=(false,eval e X.env) :: starEach [] X.env:=by rfl) (hplain:(backTo cpos (starEach [] X.env)).any (·.1)=false:=by rfl):PE X (.Call (.Attribute o "append" apos) [e] [] cpos) (qBM X.K rAppM to t):=
 peBM PySem.F.slot_list_append PySem.F.type_list_append zcc7 ho ha hbase hfew hline hs hplain
section
variable {prog:Program}{w:World}{A:Around}{E:Value->Shared->Prop}{s:Shared}
theorem zaq2 {it t:Addr}{items:Array Value}(hne:t≠it):∀ (n i:Nat) (s:Shared) (Q:List Value->Shared->Prop),s.heap.IsListIter it t i->s.heap.IsList t items->i+n<=items.size ->
  (∀ h',h'.IsListIter it t (i+n)->Heap.SameBut it s.heap h'->Q ((items.toList.drop i).take n) { s with heap:=h' })->wpAny (model prog w) A (draw (.ref it) n) Q E s
 | 0,i,s,Q,hit,_,_,hQ=>by
  show wpAny _ _ (pure []) Q E s
  exact wpAny_pure (by simpa using hQ s.heap hit (Heap.SameBut.refl ..))
 | n+1,i,s,Q,hit,ht,hle,hQ=>by
  have hlt:i<items.size:=by omega
  show wpAny _ _ (pyNext (.ref it) >>= _) Q E s
  refine wpAny_bind (wpAny_pyNext_list_item hit ht (x:=items[i]) (by simp[hlt]) fun h₁ hit₁ hs₁=>?_)
  refine wpAny_bind (wpAny_holding (zaq2 hne n (i+1) _ _ hit₁ (ht.extBut hs₁.extBut hne) (by omega) fun h₂ hit₂ hs₂=>wpAny_pure ?_))
  have hd:items.toList.drop i=items[i] :: items.toList.drop (i+1):=by simp[List.drop_eq_getElem_cons,hlt]
  have:=hQ h₂ (by rw[show i+(n+1)=i+1+n by omega];exact hit₂) (hs₁.trans hs₂)
  rw[hd,List.take_succ_cons] at this
  exact this
theorem zy5 {env:Env}{elts:List Expr}{x1} {pos:Pos}{t:Addr}{items:Array Value}{Q:Unit->Shared->Prop}(hh:A.handled=none) (ht:s.heap.IsList t items)
  (hn:(assignEach elts env).length=items.size) (hstar:(assignEach elts env).findIdx? (·.1)=none)
  (h:∀ h',Heap.ExtBut s.heap.objs.size s.heap h'->wpAny (model prog w) A (assignInOrder ((assignEach elts env).map (·.2)) items.toList) Q E { s with heap:=h' }) :
  wpAny (model prog w) A (assign (.Tuple elts x1 pos) env (.ref t)) Q E s:=by
 rw[assign_Tuple]
 refine wpAny_bind (wpAny_standAt ?_)
 unfold unpack
 rw[hn,hstar]
 refine wpAny_bind (wpAny_holding ?_)
 have hlt:t≠s.heap.objs.size:=by obtain⟨o,ho,_⟩:=ht;exact zcs5 (zcq7 ho)
 unfold unpackItems
 refine wpAny_bind ?_
 unfold notIterableAtAll
 refine wpAny_bind (wpAny_specialOf ht.typeIs F.slot_list_iter.lookup ?_)
 refine wpAny_pure ?_
 simp only[zcv5,if_false]
 refine wpAny_bind (wpAny_holding (wpAny_pyIter_list ht ?_))
 refine wpAny_bind (wpAny_holding (zaq2 hlt items.size 0 _ _ ⟨_,zcs3 _ rfl,rfl,rfl⟩ (ht.push _) (by omega) fun h₁ hit₁ hs₁=>?_))
 have hall:List.take items.size (List.drop 0 items.toList)=items.toList:=by
  rw[List.drop_zero];exact zcw0 (by simp)
 rw[hall]
 rw[if_neg (by simp)]
 have ht₁:h₁.IsList t items:=(ht.push _).extBut hs₁.extBut hlt
 refine wpAny_bind (wpAny_holding (wpAny_pyNext_list_end hh hit₁ ht₁ (by simp) fun h₂ he₂=>?_))
 simp only[Option.isSome_none,zcv5,if_false]
 exact wpAny_pure (h h₂ fun b o hb e=>he₂ b o hb (hs₁.extBut b o hb (zcp8 _ e)))
end
@[irreducible] def rUnpA (K:zcp3) (a:Addr) (n:Nat) (t:TGs) (σ:St) (H:Hp) (Q:St->Hp->Prop):Prop:=∃ xs,(SqT K H a xs∨SqL K H a xs)/\xs.length=n/\t xs σ H Q
def qgAny (K:zcp3) (n:Nat) (t:TGs):TG:=fun v σ H Q=>match v with
 | .ref a=>rUnpA K a n t σ H Q
 | _=>False
theorem pgAny {pos:Pos}{es:List Expr}{k:Nat}{t:TGs}{n:Nat}(hc:X.calm=true) (h:PGs X es t)
  (hn:(assignEach es X.env).length=n:=by rfl) (hst:(assignEach es X.env).findIdx? (·.1)=none:=by rfl):PG X (.Tuple es k pos) (qgAny X.K n t):=fun pins s σ H v u Q I r hq=>by
 unfold qgAny at hq
 split at hq
 ·unfold rUnpA at hq
  obtain⟨xs,a1,a2,a3⟩:=hq
  rcases a1 with a1|a1
  ·exact pg_tup hc h hn hst pins s σ H _ u Q I r ⟨_,xs,rfl,a1,a2,a3⟩
  ·cases r
   obtain⟨its,rv,pl,hz⟩:=I.list a1
   refine zy5 (I.ok.hd hc) pl.isList (by simp[hn,← a2,rv.length]) hst fun h' hx=>?_
   have I1:Inv X pins σ H { s with heap:=h' }:=I.kept (t':=s.toks) fun b o e=>hx b o (zcs5 (zcq7 e)) e
   exact h pins _ σ H xs _ Q I1 (by simpa using rv) a3
 ·exact hq.elim
theorem ze3 {K:zcp3}{a:Addr}{n:Nat}{t:TGs}{σ:St}{H:Hp}{Q:St->Hp->Prop}{xs:List V}(h:H a=some (.tup xs)) (q:t xs σ H Q) (e:xs.length=n:=by rfl):rUnpA K a n t σ H Q:=by
 unfold rUnpA;exact⟨xs,.inl (SqT.of h),e,q⟩
end
def Chg2 (a c:Addr) (H H':Hp):Prop:=∀ b o,b≠a->b≠c->H b=some o->H' b=some o
theorem Chg2.trans {a c:Addr}{H H1 H2:Hp}(x:Chg2 a c H H1) (y:Chg2 a c H1 H2):Chg2 a c H H2:=fun b o h1 h2 e=>y b o h1 h2 (x b o h1 h2 e)
theorem Chg2.same {a c:Addr}{H H1 H2:Hp}(x:Chg2 a c H H1) (y:Same H1 H2):Chg2 a c H H2:=fun b o h1 h2 e=>y b o (x b o h1 h2 e)
theorem Chg.toL {a c:Addr}{H H1:Hp}(x:Chg a H H1):Chg2 a c H H1:=fun b o h1 _ e=>x b o h1 e
theorem Chg.toR {a c:Addr}{H H1:Hp}(x:Chg c H H1):Chg2 a c H H1:=fun b o _ h2 e=>x b o h2 e
theorem Same.to2 {a c:Addr}{H H1:Hp}(x:Same H H1):Chg2 a c H H1:=fun b o _ _ e=>x b o e
theorem Chg2.at {a c b:Addr}{o:HO}{H H':Hp}(x:Chg2 a c H H') (e:H b=some o) (h1:b≠a) (h2:b≠c):H' b=some o:=x b o h1 h2 e
def cV (n:Nat) (acc:Addr) (Pv:Nat->List V->St->Hp->Prop):Nat->Nat->List V->St->Hp->Prop:=fun i m ys σ H=>m=n - i/\i<=n/\ys.length<=i/\H acc=some (.lst ys)/\Pv i ys σ H
section
variable {K:zcp3}{g:TG}{tt:TT}{te:TE}{σ0:St}{H1:Hp}{Q:VK}
theorem zx6 {n i m:Nat}{acc:Addr}{Pv:Nat->List V->St->Hp->Prop}{ys:List V}{σ2:St}{v:V}{H5:Hp}(hi:i<n) (hm:m=n - i) (hl:ys.length<=i) (ha:H5 acc=some (.lst ys))
  (q:∀ H6,Chg acc H5 H6->H6 acc=some (.lst (ys++[v]))->Pv (i+1) (ys++[v]) σ2 H6):cPut (cV n acc Pv) acc ys i m σ2 v H5:=by
 unfold cPut
 exact⟨ha,fun H6 hc h6=>⟨n - (i+1),by omega,rfl,by omega,by rw[zcr0,zcw1];omega,h6,q H6 hc h6⟩⟩
theorem zp6 {lo:Int}{n:Nat}(hn:n<sizeLine) (h:∀ acc H2,H1 acc=none->Same H1 H2->H2 acc=some (.lst [])->∃ Pv:Nat->List V->St->Hp->Prop,Pv 0 [] σ0 H2 /\
  (∀ i m ys σ H,i<n->m=n - i->ys.length<=i->H acc=some (.lst ys)->Pv i ys σ H->g (.int (lo+i)) σ H fun σ2 H3=>tt σ2 H3 fun b H4=>br b (te σ2 H4 fun v H5=>cPut (cV n acc Pv) acc ys i m σ2 v H5) (zaj8 (cV n acc Pv) ys i m σ2 H4)) /\
  ∀ ys σ H,H acc=some (.lst ys)->Pv n ys σ H->Q (.ref acc) H):zy1 (Itr lo n) g tt te σ0 H1 Q:=by
 unfold zy1
 intro acc H2 hf hs ha
 obtain⟨Pv,h0,turn,fin⟩:=h acc H2 hf hs ha
 refine⟨cV n acc Pv,⟨n,by simp,zct3 _,zcq9 _,ha,h0⟩,?_⟩
 rintro i m ys σ H ⟨hm,hi,hl,ha',hp⟩
 refine⟨ha',by omega,?_⟩
 by_cases hlt:i<n
 ·refine .inr ⟨hlt,fun x H' y=>?_⟩
  obtain⟨e,y⟩:=y
  subst e y
  exact turn i m ys σ _ hlt hm hl ha' hp
 ·have e:i=n:=by omega
  subst e
  exact .inl ⟨zcq9 _,fin ys σ H ha' hp⟩
end
section
variable {X:Cx}{K:zcp3}
theorem za8 {a b:Expr}{ta tb:TE}{pos:Pos}(hK:X.K=K) (ha:PE X a ta) (hb:PE X b tb) (hs:zay2 b:=by exact fun _ _=>rfl):PE X (.Subscript a b pos) (tOp (rIxM K) ta tb):=by subst hK;exact peIx ha hb hs
theorem zq4 (hK:X.K=K):zn5 X (.builtin "len") (rLenM K):=by subst hK;exact cLen
theorem zaf1 (hK:X.K=K):zn5 X (.builtin "isinstance") (rIsiM K):=by subst hK;exact cIsi
theorem zbq8 (hK:X.K=K) (hc:X.calm=true):zn5 X (.builtin "sum") (rSumM K):=by subst hK;exact cSum hc
theorem zam9 (hK:X.K=K) (hc:X.calm=true):zn5 X (.builtin "all") (rAllM K):=by subst hK;exact cAll hc
theorem oEqK (hK:X.K=K) (hu:X.A.units+40<cLine):OpR X (compareOp .Eq) (rEqM K):=by subst hK;exact oEq hu
theorem oNeK (hK:X.K=K) (hu:X.A.units+40<cLine):OpR X (compareOp .NotEq) (rNeM K):=by subst hK;exact oNe hu
theorem zi0 {tg l:Expr}{tl:TE}(hK:X.K=K) (hl:PE X l tl):PI X tg l (qiSeq K tl):=by subst hK;exact piSeq hl
theorem zl5 {pos:Pos}{es:List Expr}{k:Nat}{t:TGs}{n:Nat}(hK:X.K=K) (hc:X.calm=true) (h:PGs X es t)
  (hn:(assignEach es X.env).length=n:=by rfl) (hst:(assignEach es X.env).findIdx? (·.1)=none:=by rfl):PG X (.Tuple es k pos) (qgAny K n t):=by subst hK;exact pgAny hc h hn hst
end
end L2
set_option maxHeartbeats 2000000
namespace L2
open PySem PySem.Spec PyProof.Rows
def Ite (K:zcp3) (a:Addr):It:=
 ⟨fun i H=>∃ xs x,SqL K H a xs/\xs[i]?=some x,fun i H v H'=>∃ p y,v=.ref p/\H p=none/\Same H H'/\H' p=some (.tup [.int i,y])/\∀ xs,SqL K H a xs->xs[i]?=some y,fun i H=>∃ xs,SqL K H a xs/\xs.length<=i⟩
theorem zbl3 {P:Program}{w:World}{K:zcp3}{elts:List Expr}{k:Nat}{pos:Pos}(a it e:Addr) (hne:e≠it):Turn P w K (.Tuple elts k pos) (Ite K a) [it,e] e (fun i h=>(∃ old,IsEnum h e it i old)/\h.IsListIter it a i) where
 mem:=by simp
 obj:=fun i h st b hb=>by
  obtain⟨⟨old,he⟩,o,e1,c,d⟩:=st
  rcases zcq6.mp hb with rfl|hb
  ·exact⟨o,e1,fun v z=>by rw[d] at z;cases z⟩
  ·have:b=e:=by simpa using hb
   subst this
   exact⟨_,he,fun v z=>by cases z⟩
 keep:=fun i h h' st kp=>by
  obtain⟨⟨old,he⟩,hi⟩:=st
  exact⟨⟨old,kp e (by simp) _ he⟩,hi.at fun o x=>kp it (by simp) o x⟩
 item:=by
  intro X hP hw hK hc i pins s σ H E I hf st hg
  subst hP hw hK
  obtain⟨⟨old,he⟩,hit⟩:=st
  obtain⟨xs,x,hq,hx⟩:=hg
  obtain⟨its,rv,p,hz⟩:=I.list hq
  obtain⟨u,hu,ru⟩:=rv.get hx
  obtain⟨f0,f1,f2,f3,f4,f5⟩:=hf it (by simp)
  obtain⟨g0,g1,g2,g3,g4,g5⟩:=hf e (by simp)
  refine wpAny_pyNext_enum_item he hit p.isList (x:=u) (by simpa using hu) hne fun h1 heo hit1 ht1 hz1 hk1=>?_
  refine⟨_,rfl,wpAny_letOwnedTupleGo_enum heo fun h2 he2 hs2=>?_⟩
  replace hs2:Heap.SameBut e h1 h2:=hs2
  have hel:e<s.heap.objs.size:=zcq7 he
  have kp:∀ b o,b ∉ [it,e]->s.heap.get? b=some o->h2.get? b=some o:=fun b o hb x=>by
   have b1:b≠it:=fun z=>hb (by simp[z])
   have b2:b≠e:=fun z=>hb (by simp[z])
   exact (hs2.2 b b2).trans (hk1 b o b2 b1 x)
  have ht2:h2.get? s.heap.objs.size=some { cls:=.type "tuple",data:=.seq #[.int i s.toks,u] }:=(hs2.2 _ (zcw3 hel)).trans ht1
  have hfr:H s.heap.objs.size=none:=I.fresh
  have nof:∀ b v,H b=some v->b ∉ [it,e]:=fun b v hb z=>by
   rcases zcq6.mp z with rfl|z
   ·rw[f0] at hb;cases hb
   ·have:b=e:=by simpa using z
    subst this
    rw[g0] at hb;cases hb
  have nlt:∀ b o,s.heap.get? b=some o->b≠s.heap.objs.size:=fun b o x=>zcs5 (zcq7 x)
  have hok:HOk X.prog X.w (upd H s.heap.objs.size (.tup [.int i,x])) h2:=fun b v hb=>by
   by_cases e1:b=s.heap.objs.size
   ·subst e1
    rw[zc2] at hb
    cases hb
    exact⟨by show 2<=sizeLine;decide,[.int i s.toks,u],.cons ⟨_,rfl⟩ (.cons ru .nil),⟨_,ht2,rfl,_,rfl⟩⟩
   ·rw[zc0 e1] at hb
    refine (I.hok b v hb).stay (fun c w' hc q=>?_) (fun c q=>?_) (fun c ys q=>?_)
    ·rcases hc with rfl|hc
     ·exact kp _ _ (nof _ _ hb) q
     ·exact kp _ _ (nof _ _ hc) q
    ·rw[zc0 (za6 q hfr)];exact q
    ·rw[zc0 (za6 q hfr)];exact q
  have chs:∀ b∈[it,e],(b∈X.ex∨X.s₀.heap.objs.size<=b)/\b≠X.env.locals/\(∀ x c,X.env.cells.lookup x=some c->c≠b)/\∀ p∈X.pn++pins,p.1≠b:=fun b hb=>by
   rcases zcq6.mp hb with rfl|hb
   ·exact⟨f3,f1,f4,f5⟩
   ·have:b=e:=by simpa using hb
    subst this
    exact⟨g3,g1,g4,g5⟩
  have I2:Inv X pins σ (upd H s.heap.objs.size (.tup [.int i,x])) { s with heap:=h2,toks:=s.toks+1 }:=
   I.step (g':=s.gens) (d':=s.drawn) (t':=s.toks+1) (ch:=[it,e]) chs (fun b o _ _ hb x _=>kp b o hb x) (fun b o _ _ hb x _=>⟨o.slots,kp b o hb x⟩)
    (fun b o _ x n=>by rw[zc0 (nlt b o x)];exact n) (fun b o hb x=>⟨o,kp b o hb x⟩) (fun b ys q=>by rw[zc0 (za6 q hfr)];exact q) (fun b o v q=>by rw[zc0 (za6 q hfr)];exact q)
    (fun b ps q=>⟨#[],by rw[zc0 (za6 q hfr),q];simp⟩)
    (fun m hm=>by
     obtain⟨o,es,ep,ho,r⟩:=hm
     exact⟨o,es,ep,kp _ o (fun z=>by
      rcases zcq6.mp z with z|z
      ·exact f1 z.symm
      ·exact g1 (by simpa using z:X.env.locals=e).symm) ho,r⟩) hok I.bare
  have hi1:h2.IsListIter it a (i+1):=hit1.extBut hs2.extBut (Ne.symm hne)
  have he3:IsEnum h2 e it ((i+1:Nat):Int) u:=by
   have:((i+1:Nat):Int)=(i:Int)+1:=by push_cast;rfl
   rw[this];exact he2
  refine⟨.ref s.heap.objs.size,_,I2,rfl,⟨_,x,rfl,hfr,Same.upd hfr,zc2,fun ys hy=>by rw[I.list_inj hy hq];exact hx⟩,⟨⟨u,he3⟩,hi1⟩,fun b hb=>?_⟩
  have hb0:H b=none:=(hf b hb).1
  have hlt:b≠s.heap.objs.size:=by
   rcases zcq6.mp hb with rfl|hb
   ·obtain⟨o,ho,_⟩:=hit;exact nlt _ _ ho
   ·have:b=e:=by simpa using hb
    subst this
    exact zcs5 hel
  rw[zc0 hlt];exact hb0
 done:=by
  intro X hP hw hK hc i pins s σ H E I hf st hg
  subst hP hw hK
  obtain⟨⟨old,he⟩,hit⟩:=st
  obtain⟨xs,hq,hx⟩:=hg
  obtain⟨its,rv,p,hz⟩:=I.list hq
  obtain⟨f0,f1,f2,f3,f4,f5⟩:=hf it (by simp)
  have hl:=rv.length
  exact wpAny_pyNext_enum_end (I.ok.hd hc) he hit p.isList (by simp;omega) fun h' eb=>⟨rfl,I.turned (t':=s.toks) (fun b o hb e=>eb b o hb e) f0 f1 f3 f4 f5⟩
 self:=fun _ _ _ _ _ st h=>by
  obtain⟨⟨old,he⟩,_⟩:=st
  exact wpAny_pyIter_enum he h
section
variable {X:Cx}{K:zcp3}
theorem zau7:bootBuiltins "enumerate"=some (.type "enumerate"):=by decide +kernel
@[irreducible] def rEnum (K:zcp3) (a:Addr) (H:Hp) (R:It->Hp->Prop):Prop:=(∃ xs,SqL K H a xs)/\R (Ite K a) H
def zca3 (K:zcp3) (ta:TA):TI:=fun σ H R=>ta σ H fun vs H1=>match vs with
 | [.ref a]=>rEnum K a H1 R
 | _=>False
theorem piEnum {elts:List Expr}{k:Nat}{pt:Pos}{a:Expr}{ta:TA}{p pos:Pos}(hm:X.mg "enumerate"=none) (ha:PA X [a] ta) (hg:Gl X "enumerate":=by rfl) (hs:starEach [a] X.env=[(false,eval a X.env)]:=by rfl) :
  PI X (.Tuple elts k pt) (.Call (.Name "enumerate" p) [a] [] pos) (zca3 X.K ta):=by
 intro pins s σ H R I h
 refine Call_ (zaa0 I hg hm zau7 (PyProof.Rows.callWith_type1 (thn (ha pos pins s σ H _ I h) fun us s1 ⟨vs,H1,I1,r1,q1⟩=>?_) hs rfl))
 dsimp only at q1
 split at q1
 ·rename_i l
  unfold rEnum at q1
  obtain⟨⟨xs,hq⟩,q⟩:=q1
  obtain⟨u,rfl,rx⟩:=zaa4 r1
  cases rx
  obtain⟨its,rv,pl,hz⟩:=I1.list hq
  refine call_enumerate_list pl.isList fun h' he hit hsz hk=>?_
  refine wpAny_pyIter_enum he ?_
  have I2:Inv X pins σ H1 { s1 with heap:=h' }:=I1.kept (t':=s1.toks) hk
  refine⟨s1.heap.objs.size+1,[s1.heap.objs.size,s1.heap.objs.size+1],_,Ite X.K l,H1,rfl,I2,zbl3 l _ _ (Nat.succ_ne_self _),⟨⟨_,he⟩,hit⟩,fun b hb=>?_,q⟩
  have hb':s1.heap.objs.size<=b:=by
   rcases zcq6.mp hb with rfl|hb
   ·exact zcq9 _
   ·have:b=s1.heap.objs.size+1:=by simpa using hb
    subst this
    exact zcv7 _
  exact I1.fpOk hb' (I1.hok.fresh hb')
 ·exact q1.elim
theorem zax1 {elts:List Expr}{k:Nat}{pt:Pos}{a:Expr}{ta:TA}{p pos:Pos}(hK:X.K=K) (hm:X.mg "enumerate"=none) (ha:PA X [a] ta) (hg:Gl X "enumerate":=by rfl) (hs:starEach [a] X.env=[(false,eval a X.env)]:=by rfl) :
  PI X (.Tuple elts k pt) (.Call (.Name "enumerate" p) [a] [] pos) (zca3 K ta):=by subst hK;exact piEnum hm ha hg hs
end
section
variable {K:zcp3}{g:TG}{tb:TS}{D:Ends}{σ:St}{H:Hp}{R:It->Hp->Prop}
theorem zae7 {a:Addr}{xs:List V}(h:H a=some (.lst xs)) (q:R (Ite K a) H):rEnum K a H R:=by unfold rEnum;exact⟨⟨xs,SqL.of h⟩,q⟩
theorem zs7 {a:Addr}{xs:List V}(Pv:Nat->St->Hp->Prop) (h0:Pv 0 σ H) (hl:∀ i σ H,i<=xs.length->Pv i σ H->SqL K H a xs)
  (hs:∀ i y σ H p H',xs[i]?=some y->Pv i σ H->H p=none->Same H H'->H' p=some (.tup [.int i,y])->g (.ref p) σ H' fun σ2 H2=>tb { D with nx:=Pv (i+1),ct:=Pv (i+1),bk:=D.nx } σ2 H2) (hd:∀ σ H,Pv xs.length σ H->D.nx σ H):zah4 (Ite K a) g tb D σ H:=by
 unfold zah4
 refine⟨fun i m σ H=>m=xs.length - i/\i<=xs.length/\Pv i σ H,⟨xs.length,by simp,zct3 _,h0⟩,?_⟩
 rintro i m σ H ⟨rfl,hi,p⟩
 have q:=hl i σ H hi p
 by_cases hlt:i<xs.length
 ·refine .inr ⟨⟨xs,xs[i],q,by simp[hlt]⟩,Pv (i+1),fun σ' H' p'=>⟨xs.length - (i+1),by omega,rfl,hlt,p'⟩,fun x H' y=>?_⟩
  obtain⟨pp,yy,rfl,y1,y2,y3,y4⟩:=y
  exact hs i yy σ H pp H' (y4 xs q) p y1 y2 y3
 ·have e:i=xs.length:=by omega
  subst e
  exact .inl ⟨⟨xs,q,zcq9 _⟩,hd σ H p⟩
end
section
variable {K:zcp3}{g:TG}{tt:TT}{te:TE}{σ0:St}{H1:Hp}{Q:VK}
end
section
variable {X:Cx}{K:zcp3}
end
end L2
set_option maxHeartbeats 2000000
namespace L2
open PySem PySem.Spec PyProof.Rows
theorem zab0 {xs:List V}{k:Int}(h:0<=k):cutV xs (some k) none=xs.drop k.toNat:=by
 show List.take (xs.length - (if k<0 then (k+(xs.length:Int)).toNat else min k.toNat xs.length)) (List.drop (if k<0 then (k+(xs.length:Int)).toNat else min k.toNat xs.length) xs)=_
 rw[if_neg (by omega)]
 by_cases hk:k.toNat<=xs.length
 ·rw[Nat.min_eq_left hk,zcw0 (by rw[zcv2];omega)]
 ·rw[Nat.min_eq_right (by omega),zcw7 (by omega),zcw7 (by omega),List.take_nil]
theorem zag0 {xs:List V}{k:Int}(h:0<=k):cutV xs none (some k)=xs.take k.toNat:=by
 show List.take ((if k<0 then (k+(xs.length:Int)).toNat else min k.toNat xs.length) - 0) (List.drop 0 xs)=_
 rw[if_neg (by omega),List.drop_zero,Nat.sub_zero]
 by_cases hk:k.toNat<=xs.length
 ·rw[Nat.min_eq_left hk]
 ·rw[Nat.min_eq_right (by omega),zcw0 (zcq9 _),zcw0 (by omega)]
def rowV (n:Nat) (r:Nat->Int):List V:=(List.range n).map fun t=>V.int (r t)
theorem zl1 (n:Nat) (r:Nat->Int):(rowV n r).length=n:=by unfold rowV;simp
theorem zg1 {n:Nat}{r:Nat->Int}{i:Nat}(h:i<n):(rowV n r)[i]?=some (.int (r i)):=by unfold rowV;simp[h]
theorem zab1 {n:Nat}{r s:Nat->Int}(h:∀ t,t<n->r t=s t):rowV n r=rowV n s:=by
 unfold rowV
 refine zcr2 fun t ht=>?_
 rw[h t (zcu0.mp ht)]
theorem zbr6 (n:Nat) (r:Nat->Int):rowV (n+1) r=rowV n r++[.int (r n)]:=by unfold rowV;rw[List.range_succ,zcr5];rfl
theorem zbs1 {n:Nat}{r:Nat->Int}{j:Nat}{v:Int}:(rowV n r).set j (.int v)=rowV n fun t=>if t=j then v else r t:=by
 apply zcu7
 intro i
 rw[List.getElem?_set]
 by_cases hi:i<n
 ·rw[zg1 hi,zg1 hi]
  by_cases hj:j=i
  ·subst hj;simp[zl1,hi]
  ·simp[hj,Ne.symm hj]
 ·have e:∀ r:Nat->Int,(rowV n r)[i]?=none:=fun r=>by simp[zl1];omega
  rw[e,e]
  split
  ·simp[zl1];omega
  ·rfl
theorem zar2 (n:Nat) (r:Nat->Int):rowV n r=((List.range n).map r).map V.int:=by unfold rowV;rw[zcs9];rfl
theorem ref_at {ps:List Addr}{i:Int}{p:Addr}(h0:0<=i) (h:ps[i.toNat]?=some p):atI (ps.map V.ref) i=some (.ref p):=by
 have:=zc5 (xs:=ps.map V.ref) (j:=i.toNat) (v:=.ref p) (by rw[zcp5,h];rfl)
 rw[show ((i.toNat:Nat):Int)=i by omega] at this
 exact this
theorem int_at {ns:List Int}{i:Int}{n:Int}(h0:0<=i) (h:ns[i.toNat]?=some n):atI (ns.map V.int) i=some (.int n):=by
 have:=zc5 (xs:=ns.map V.int) (j:=i.toNat) (v:=.int n) (by rw[zcp5,h];rfl)
 rw[show ((i.toNat:Nat):Int)=i by omega] at this
 exact this
theorem zay8 {xs:List V}{v:V}{n:Nat}(h:xs.length=n+1) (e:xs[n]?=some v):atI xs (-1)=some v:=by
 unfold atI ixN
 rw[if_neg (by decide),if_pos (by omega)]
 show xs[((-1:Int)+xs.length).toNat]?=_
 rw[show ((-1:Int)+xs.length).toNat=n by omega];exact e
structure zf1 (H:Hp) (a:Addr) (ps:List Addr) (n h:Nat) (g:Nat->Nat->Int):Prop where
 out:H a=some (.lst (ps.map V.ref))
 len:ps.length=n
 row:∀ (i:Nat) (p:Addr),ps[i]?=some p->H p=some (.lst (rowV h (g i)))
theorem zf1.same {H H':Hp}{a:Addr}{ps:List Addr}{n h:Nat}{g:Nat->Nat->Int}(G:zf1 H a ps n h g) (s:Same H H'):zf1 H' a ps n h g:=⟨s _ _ G.out,G.len,fun i p e=>s _ _ (G.row i p e)⟩
theorem zf1.ext {H:Hp}{a:Addr}{ps:List Addr}{n h:Nat}{g g':Nat->Nat->Int}(G:zf1 H a ps n h g) (e:∀ i t,i<n->t<h->g i t=g' i t):zf1 H a ps n h g':=
 ⟨G.out,G.len,fun i p q=>by rw[G.row i p q];rw[zab1 fun t ht=>e i t (by have:=(zcp4.mp q).1;have:=G.len;omega) ht]⟩
theorem zf1.some {H:Hp}{a:Addr}{ps:List Addr}{n h:Nat}{g:Nat->Nat->Int}(G:zf1 H a ps n h g) {i:Nat}(hi:i<n):∃ p,ps[i]?=.some p/\H p=.some (.lst (rowV h (g i))):=by
 have hl:i<ps.length:=by rw[G.len];exact hi
 exact⟨ps[i],zcp1 hl,G.row i _ (zcp1 hl)⟩
structure Wk (J:It) (n:Nat) (H1:Hp) (X:Nat->V->Hp->Prop):Prop where
 go:∀ i H,Same H1 H->i<n->J.go i H
 stop:∀ H,Same H1 H->J.stop n H
 yld:∀ i H x H',Same H1 H->i<n->J.yld i H x H'->Same H H'/\X i x H'
theorem Wk.range {lo:Int}{n:Nat}{H1:Hp}:Wk (Itr lo n) n H1 fun i x _=>x=.int (lo+i):=
 ⟨fun i H _ h=>h,fun H _=>zcq9 _,fun i H x H' _ _ y=>by obtain⟨rfl,rfl⟩:=y;exact⟨Same.refl _,rfl⟩⟩
theorem Wk.list {K:zcp3}{a:Addr}{xs:List V}{H1:Hp}(h:SqL K H1 a xs):Wk (Itl K a) xs.length H1 fun i x _=>xs[i]?=some x:=
 ⟨fun i H s hi=>⟨xs,xs[i],s.seq h,by simp[hi]⟩,fun H s=>⟨xs,s.seq h,zcq9 _⟩,fun i H x H' s _ y=>by
  obtain⟨e,y⟩:=y
  subst e
  exact⟨Same.refl _,y xs (s.seq h)⟩⟩
structure zba2 (H1 H:Hp) (acc:Addr) (ps:List Addr) (n:Nat) (f:Nat->HO):Prop where
 facc:H1 acc=none
 same:Same H1 H
 out:H acc=some (.lst (ps.map V.ref))
 len:ps.length=n
 nd:ps.Nodup
 nin:acc ∉ ps
 row:∀ i p,ps[i]?=some p->H1 p=none/\H p=some (f i)
theorem zba2.some {H1 H:Hp}{acc:Addr}{ps:List Addr}{n:Nat}{f:Nat->HO}(F:zba2 H1 H acc ps n f) {i:Nat}(hi:i<n):∃ p,ps[i]?=.some p/\H p=.some (f i):=by
 have hl:i<ps.length:=by rw[F.len];exact hi
 exact⟨ps[i],zcp1 hl,(F.row i _ (zcp1 hl)).2⟩
section
variable {K:zcp3}{g:TG}{tt:TT}{te:TE}{σ0:St}{H1:Hp}{Q:VK}{J:It}{n:Nat}{X:Nat->V->Hp->Prop}
theorem zaj0 (w:Wk J n H1 X) (hn:n<sizeLine) (f:Nat->HO) (Ps:Nat->St->Prop) (h0:Ps 0 σ0)
  (turn:∀ i x σ H (R:St->V->Hp->Prop) (S:St->Hp->Prop),i<n->Same H1 H->X i x H->Ps i σ->(∀ σ2 p H5,H p=none->Same H H5->H5 p=some (f i)->Ps (i+1) σ2->R σ2 (.ref p) H5)->g x σ H fun σ2 H3=>tt σ2 H3 fun b H4=>br b (te σ2 H4 fun v H5=>R σ2 v H5) (S σ2 H4))
  (fin:∀ acc ps H,zba2 H1 H acc ps n f->Q (.ref acc) H):zy1 J g tt te σ0 H1 Q:=by
 unfold zy1
 intro acc H2 hf hs ha
 refine⟨fun i m ys σ H=>m=n - i/\i<=n/\∃ ps:List Addr,ys=ps.map V.ref/\zba2 H1 H acc ps i f/\Ps i σ,⟨n,by simp,zct3 _,[],rfl,⟨hf,hs,ha,rfl,List.nodup_nil,by simp,fun i p e=>by simp at e⟩,h0⟩,?_⟩
 rintro i m ys σ H ⟨rfl,hi,ps,rfl,F,P⟩
 refine⟨F.out,by rw[zcp2,F.len];omega,?_⟩
 by_cases hlt:i<n
 ·refine .inr ⟨w.go i H F.same hlt,fun x H' y=>?_⟩
  obtain⟨s1,x1⟩:=w.yld i H x H' F.same hlt y
  refine turn i x σ H' (fun σ2 v H5=>cPut _ acc (ps.map V.ref) i (n - i) σ2 v H5) (fun σ2 H4=>zaj8 _ (ps.map V.ref) i (n - i) σ2 H4) hlt (F.same.trans s1) x1 P ?_
  intro σ2 p H5 fp s5 hp P2
  have fp0:H p=none:=s1.free fp
  have s15:=s1.trans s5
  have na:p≠acc:=Ne.symm (za6 F.out fp0)
  unfold cPut
  refine⟨s15 _ _ F.out,fun H6 c6 h6=>⟨n - (i+1),by omega,rfl,hlt,ps++[p],by rw[zcr5];rfl,⟨F.facc,(F.same.trans s15).chg F.facc c6,by rw[zcr5];exact h6,by rw[zcr0,F.len];rfl,?_,?_,?_⟩,P2⟩⟩
  ·rw[List.nodup_append]
   refine⟨F.nd,by simp,fun a ha b hb=>?_⟩
   have:b=p:=by simpa using hb
   subst this
   obtain⟨k,hk⟩:=zcu9 ha
   exact za6 (F.row k a hk).2 fp0
  ·intro hz
   rcases zct7.mp hz with hz|hz
   ·exact F.nin hz
   ·exact na (by simpa using hz:acc=p).symm
  ·intro k q e
   by_cases hk:k<ps.length
   ·rw[zct0 hk] at e
    obtain⟨z1,z2⟩:=F.row k q e
    exact⟨z1,c6 _ _ (fun z=>F.nin (z▸zcp9 e)) (s15 _ _ z2)⟩
   ·rw[zct2 (by omega)] at e
    have hk2:k - ps.length=0:=by
     have:=(zcp4.mp e).1
     simp at this;omega
    rw[hk2] at e
    have:p=q:=by simpa using e
    subst this
    have:k=i:=by have:=F.len;omega
    subst this
    exact⟨F.same.free fp0,c6 _ _ na hp⟩
 ·have e:i=n:=by omega
  subst e
  exact .inl ⟨w.stop H F.same,fin acc ps H F⟩
theorem zn6 (w:Wk J n H1 X) (hn:n<sizeLine) (f:Nat->V) (p:Nat->Bool) (Ps:Nat->St->Prop) (h0:Ps 0 σ0)
  (turn:∀ i x σ H (R:St->V->Hp->Prop) (S:St->Hp->Prop),i<n->Same H1 H->X i x H->Ps i σ->(p i=true->∀ σ2 H5,Same H H5->Ps (i+1) σ2->R σ2 (f i) H5)->(p i=false->∀ σ2 H5,Same H H5->Ps (i+1) σ2->S σ2 H5) ->
   g x σ H fun σ2 H3=>tt σ2 H3 fun b H4=>br b (te σ2 H4 fun v H5=>R σ2 v H5) (S σ2 H4))
  (fin:∀ acc H,H1 acc=none->Same H1 H->H acc=some (.lst (((List.range n).filter p).map f))->Q (.ref acc) H):zy1 J g tt te σ0 H1 Q:=by
 unfold zy1
 intro acc H2 hf hs ha
 refine⟨fun i m ys σ H=>m=n - i/\i<=n/\ys=((List.range i).filter p).map f/\Same H1 H/\H acc=some (.lst ys)/\Ps i σ,⟨n,by simp,zct3 _,rfl,hs,ha,h0⟩,?_⟩
 rintro i m ys σ H ⟨rfl,hi,rfl,s,hy,P⟩
 have hlen:(((List.range i).filter p).map f).length<=i:=by
  rw[zcp2]
  have:=List.length_filter_le p (List.range i)
  rwa [zcr3] at this
 refine⟨hy,by omega,?_⟩
 by_cases hlt:i<n
 ·refine .inr ⟨w.go i H s hlt,fun x H' y=>?_⟩
  obtain⟨s1,x1⟩:=w.yld i H x H' s hlt y
  refine turn i x σ H' (fun σ2 v H5=>cPut _ acc _ i (n - i) σ2 v H5) (fun σ2 H4=>zaj8 _ _ i (n - i) σ2 H4) hlt (s.trans s1) x1 P ?_ ?_
  ·intro hp σ2 H5 s5 P2
   unfold cPut
   refine⟨s5 _ _ (s1 _ _ hy),fun H6 c6 h6=>⟨n - (i+1),by omega,rfl,hlt,?_,((s.trans s1).trans s5).chg hf c6,h6,P2⟩⟩
   rw[List.range_succ,List.filter_append,zcr5]
   congr 1
   simp[hp]
  ·intro hp σ2 H5 s5 P2
   unfold zaj8
   refine⟨n - (i+1),by omega,rfl,hlt,?_,(s.trans s1).trans s5,s5 _ _ (s1 _ _ hy),P2⟩
   rw[List.range_succ,List.filter_append,zcr5]
   simp[hp]
 ·have e:i=n:=by omega
  subst e
  exact .inl ⟨w.stop H s,fin acc H hf s hy⟩
theorem ze4 (n:Nat):(List.range n).filter (fun _=>true)=List.range n:=by simp
end
def ChgS (ps:List Addr) (H H':Hp):Prop:=∀ b o,b ∉ ps->H b=some o->H' b=some o
theorem ChgS.same {ps:List Addr}{H H1 H2:Hp}(x:ChgS ps H H1) (y:Same H1 H2):ChgS ps H H2:=fun b o h e=>y b o (x b o h e)
theorem zbv5 (n:Nat):(List.range n).all (fun _=>true)=true:=by simp
end L2
set_option maxHeartbeats 2000000
namespace L2
open PySem PySem.Spec PyProof.Rows
def Itd (hi:Int) (n:Nat):It:=⟨fun i _=>i<n,fun i H x H'=>H'=H/\x=.int (hi - i),fun i _=>n<=i⟩
theorem zaz6 {P:Program}{w:World}{K:zcp3}{tg:Expr}(it:Addr) (lo:Int) (n:Nat):Turn P w K tg (Itd lo n) [it] it (fun i h=>IsRangeIter h it (lo+(i:Nat)*(-1)) ((n:Int) - (i:Nat)) (-1)) where
 mem:=by simp
 obj:=fun i h st b hb=>by
  have e:b=it:=by simpa using hb
  subst e
  exact⟨_,st,fun v z=>by
   have z':Data.fields _=Data.cell v:=z
   cases z'⟩
 keep:=fun i h h' st k=>k it (by simp) _ st
 item:=by
  intro X hP hw hK hc i pins s σ H E I hf st hg
  subst hP hw hK
  obtain⟨f0,f1,f2,f3,f4,f5⟩:=hf it (by simp)
  have W:=Walks.range (prog:=X.prog) (w:=X.w) (I.ok.hd hc) it lo (-1) n
  refine W.item i s _ _ hg st fun v h' tk hv st' kk=>?_
  obtain⟨t,rfl⟩:=hv
  have I1:Inv X pins σ H { s with heap:=h',toks:=tk }:=I.turned (fun b o hb e=>kk b o (by simpa using hb) e) f0 f1 f3 f4 f5
  refine⟨_,rfl,go_of (s:={ s with heap:=h',toks:=tk }) (n:="range_iterator") st' rfl rfl (by decide) ⟨.int (lo - i),H,I1,⟨t,?_⟩,⟨rfl,rfl⟩,st',fun b hb=>(hf b hb).1⟩⟩
  rw[show lo+(i:Int)*(-1)=lo - i by omega]
 done:=by
  intro X hP hw hK hc i pins s σ H E I hf st hg
  subst hP hw hK
  obtain⟨f0,f1,f2,f3,f4,f5⟩:=hf it (by simp)
  exact wpAny_pyNext_range_end (I.ok.hd hc) st (by have:n<=i:=hg;omega) fun h' eb=>⟨rfl,I.turned (t':=s.toks) (fun b o hb e=>eb b o hb e) f0 f1 f3 f4 f5⟩
 self:=fun _ _ _ _ _ st h=>wpAny_pyIter_rangeiter st h
section
variable {X:Cx}{tg:Expr}
@[irreducible] def zcb1 (i j:Int) (H:Hp) (R:It->Hp->Prop):Prop:=(-(2 ^ 62)<=i/\i<2 ^ 62/\-(2 ^ 62)<=j/\j<2 ^ 62)/\R (Itd i (i - j).toNat) H
def qiRngD (ta:TA):TI:=fun σ H R=>ta σ H fun vs H1=>match vs with
 | [.int i,.int j,.int (-1)]=>zcb1 i j H1 R
 | _=>False
end
section
variable {K:zcp3}{g:TG}{tb:TS}{D:Ends}{σ:St}{H:Hp}{R:It->Hp->Prop}
theorem zaw0 {hi:Int}{n:Nat}(Pv:Nat->St->Hp->Prop) (h0:Pv 0 σ H)
  (hs:∀ i σ H,i<n->Pv i σ H->g (.int (hi - i)) σ H fun σ2 H2=>tb { D with nx:=Pv (i+1),ct:=Pv (i+1),bk:=D.nx } σ2 H2) (hd:∀ σ H,Pv n σ H->D.nx σ H):zah4 (Itd hi n) g tb D σ H:=by
 unfold zah4
 refine⟨fun i m σ H=>m=n - i/\i<=n/\Pv i σ H,⟨n,by simp,zct3 _,h0⟩,?_⟩
 rintro i m σ H ⟨rfl,hi',p⟩
 by_cases hlt:i<n
 ·refine .inr ⟨hlt,Pv (i+1),fun σ' H' p'=>⟨n - (i+1),by omega,rfl,hlt,p'⟩,fun x H' y=>?_⟩
  obtain⟨rfl,rfl⟩:=y
  exact hs i σ _ hlt p
 ·have e:i=n:=by omega
  subst e
  exact .inl ⟨zcq9 _,hd σ H p⟩
end
section
variable {X:Cx}{K:zcp3}
@[irreducible] def rMinL (K:zcp3) (p:Addr) (H:Hp) (Q:VK):Prop:=∃ ns:List Int,SqL K H p (ns.map V.int)/\0<ns.length/\∀ M:Int,M∈ns->(∀ a∈ns,M<=a)->Q (.int M) H
def zbx7 (K:zcp3):List V->Hp->VK->Prop:=fun xs H Q=>match xs with
 | [.ref p]=>rMinL K p H Q
 | [.int i,.int j]=>Q (.int (if j<i then j else i)) H
 | _=>False
theorem cMinK (hK:X.K=K) (hc:X.calm=true):zn5 X (.builtin "min") (zbx7 K):=by
 subst hK
 intro pins s σ H xs us Q I r h
 unfold zbx7 at h
 split at h
 ·unfold rMinL at h
  obtain⟨ns,h1,h2,h3⟩:=h
  obtain⟨u,rfl,rx⟩:=zaa4 r
  cases rx
  obtain⟨its,r',pl,hz⟩:=I.list h1
  have hi:=zz2 r'
  obtain⟨ys,hx⟩:=hi.allInts.items
  have e1:ns=ys.toList.map (·.1):=by
   rw[← nums_intItems,← hx]
   exact (show numsOf its.toArray.toList=ns from hi.numsOf).symm
  have hs:0<ys.size:=by
   have z:ns.length=ys.size:=by
    conv=>lhs;rw[e1]
    rw[zcp2,Array.length_toList]
   omega
  have hl':s.heap.IsList _ (intItems ys):=hx▸pl.isList
  refine min_intList (I.ok.hd hc) hl' hs fun v h' tk hv hk=>?_
  obtain⟨t,rfl⟩:=intItems_at hv
  have best:=argBest_lt (numAt ys) (ys.size - 1)
  refine⟨.int _,H,I.kept hk,⟨t,rfl⟩,h3 _ ?_ fun a ha=>?_⟩
  ·rw[e1,numAt_eq]
   exact getD_mem (by rw[zcp2,Array.length_toList];omega)
  ·rw[e1] at ha
   obtain⟨j,hj,rfl⟩:=mem_getD ha
   rw[zcp2,Array.length_toList] at hj
   rw[← numAt_eq]
   exact best.2 j (by omega)
 ·exact zbk3 hc pins s σ H _ us Q I r ⟨_,_,rfl,h⟩
 ·exact h.elim
theorem zcf9 {p:Addr}{H:Hp}{Q:VK}{ns:List Int}(h:SqL K H p (ns.map V.int)) (h0:0<ns.length) (q:∀ M:Int,M∈ns->(∀ a∈ns,M<=a)->Q (.int M) H):rMinL K p H Q:=by unfold rMinL;exact⟨ns,h,h0,q⟩
theorem ptW {e:Expr}{t:TT}(h:PW X e t):PT X e t:=h.pt
end
end L2
set_option maxHeartbeats 2000000
namespace L2
open PySem PySem.Spec PyProof.Rows
def ExAt (B h:Heap) (e:Addr) (cls:Value) (dx:Option Addr):Prop:=
 ∃ (oe:Obj) (vs:Array Value),h.get? e=some oe/\oe.cls=cls/\oe.dict=dx/\oe.data=.fields vs/\1<vs.size /\
  (vs[1]?=some .none∨∃ (T:Addr) (oT:Obj) (ts:Array Value),vs[1]?=some (.ref T)/\B.get? T=none/\T≠e/\h.get? T=some oT/\oT.data=.fields ts/\3<ts.size/\ts[3]?=some .none)
def Th (h h':Heap):Prop:=∀ b o,h.get? b=some o->∃ o',h'.get? b=some o'
structure FlyX (B:Heap) (l:List Env) (e:Addr) (cls:Value) (dx:Option Addr) (h:Heap):Prop where
 stays:B.StaysIn h
 new:B.get? e=none
 frames:h.FunFrames B l
 ex:ExAt B h e cls dx
section
variable {M:Model}{A:Around}{E:Value->Shared->Prop}{s:Shared}{B:Heap}{env:Env}{outer:List Env}{L e:Addr}{cls:Value}{dx:Option Addr}{Q:Unit->Shared->Prop}
theorem zaf7 (f:Array Value->Array Value) (o:Obj):(Obj.mapFields f o).cls=o.cls/\(Obj.mapFields f o).dict=o.dict:=by
 obtain⟨c,d,dt,sl⟩:=o
 cases dt<;>exact⟨rfl,rfl⟩
theorem zau5 {head:Value}{hn:Bool}{oe:Obj}{vs:Array Value}(hfr:A.frames=some (env :: outer)) (hf:env.frame=some L) (f1:B.StaysIn s.heap) (f2:B.get? e=none) (f3:s.heap.FunFrames B (env :: outer))
  (he:s.heap.get? e=some oe) (hc:oe.cls=cls) (hdx:oe.dict=dx) (hd:oe.data=.fields vs) (hsz:1<vs.size)
  (hQ:∀ h',FlyX B (env :: outer) e cls dx h'->s.heap.UpToSlots h'->Th s.heap h'->Q () { s with heap:=h' }) :
  wpAny M A (do let a ← frameOf env;let pl ← entryPlaceOf L hn;let b ← EntryCells.newEntry head a .none (rawInt L) .none pl;setField (.ref e) 1 b) (fun _ s1=>wpAny M A (setFlight (.ref e) none) Q E s1) E s:=by
 have hene:e ∉ (env :: outer).filterMap (·.frame):=fun hm=>by
  obtain⟨_,o,ho,hnf⟩:=f3.mem hm
  rw[he] at ho
  cases ho
  exact hnf vs hd
 refine wpAny_bind (wpAny_frameOf_fun hfr f3 hf fun g hg=>wpAny_bind (wpAny_entryPlaceOf fun pl hpl=>?_))
 refine wpAny_bind (wpAny_newObj_type ?_ (hpl.sizeOk5 _ _ _ _ _))
 have e1:g.get? e=some oe:=(hg.2.1 e hene).trans he
 have lt1:=zcq7 e1
 generalize hO:({ cls:=.type "traceback",data:=.fields ([head,.ref L,.none,rawInt L,.none]++(if pl.isEmpty then List.replicate 6 Value.none else pl)).toArray }:Obj)=O
 have hOd:O.data=.fields ([head,.ref L,.none,rawInt L,.none]++(if pl.isEmpty then List.replicate 6 Value.none else pl)).toArray:=by rw[← hO]
 have hOz:3<([head,.ref L,.none,rawInt L,.none]++(if pl.isEmpty then List.replicate 6 Value.none else pl)).toArray.size:=by simp
 have hOf:O.isFreed=false:=by rw[← hO];rfl
 generalize ([head,.ref L,.none,rawInt L,.none]++(if pl.isEmpty then List.replicate 6 Value.none else pl)).toArray=ts at hOd hOz
 have e2:(g.push O).get? e=some oe:=zcp8 _ e1
 have t2:(g.push O).get? g.objs.size=some O:=zcs3 _ hOf
 have nT:g.objs.size≠e:=zcw3 lt1
 refine wpAny_setField e2 hd hsz ?_
 have d3:=Obj.data_mapFields hd (fun a=>a.setIfInBounds 1 (Value.ref g.objs.size))
 have e3:=zcu3 (Obj.mapFields fun a=>a.setIfInBounds 1 (Value.ref g.objs.size)) e2 (Obj.isFreed_of_fields d3)
 have t3:=(zcr7 (g.push O) (Obj.mapFields fun a=>a.setIfInBounds 1 (Value.ref g.objs.size)) (Ne.symm nT)).trans t2
 unfold setFlight
 refine wpAny_bind (wpAny_field e3 d3 (x:=.ref g.objs.size) (by simp[hsz]) ?_)
 rw[if_pos (by simp)]
 refine wpAny_setField t3 hOd hOz (hQ _ ?_ ?_ ?_)
 ·have kp:∀ b o,b≠e->g.get? b=some o->(((g.push O).update e (Obj.mapFields fun a=>a.setIfInBounds 1 (Value.ref g.objs.size))).update g.objs.size (Obj.mapFields fun a=>a.setIfInBounds 3 Value.none)).get? b=some o:=fun b o hb hz=>by
   rw[zcr7 _ _ (zcw3 (zcq7 hz)),zcr7 _ _ (Ne.symm hb)]
   exact zcp8 _ hz
  have d4:=Obj.data_mapFields hOd (fun a=>a.setIfInBounds 3 Value.none)
  have t4:=zcu3 (Obj.mapFields fun a=>a.setIfInBounds 3 Value.none) t3 (Obj.isFreed_of_fields d4)
  have e4:=(zcr7 ((g.push O).update e (Obj.mapFields fun a=>a.setIfInBounds 1 (Value.ref g.objs.size))) (Obj.mapFields fun a=>a.setIfInBounds 3 Value.none) nT).trans e3
  have pf:=zaf7 (fun a=>a.setIfInBounds 1 (Value.ref g.objs.size)) oe
  refine⟨fun b o hb=>kp b o (fun z=>by rw[z,f2] at hb;cases hb) ((hg.2.1 b fun hm=>by rw[(f3.mem hm).1] at hb;cases hb).trans (f1 b o hb)),f2,f3.of_keeps fun b o hb hnf=>?_,_,_,e4,pf.1.trans hc,pf.2.trans hdx,d3,by simpa using hsz,.inr ⟨_,_,_,by simp[hsz],?_,nT,t4,d4,by simpa using hOz,by simp[hOz]⟩⟩
  ·obtain⟨sl,hs⟩:=hg.2.2 b o hb
   refine⟨_,kp b _ (fun z=>?_) hs,rfl⟩
   rw[z,he] at hb
   cases hb
   exact hnf vs hd
  ·cases q:B.get? g.objs.size with
   | none=>rfl
   | some o=>
    have z1:=f1 _ _ q
    have z2:=(hg.2.1 _ fun hm=>by rw[(f3.mem hm).1] at q;cases q).trans z1
    exact absurd (zcq7 z2) (zcv8 _)
 ·intro b o hb hnf
  obtain⟨sl,hs⟩:=hg.2.2 b o hb
  refine⟨sl,?_⟩
  rw[zcr7 _ _ (zcw3 (zcq7 hs)),zcr7 _ _ (fun z=>?_)]
  ·exact zcp8 _ hs
  ·rw[← z,he] at hb
   cases hb
   exact hnf vs hd
 ·intro b o hb
  by_cases hbe:b=e
  ·subst hbe
   exact⟨_,(zcr7 _ _ nT).trans e3⟩
  ·obtain⟨sl,hs⟩:=hg.2.2 b o hb
   refine⟨{ o with slots:=sl },?_⟩
   rw[zcr7 _ _ (zcw3 (zcq7 hs)),zcr7 _ _ (Ne.symm hbe)]
   exact zcp8 _ hs
theorem zbd6 (hfr:A.frames=some (env :: outer)) (hf:env.frame=some L) (F:FlyX B (env :: outer) e cls dx s.heap)
  (hQ:∀ h',FlyX B (env :: outer) e cls dx h'->s.heap.UpToSlots h'->Th s.heap h'->Q () { s with heap:=h' }):wpAny M A (noteFrame (.ref e) env) (fun _ s1=>wpAny M A (setFlight (.ref e) none) Q E s1) E s:=by
 obtain⟨f1,f2,f3,oe,vs,he,hc,hdx,hd,hsz,hT⟩:=F
 unfold noteFrame
 rw[hf]
 rcases hT with h1|⟨T,oT,ts,h1,bT,nT,gT,dT,zT,vT⟩
 ·refine wpAny_bind (wpAny_field he hd h1 ?_)
  dsimp only
  rw[if_neg (by simp)]
  exact zau5 hfr hf f1 f2 f3 he hc hdx hd hsz hQ
 ·refine wpAny_bind (wpAny_field he hd h1 ?_)
  dsimp only
  rw[if_pos (by simp)]
  refine wpAny_bind (wpAny_field gT dT vT ?_)
  rw[if_neg (by simp[rawInt])]
  refine wpAny_bind (wpAny_setField gT dT zT ?_)
  have ne:∀ b o,s.heap.get? b=some o->(∀ vs,o.data≠.fields vs)->b≠T:=fun b o hb hnf z=>by
   rw[z,gT] at hb
   cases hb
   exact hnf ts dT
  have kp:∀ b o,b≠T->s.heap.get? b=some o->(s.heap.update T (Obj.mapFields fun a=>a.setIfInBounds 3 Value.none)).get? b=some o:=fun b o hb hz=>by
   rw[zcr7 _ _ (Ne.symm hb)];exact hz
  refine zau5 (s:={ s with heap:=s.heap.update T (Obj.mapFields fun a=>a.setIfInBounds 3 Value.none) }) hfr hf (fun b o hb=>kp b o (fun z=>by rw[z,bT] at hb;cases hb) (f1 b o hb)) f2 (f3.of_keeps fun b o hb hnf=>⟨o,kp b o (ne b o hb hnf) hb,rfl⟩)
   (kp e oe (Ne.symm nT) he) hc hdx hd hsz fun h' F' U W=>hQ h' F' (fun b o hb hnf=>U b o (kp b o (ne b o hb hnf) hb) hnf) fun b o hb=>?_
  by_cases hbT:b=T
  ·subst hbT
   exact W b _ (zcu3 (Obj.mapFields fun a=>a.setIfInBounds 3 Value.none) gT (Obj.isFreed_of_fields (Obj.data_mapFields dT _)))
  ·exact W b o (kp b o hbT hb)
theorem zcc5 (F:FlyX B outer e cls dx s.heap) (hQ:∀ h',FlyX B outer e cls dx h'->s.heap.UpToSlots h'->Th s.heap h'->Q () { s with heap:=h' }):wpAny M A (setFlight (.ref e) none) Q E s:=by
 obtain⟨f1,f2,f3,oe,vs,he,hc,hdx,hd,hsz,hT⟩:=F
 unfold setFlight
 rcases hT with h1|⟨T,oT,ts,h1,bT,nT,gT,dT,zT,vT⟩
 ·refine wpAny_bind (wpAny_field he hd h1 ?_)
  rw[if_neg (by simp)]
  exact wpAny_pure (hQ s.heap ⟨f1,f2,f3,oe,vs,he,hc,hdx,hd,hsz,.inl h1⟩ (Heap.UpToSlots.refl _) fun b o hb=>⟨o,hb⟩)
 ·refine wpAny_bind (wpAny_field he hd h1 ?_)
  rw[if_pos (by simp)]
  refine wpAny_setField gT dT zT ?_
  have kp:∀ b o,b≠T->s.heap.get? b=some o->(s.heap.update T (Obj.mapFields fun a=>a.setIfInBounds 3 Value.none)).get? b=some o:=fun b o hb hz=>by
   rw[zcr7 _ _ (Ne.symm hb)];exact hz
  have ne:∀ b o,s.heap.get? b=some o->(∀ vs,o.data≠.fields vs)->b≠T:=fun b o hb hnf z=>by
   rw[z,gT] at hb
   cases hb
   exact hnf ts dT
  have d4:=Obj.data_mapFields dT (fun a=>a.setIfInBounds 3 Value.none)
  have t4:=zcu3 (Obj.mapFields fun a=>a.setIfInBounds 3 Value.none) gT (Obj.isFreed_of_fields d4)
  exact hQ _ ⟨fun b o hb=>kp b o (fun z=>by rw[z,bT] at hb;cases hb) (f1 b o hb),f2,f3.of_keeps fun b o hb hnf=>⟨o,kp b o (ne b o hb hnf) hb,rfl⟩,oe,vs,kp e oe (Ne.symm nT) he,hc,hdx,hd,hsz,
   .inr ⟨T,_,_,h1,bT,nT,t4,d4,by simpa using zT,by simp[zT]⟩⟩ (fun b o hb hnf=>⟨o.slots,kp b o (ne b o hb hnf) hb⟩) fun b o hb=>(Classical.em (b=T)).elim (fun z=>by subst z;exact⟨_,t4⟩) fun z=>⟨o,kp b o z hb⟩
theorem zbm2 (hfr:A.frames=some (env :: outer)) (hf:env.frame=some L) (F:FlyX B (env :: outer) e cls dx s.heap)
  (hQ:∀ h',FlyX B outer e cls dx h'->s.heap.UpToSlots h'->Th s.heap h'->Q () { s with heap:=h' }):wpAny M A (leaving env (.ref e)) Q E s:=by
 unfold leaving
 exact wpAny_bind (zbd6 hfr hf F fun h' F' U W=>hQ h' ⟨F'.stays,F'.new,F'.frames.2.2,F'.ex⟩ U W)
end
structure zu4 (X:Cx) (pins:List (Addr×Obj)) (σ:St) (H:Hp) (B:Heap) (e:Addr) (cls:Value) (dx:Option Addr) (s:Shared):Prop where
 inv:Inv X pins σ H s
 hok:HOk X.prog X.w H B
 fly:FlyX B X.stack e cls dx s.heap
 kb:∀ b o,X.s₀.heap.get? b=some o->X.H₀ b=none->b ∉ X.fs->b ∉ X.ex->B.get? b=some o
 en:∀ o,X.s₀.heap.get? e=some o->e∈X.ex
def CXR (P:Program) (w:World):CXT:=fun outer H s E e s'=>∃ (ea:Addr) (cls:Value) (dx:Option Addr) (H':Hp) (B:Heap),e=.ref ea/\s'.os=s.os/\AllBare s'.gens/\HOk P w H' B/\FlyX B outer ea cls dx s'.heap /\
 Un (frs outer) [] H H' s.heap s'.heap/\(∀ b o,s.heap.get? b=some o->H b=none->b ∉ frs outer->B.get? b=some o)/\(∀ o,s.heap.get? ea≠some o)/\E cls dx H'
section
variable {X:Cx}{pins:List (Addr×Obj)}{σ:St}{H:Hp}{s s':Shared}
theorem zx5 (I:Inv X pins σ H s) {b:Addr}{o:Obj}(e:X.s₀.heap.get? b=some o) (h:b ∉ X.fs):b ∉ frs X.stack:=fun hm=>by
 rcases zcq6.mp (I.stkSub b hm) with z|z
 ·exact absurd (zcr4 (zcq7 e) I.ok.above) (by rw[z];exact zcv8 _)
 ·exact h z
theorem zu4.of_call {E:XK}{e:Value}(I:Inv X pins σ H s) (h:CXR X.prog X.w X.stack H s E e s'):∃ (ea:Addr) (cls:Value) (dx:Option Addr) (H':Hp) (B:Heap),e=.ref ea/\zu4 X pins σ H' B ea cls dx s'/\E cls dx H':=by
 obtain⟨ea,cls,dx,H',B,rfl,os,bare,hok,fly,un,kb,en,hE⟩:=h
 refine⟨ea,cls,dx,H',B,rfl,⟨I.call' os un (hok.kept fly.stays) bare (fun b hb=>absurd hb (by simp)),hok,fly,fun b o e n h1 h2=>?_,fun o e=>?_⟩,hE⟩
 ·have k:=I.base.keep b o e n h1 h2
  exact kb b o k (I.base.free b o e n h2) (zx5 I e h1)
 ·apply Classical.byContradiction
  intro hx
  obtain⟨o',k⟩:=I.base.there ea o e hx
  exact en o' k
theorem zu4.of_raise {e:Addr}{cls:Value}{args:List Value}{h':Heap}{t':Nat}(I:Inv X pins σ H s) (m:Heap.MadeExcOf s.heap h' e cls args):zu4 X pins σ H (PySem.W.hideAll s.heap (frs X.stack)) e cls none { s with heap:=h',toks:=t' }:=by
 have nofr:∀ b o,H b=some o->b ∉ frs X.stack:=fun b o hb hm=>by rw[I.stkFree b hm] at hb;cases hb
 refine⟨I.kept m.keeps,fun a o ha=>?_,⟨fun b o hb=>m.keeps _ _ (PySem.W.of_hideAll _ hb),?_,?_,?_⟩,fun b o e n h1 h2=>?_,fun o hz=>?_⟩
 ·refine (I.hok a o ha).stay (fun b u hb hu=>zcw5 _ hu ?_) (fun _ q=>q) fun _ _ q=>q
  rcases hb with rfl|hb
  ·exact nofr _ _ ha
  ·exact nofr _ _ hb
 ·cases q:(PySem.W.hideAll s.heap (frs X.stack)).get? e with
  | none=>rfl
  | some o=>
   have:=PySem.W.of_hideAll _ q
   rw[m.new] at this
   cases this
 ·refine Heap.FunFrames.of_keeps (fun b o hb _=>⟨o,m.keeps b o hb,rfl⟩) (PySem.W.funFrames_hide I.stack fun env he a hf=>?_)
  exact List.mem_filterMap.mpr ⟨env,he,hf⟩
 ·obtain⟨t,h1,_,_⟩:=m.there
  exact⟨_,_,h1,rfl,rfl,rfl,by simp,.inl rfl⟩
 ·exact zcw5 _ (I.base.keep b o e n h1 h2) (zx5 I e h1)
 ·apply Classical.byContradiction
  intro hx
  obtain⟨o',k⟩:=I.base.there _ o hz hx
  rw[m.new] at k
  cases k
def XOut (X:Cx) (E:XK):Prop:=∀ (pins:List (Addr×Obj)) (σ:St) (H:Hp) (B:Heap) (e:Addr) (cls:Value) (dx:Option Addr) (s:Shared),zu4 X pins σ H B e cls dx s->E cls dx H->X.xe (.ref e) s
theorem passR {E:XK}(hx:XOut X E):zai2 (CXR X.prog X.w) X E:=fun pins σ H s e s' I h=>by
 obtain⟨ea,cls,dx,H',B,rfl,F,hE⟩:=zu4.of_call I h
 exact hx _ _ _ _ _ _ _ _ F hE
theorem zby6 {P:Program}{w:World}:zai2 (CXR P w) X E0:=fun _ _ _ _ _ _ _ h=>by
 obtain⟨_,_,_,_,_,_,_,_,_,_,_,_,_,h⟩:=h
 exact (show False from h).elim
end
theorem xout {P:Program}{w:World}{K:zcp3}{mg:Str->Option Value}{base:Heap}{N:List Str}{qual:Str}{scope:Scope}{f:Addr}{cd:Value}{A:Around}{outer:List Env}{s:Shared}{H:Hp}{E:XK} :
  XOut (cxOf (CXR P w) P w K mg base N qual scope f cd A outer s H E) E:=fun pins σ H' B e cls dx s' F hE=>by
 have I:=F.inv
 refine zbm2 (outer:=outer) I.ok.frames (rfl:(envOfC qual scope s.heap.objs.size f cd).frame=some s.heap.objs.size) F.fly fun h' F' U W=>?_
 have kb:∀ b o,s.heap.get? b=some o->H b=none->b ∉ frs outer->B.get? b=some o:=fun b o e n h1=>F.kb b o e n h1 (by exact zcs4)
 refine⟨e,cls,dx,H',B,rfl,I.os,I.bare,F.hok,F',?_,kb,fun o z=>absurd (F.en o z) (by exact zcs4),hE⟩
 have un:Un (frs outer) [] H H' s.heap s'.heap:=I.base
 refine⟨fun b o e n h1 _=>F'.stays _ _ (kb b o e n h1),fun b o e n h1 h2=>?_,un.free,fun b o e h2=>?_,un.tups,un.frzs,un.tbls⟩
 ·obtain⟨sl,k⟩:=un.slot b o e n h1 h2
  obtain⟨_,o2,ho2,hd⟩:=I.ok.funs.mem h1
  have:o2=o:=Option.some.inj (ho2.symm.trans e)
  subst this
  obtain⟨sl',k'⟩:=U b _ k hd
  exact⟨sl',k'⟩
 ·obtain⟨o',k⟩:=un.there b o e h2
  exact W b o' k
section
variable {X:Cx}{x:Str}{C:Addr}{bm:List Value}{B newId initId:String}{np cpos pos:Pos}{e₀:Expr}{rest:List Expr}{t:TA}{E:XK}
def qRaise (C:Addr) (E:XK) (t:TA):TS:=fun _ σ H=>t σ H fun vs H1=>vs.length<=sizeLine/\E (.ref C) none H1
theorem zci1 (O:OwnCls x C bm newId X.mg X.base) (FB:ExcBaseFacts B newId initId bm) (hc:X.calm=true) (hout:XOut X E) (ha:PA X (e₀ :: rest) t) (hg:Gl X x:=by rfl) (hd:(x==("__debug__":Str))=false:=by decide)
  (he:starEach (e₀ :: rest) X.env=(false,eval e₀ X.env) :: starEach rest X.env:=by rfl) (hpl:(backTo cpos (starEach rest X.env)).any (·.1)=false:=by rfl) :
  PS X (.Raise (some (.Call (.Name x np) (e₀ :: rest) [] cpos)) none pos) (qRaise C E t):=by
 intro pins s σ H D I h
 obtain⟨tl,N,nm,q,bs,hdct,sn,sub,ab,col,dd,k0,k1,k2,k3,k5,mN,hC,hN,hni,T⟩:=O.obj
 refine wpAny_Raise_call_subT (C:=C) (nm:=nm) (q:=q) (N:=N) (bs:=bs) (bm:=tl) (hdct:=hdct) (sn:=sn) (sub:=sub) (ab:=ab) (col:=col) (dd:=dd) (k0:=k0) (k1:=k1) (k2:=k2) (k3:=k3) (k5:=k5) FB (mN:=mN)
  (T.hasType FB.hasBase) (I.ok.hd hc) (by rw[he];show (false || (backTo cpos (starEach rest X.env)).any (·.1))=false;rw[hpl];rfl) hni (zz3 I hg O.bound ⟨rfl,?_⟩ hd)
 have hA:=ha cpos pins s σ H _ I h
 rw[he] at hA ⊢
 refine Calls.evalArgs_plain (thn hA fun us s2 ⟨vs,H1,I1,r,hz,q⟩=>⟨rfl,by rw[← r.length];exact hz,I1.bk _ _ hC,hN.keeps I1.bk,T.keeps I1.bk,fun h' e m=>?_⟩)
 exact hout _ _ _ _ _ _ _ _ (zu4.of_raise (t':=s2.toks) I1 m) q
end
section
variable {P:Program}{w:World}{K:zcp3}{mg:Str->Option Value}{base:Heap}
theorem Fun.okR {x qual:Str}{st:Stmt}{f:Addr}{fd:FuncData}{N ps:List Str}{k:Nat}{sp:Sp}(F:Fun K x qual st f fd) (S:zb4 N ps (za3 st)) (len:∀ vs H Q E,sp vs H Q E->vs.length=ps.length)
  (hbody:∀ (cdv:Value) (A:Around) (outer:List Env) (s:Shared) (H:Hp) (vs:List V) (Q:VK) (E:XK),Room k (A.deeper (envOfC qual (za3 st) s.heap.objs.size f cdv))->XOut (cxOf (CXR P w) P w K mg base N qual (za3 st) f cdv A outer s H E) E->sp vs H Q E ->
   ∃ t,PSs (cxOf (CXR P w) P w K mg base N qual (za3 st) f cdv A outer s H E) (zb2 st) t/\t { nx:=fun _ H'=>Q .non H',rt:=Q } (zal0 N vs) H):FnOk P w K mg base (CXR P w) (k+1) f fd ps sp:=by
 obtain⟨oc,od,kV,doc,pm,an,cdv,ct,osl,rfl,lk,hcd⟩:=F.ex
 refine fn_of lk hcd S len fun A outer s H vs Q E hr hsp=>?_
 exact hbody cdv A outer s H vs Q E hr xout hsp
end
end L2
set_option maxHeartbeats 4000000
namespace L2
open PySem PySem.Spec PyProof.Rows
structure ExcK (K:zcp3) (D:Addr):Prop where
 h1:zct4 K (.ref D) "__getattribute__"=some (some (.builtin "BaseException.__getattribute__"))
 h2:zct4 K (.ref D) "__getattr__"=some none
 h3:zct4 K (.ref D) "__class__"=some (some (.builtin "object.__class__"))
 h4:zcs2 K (.ref D) (.type "BaseException")=some true
 h5:PySem.W.mroIn K D (.type "object")=some true
def ExcIs (e:Addr) (cls:Value) (dx:Option Addr) (h:Heap):Prop:=∃ (oe:Obj) (vs:Array Value),h.get? e=some oe/\oe.cls=cls/\oe.dict=dx/\oe.data=.fields vs
section
open PySem.W PySem.Calls
theorem zbq5 {prog:Program}{w:World}{A:Around}{E:Value->Shared->Prop}{K:Frag}{D e:Addr}{h:Heap}{g d t os} {Q:Option Value->Shared->Prop}(X:K.In h) (x:ExcIs e (.ref D) none h) (k:ExcK K D)
  (hq:Q (some (.ref D)) ⟨h,g,d,t+1,os⟩):wpAny (model prog w) A (getAttr? (.ref e) "__class__") Q E ⟨h,g,d,t,os⟩:=by
 obtain⟨oe,vs,he,hc,hdx,hd⟩:=x
 obtain⟨h1,h2,h3,h4,h5⟩:=k
 have L0:Looks (model prog w) h (typeOf (.ref e)) (.ref D):=hc▸(Looks.ld he).andThen .now
 have L1:=looks_findIn (M:=model prog w) X h1
 have L2:=looks_findIn (M:=model prog w) X h2
 have L3:=looks_findIn (M:=model prog w) X h3
 have hx:(onTheHeap (Value.ref D)&&Value.builtin "BaseException.__getattribute__"==Value.builtin "object.__getattribute__")=false:=by
  have z:(Value.builtin "BaseException.__getattribute__"==Value.builtin "object.__getattribute__")=false:=by decide +kernel
  rw[z];rfl
 have I:InstAt h e oe D none:=⟨he,hc,by unfold notCls;rw[hd],by rw[hdx];trivial⟩
 have L4:Looks (model prog w) h (isInstance (.ref e) (.type "BaseException")) true:=L0.andThen (looks_subIn X h4)
 have FB:=PySem.F.attrBase_ValueError
 have f3:=FB.ga.bind (.ref e)
 have kd:builtinKind "BaseException.__getattribute__"=some .slot:=by decide +kernel
 have sid:splitId "BaseException.__getattribute__"=some ("BaseException","__getattribute__"):=by decide +kernel
 have aok:=PySem.F.args_bexc_ga (.ref e) (.str "__class__" t)
 have f5:=KF.type_class
 have f6:=PySem.F.slot_gs_get.lookup
 have f7:=PySem.F.slot_gs_set.lookup
 unfold getAttr? getAttrBy? getAttrBy
 refine wpAny_bind (wpAny_mkText (wpAny_bind (wpAny_attempt (wpAny_holding (wpAny_bind (L0.at (wpAny_bind (L1.at ?_))))))))
 dsimp only
 rw[if_neg (by rw[hx];decide)]
 unfold getAttrByItsOwn hookBefore
 repeat (any_goals (first|assumption|with_reducible refine L0.at ?_|with_reducible refine L1.at ?_|with_reducible refine L2.at ?_|with_reducible refine L3.at ?_|wp_step))
 refine codeAny_call_builtin FB.ga.plain PySem.F.entry_bexc_ga ?_
 simp only[checkBuiltinCall,kd,sid]
 refine wpAny_bind (L4.at ?_)
 repeat (any_goals (first|assumption|with_reducible refine L0.at ?_|with_reducible refine L1.at ?_|with_reducible refine L2.at ?_|with_reducible refine L3.at ?_|wp_step))
 refine class_get (ox:=oe) (od:=none) X I h5 ?_
 repeat (any_goals (first|assumption|wp_step))
theorem zba4 {K:Frag}{e D:Addr}(k:ExcK K D) (hcl:(clsIn K D).isSome=true):KitX K (.ref e) (.ref D) (ExcIs e (.ref D) none) where
 ty:=fun M h _ p=>by
  obtain⟨oe,vs,he,hc,_⟩:=p
  exact hc▸(Looks.ld he).andThen .now
 it:=fun M h X p=>by
  obtain⟨cd,hcd⟩:=zcv3.mp hcl
  unfold clsIn at hcd
  split at hcd
  ·rename_i ho
   intro A' Q' E' s' kk q
   unfold isType loadHead
   exact wpAny_bind (wpAny_loadPart (kk _ _ (X _ _ ho)) (wpAny_pure q))
  ·cases hcd
 ne:=fun h tp dd its n sl X htp=>by
  refine Bool.eq_false_iff.mpr fun q=>?_
  have z:D=tp:=Value.ref.inj (beq_iff_eq.mp q)
  subst z
  obtain⟨cd,hcd⟩:=zcv3.mp hcl
  unfold clsIn at hcd
  split at hcd
  ·rename_i ho
   cases (X _ _ ho).symm.trans htp
  ·cases hcd
 ca:=fun {prog w A E Q s} X p q=>by
  obtain⟨hh,g,d,t,os⟩:=s
  exact zbq5 X p k q
end
abbrev excO (ea:Addr) (cls:Value) (dx:Option Addr):HO:=.ext (ExcIs ea cls dx)
section
variable {X:Cx}{K:zcp3}{H:Hp}{Q:VK}
@[irreducible] def zas0 (K:zcp3) (x c:V) (H:Hp) (Q:VK):Prop:=zu7 K x c H Q∨∃ (ea D:Addr) (b:Bool),x=.ref ea/\H ea=some (excO ea (.ref D) none)/\ExcK K D/\(zct5 K D).isSome=true/\(∀ cv,RelV c cv->zcr1 K (.ref D) cv=some b)/\Q (.bl b) H
def zbz7 (K:zcp3):List V->Hp->VK->Prop:=fun xs H Q=>match xs with
 | [x,c]=>zas0 K x c H Q
 | _=>False
theorem cIsiX (hK:X.K=K):zn5 X (.builtin "isinstance") (zbz7 K):=by
 subst hK
 intro pins s σ H xs us Q I r h
 unfold zbz7 at h
 split at h
 ·unfold zas0 at h
  rcases h with h|⟨ea,D,b,rfl,h1,h2,h3,h4,h5⟩
  ·exact cIsi pins s σ H _ us Q I r h
  ·obtain⟨u,w,rfl,r1,r2⟩:=zaq7 r
   cases r1
   obtain⟨p,_⟩:=I.hok ea _ h1
   exact zcu2 (zba4 h2 h3) I.kIn p (h4 _ r2) (fun z=>nomatch z) fun tk=>⟨.bl b,H,I.tok _,rfl,h5⟩
 ·exact h.elim
theorem zbk2 {ea D C:Addr}{b:Bool}(h1:H ea=some (excO ea (.ref D) none)) (h2:ExcK K D) (h3:(zct5 K D).isSome=true) (e:zcr1 K (.ref D) (.ref C)=some b) (q:Q (.bl b) H):zas0 K (.ref ea) (.ref C) H Q:=by
 unfold zas0;exact .inr ⟨ea,D,b,rfl,h1,h2,h3,fun cv r=>by cases r;exact e,q⟩
theorem zbt4 {ea D:Addr}{n:String}{b:Bool}(h1:H ea=some (excO ea (.ref D) none)) (h2:ExcK K D) (h3:(zct5 K D).isSome=true) (e:zcr1 K (.ref D) (.type n)=some b) (q:Q (.bl b) H):zas0 K (.ref ea) (.ty n) H Q:=by
 unfold zas0;exact .inr ⟨ea,D,b,rfl,h1,h2,h3,fun cv r=>by cases r;exact e,q⟩
theorem zam5:bootBuiltins "ValueError"=some (.type "ValueError"):=by decide +kernel
end
section
variable {X:Cx}{pins:List (Addr×Obj)}{σ:St}{H:Hp}{s:Shared}
def ExcP (X:Cx) (pins:List (Addr×Obj)) (σ:St) (EX:XK) (e:Value) (s':Shared):Prop:=∃ (H':Hp) (B:Heap) (ea:Addr) (cls:Value) (dx:Option Addr),e=.ref ea/\zu4 X pins σ H' B ea cls dx s'/\(∀ p∈X.pn++pins,B.get? p.1=some p.2)/\EX cls dx H'
def PSX (X:Cx) (st:Stmt) (t:XK->TS):Prop:=∀ (pins:List (Addr×Obj)) (s:Shared) (σ:St) (H:Hp) (D:Ends) (EX:XK),Inv X pins σ H s->t EX D σ H->wpAny (model X.prog X.w) X.A (exec st X.env) (SP X pins D) (ExcP X pins σ EX) s
def PSXs (X:Cx) (l:List Stmt) (t:XK->TS):Prop:=∀ (pins:List (Addr×Obj)) (s:Shared) (σ:St) (H:Hp) (D:Ends) (EX:XK),Inv X pins σ H s->t EX D σ H->wpAny (model X.prog X.w) X.A (execs l X.env) (SP X pins D) (ExcP X pins σ EX) s
theorem zcd1 {EX:XK}{e:Value}{s':Shared}(I:Inv X pins σ H s) (h:CXR X.prog X.w X.stack H s EX e s'):ExcP X pins σ EX e s':=by
 obtain⟨ea,cls,dx,H',B,rfl,os,bare,hok,fly,un,k,en,hE⟩:=h
 refine⟨H',B,ea,cls,dx,rfl,⟨I.call' os un (hok.kept fly.stays) bare (fun b hb=>absurd hb (by simp)),hok,fly,fun b o e n h1 h2=>?_,fun o e=>?_⟩,fun p hp=>?_,hE⟩
 ·exact k b o (I.base.keep b o e n h1 h2) (I.base.free b o e n h2) (zx5 I e h1)
 ·apply Classical.byContradiction
  intro hx
  obtain⟨o',k'⟩:=I.base.there ea o e hx
  exact en o' k'
 ·obtain⟨q1,q2,q3,q4,_⟩:=I.pin p hp
  exact k _ _ q1 q2 fun hm=>(zcq6.mp (I.stkSub _ hm)).elim q3 q4
theorem zu4.move {B:Heap}{e:Addr}{cls:Value}{dx:Option Addr}{h':Heap}(F:zu4 X pins σ H B e cls dx s) (hp:∀ p∈X.pn++pins,B.get? p.1=some p.2) (F':FlyX B X.stack e cls dx h') (U:s.heap.UpToSlots h') (W:Th s.heap h') :
  zu4 X pins σ H B e cls dx { s with heap:=h' }:=by
 have I:=F.inv
 have cell:∀ {c:Addr}{v:Option Value},s.heap.IsCell c v->h'.IsCell c v:=fun ⟨o,ho,hd⟩=>by
  obtain⟨sl,z⟩:=U _ o ho fun vs q=>by rw[hd] at q;cases q
  exact⟨_,z,hd⟩
 refine⟨⟨I.ok,I.os,I.bare,⟨fun b o e n h1 h2=>F'.stays _ _ (F.kb b o e n h1 h2),fun b o e n h1 h2=>?_,I.base.free,fun b o e h2=>?_,I.base.tups,I.base.frzs,I.base.tbls⟩,?_,fun x c hc=>?_,I.free,I.freeC,fun p hpp=>?_,F.hok.kept F'.stays,I.len⟩,F.hok,F',F.kb,F.en⟩
 ·obtain⟨sl,k⟩:=I.base.slot b o e n h1 h2
  obtain⟨_,o2,ho2,hd⟩:=I.ok.funs.mem h1
  have:o2=o:=Option.some.inj (ho2.symm.trans e)
  subst this
  obtain⟨sl',k'⟩:=U b _ k hd
  exact⟨sl',k'⟩
 ·obtain⟨o',k⟩:=I.base.there b o e h2
  exact W b o' k
 ·obtain⟨m,hn,hl⟩:=I.loc
  refine⟨m,U.ns hn,fun i x v h1 h2 h3=>?_⟩
  obtain⟨u,r,q⟩:=hl i x v h1 h2 h3
  refine⟨u,r,?_⟩
  rcases q with q|⟨k,c,e,z⟩
  ·exact .inl q
  ·exact .inr ⟨k,c,e,cell z⟩
 ·obtain⟨v,z⟩:=I.cell x c hc
  exact⟨v,cell z⟩
 ·obtain⟨_,q2,q3,q4,q5⟩:=I.pin p hpp
  exact⟨F'.stays _ _ (hp p hpp),q2,q3,q4,q5⟩
theorem callX {k j:Nat}{x:Str}{ps:List Str}{sp:Sp}{p pos:Pos}{e:Expr}{es:List Expr}{t:TA}(F:Def X.prog X.w X.K X.mg X.base (CXR X.prog X.w) k x ps sp) (hr:Room j X.A) (ha:PA X.nox (e :: es) t) (hk:k<=j:=by decide) (hg:Gl X x:=by rfl)
  (hdb:(x==("__debug__":Str))=false:=by decide) (he:starEach (e :: es) X.env=(false,eval e X.env) :: starEach es X.env:=by rfl) (hpl:(backTo pos (starEach es X.env)).any (·.1)=false:=by rfl)
  {Q:VK}{EX:XK}(I:Inv X pins σ H s) (h:t σ H fun vs H1=>sp vs H1 Q EX):wpAny (model X.prog X.w) X.A (eval (.Call (.Name x p) (e :: es) [] pos) X.env) (EP X pins σ Q) (ExcP X pins σ EX) s:=by
 obtain⟨f,fd,F1,F2,F3,F4⟩:=F.ex
 refine wpAny_Call_Name_kw (zz3 I hg F2 ?_ hdb)
 have hA:=ha pos pins s σ H _ (I.wish _) h
 refine PySem.W.callWith_K (h₀:=X.base) I.ok.mod.kin F3 (wpAny_mono hA (fun us s1 h1=>?_) fun _ _ z=>z.elim) he hpl
 obtain⟨vs,H1,I1,r,q⟩:=h1
 have I1:Inv X pins σ H1 s1:=I1.unwish
 refine⟨I1.kIn,?_⟩
 have hl:us.length=ps.length:=by rw[← r.length];exact F1.len _ _ _ _ q
 have hb:=F4 s1 us I1.kIn (by rw[List.append_nil];exact hl)
 rw[List.append_nil] at hb
 refine wpAny_call (codeAny_mono (F1.run X.A X.stack s1 H1 ⟨us,[]⟩ us vs Q EX (hr.mono hk) I1.env0 hb r q) fun r s' hq=>?_)
 cases r with
 | error e=>exact zcd1 I1 hq
 | ok fl=>
  cases fl with
  | ret u=>exact I1.after hq
  | next=>exact False.elim hq
  | brk=>exact False.elim hq
  | cont=>exact False.elim hq
def qxCall (sp:Sp) (t:TA):XK->TS:=fun EX D σ H=>t σ H fun vs H1=>sp vs H1 (fun _ H2=>D.nx σ H2) EX
theorem zcc6 {k j:Nat}{x:Str}{ps:List Str}{sp:Sp}{p pos spos:Pos}{e:Expr}{es:List Expr}{t:TA}(F:Def X.prog X.w X.K X.mg X.base (CXR X.prog X.w) k x ps sp) (hr:Room j X.A) (ha:PA X.nox (e :: es) t) (hk:k<=j:=by decide) (hg:Gl X x:=by rfl)
  (hdb:(x==("__debug__":Str))=false:=by decide) (he:starEach (e :: es) X.env=(false,eval e X.env) :: starEach es X.env:=by rfl) (hpl:(backTo pos (starEach es X.env)).any (·.1)=false:=by rfl)
  (hs:swapsWith (.Call (.Name x p) (e :: es) [] pos) none spos.line X.env=pure false:=by rfl):PSX X (.Expr (.Call (.Name x p) (e :: es) [] pos) spos) (qxCall sp t):=by
 intro pins s σ H D EX I h
 exact wpAny_Expr_any (wpAny_mono (callX F hr ha hk hg hdb he hpl I h) (fun v s1 ⟨x,H1,I1,r1,q1⟩=>⟨σ,H1,I1,q1⟩) fun _ _ z=>z) I.quiet hs
theorem psxOne {st:Stmt}{t:XK->TS}(h:PSX X st t):PSXs X [st] t:=by
 intro pins s σ H D EX I hq
 refine wpAny_execs_cons (wpAny_mono (h pins s σ H D EX I hq) (fun f s1 q=>?_) fun _ _ z=>z)
 cases f with
 | next=>exact wpAny_execs_nil q
 | brk=>exact q
 | cont=>exact q
 | ret u=>exact q
theorem zf3.ex {P:Program}{w:World}{H:Hp}{h:Heap}{a:Addr}{o:HO}(x:zf3 P w H h a o):∃ u,h.get? a=some u:=by
 cases o with
 | lst xs=>obtain⟨_,_,_,_,e⟩:=x;exact⟨_,e⟩
 | tup xs=>obtain⟨_,_,_,ob,e,_⟩:=x;exact⟨ob,e⟩
 | dK kvs=>obtain⟨_,_,_,_,ob,_,_,e,_⟩:=x;exact⟨ob,e⟩
 | dT kvs=>obtain⟨_,_,_,_,ob,_,_,e,_⟩:=x;exact⟨ob,e⟩
 | set S n=>obtain⟨ob,_,_,_,e,_⟩:=x;exact⟨ob,e⟩
 | ins C dx fs=>obtain⟨_,_,_,e,_⟩:=x;exact⟨_,e⟩
 | own y=>exact x
 | xd fs=>obtain⟨_,⟨ob,_,_,e,_⟩,_⟩:=x;exact⟨ob,e⟩
 | rng lo hi=>obtain⟨_,_,_,e⟩:=x;exact⟨_,e⟩
 | frz ob u=>obtain⟨e,_⟩:=x;exact⟨_,e⟩
 | tbl ps=>exact⟨_,(show h.get? a=some _ from x)⟩
 | met f y=>exact⟨_,(show h.get? a=some _ from x)⟩
 | ext φ=>obtain⟨_,e,_⟩:=x;exact e
theorem zu4.track {B:Heap}{ea:Addr}{cls:Value}{dx:Option Addr}(F:zu4 X pins σ H B ea cls dx s) (hp:∀ p∈X.pn++pins,B.get? p.1=some p.2) (hex:X.ex=[]) :
  H ea=none/\Inv X pins σ (upd H ea (excO ea cls dx)) s:=by
 have I:=F.inv
 obtain⟨oe,vs,he,hc,hdx,hd,_⟩:=F.fly.ex
 have hn:H ea=none:=by
  cases q:H ea with
  | none=>rfl
  | some o=>
   obtain⟨u,z⟩:=zf3.ex (F.hok ea o q)
   rw[F.fly.new] at z
   cases z
 have nl:∀ {b:Addr}{o:Obj},s.heap.get? b=some o->(∀ vs,o.data≠.fields vs)->b≠ea:=fun hb hnf z=>by
  rw[z,he] at hb
  cases hb
  exact hnf vs hd
 have n0:∀ {b:Addr}{o:Obj},X.s₀.heap.get? b=some o->b≠ea:=fun hb z=>by
  have:=F.en _ (z▸hb)
  rw[hex] at this
  cases this
 refine⟨hn,I.ok,I.os,I.bare,⟨I.base.keep,I.base.slot,fun b o e n h1=>?_,I.base.there,fun b xs q=>?_,fun b o u q=>?_,fun b ps q=>?_⟩,I.loc,I.cell,?_,fun x c hcl=>?_,fun p hpp=>?_,fun b o q=>?_,I.len⟩
 ·rw[zc0 (n0 e)];exact I.base.free b o e n h1
 ·have z:=I.base.tups b xs q
  rw[zc0 (za6 z hn)];exact z
 ·have z:=I.base.frzs b o u q
  rw[zc0 (za6 z hn)];exact z
 ·obtain⟨more,z⟩:=I.base.tbls b ps q
  exact⟨more,by rw[zc0 (za6 z hn)];exact z⟩
 ·obtain⟨m,⟨o,es,ep,ho,hdd,_⟩,_⟩:=I.loc
  rw[zc0 (nl ho fun vs q=>by rw[hdd] at q;cases q)];exact I.free
 ·obtain⟨v,o,ho,hdd⟩:=I.cell x c hcl
  rw[zc0 (nl ho fun vs q=>by rw[hdd] at q;cases q)];exact I.freeC x c hcl
 ·obtain⟨q1,q2,q3,q4,q5⟩:=I.pin p hpp
  refine⟨q1,?_,q3,q4,q5⟩
  rw[zc0 fun z=>?_]
  ·exact q2
  ·have:=hp p hpp
   rw[z,F.fly.new] at this
   cases this
 ·by_cases hb:b=ea
  ·subst hb
   rw[zc2] at q
   cases q
   refine⟨⟨oe,vs,he,hc,hdx,hd⟩,⟨oe,he⟩,fun h1 h2 x k=>?_⟩
   obtain⟨o1,v1,e1,r⟩:=x
   exact⟨o1,v1,k _ e1,r⟩
  ·rw[zc0 hb] at q
   refine (I.hok b o q).stay (fun _ _ _ z=>z) (fun c z=>?_) fun c xs z=>?_
   ·rw[zc0 (za6 z hn)];exact z
   ·rw[zc0 (za6 z hn)];exact z
theorem zbo1 {M:Model}{A:Around}{E:Value->Shared->Prop}{i:Nat}{n:Str}{v:V}{Q:Unit->Shared->Prop}(I:Inv X pins σ H s) (hN:X.N.Nodup) (hi:X.N[i]?=some n) (hl:X.env.kindOf n=some .local) (hv:σ[i]?=some (some v))
  (h:∀ s',Inv X pins (σ.set i none) H s'->Q () s'):wpAny M A (unbindName X.env n) Q E s:=by
 obtain⟨m,hn,hlk⟩:=id I.loc
 have hcls:(X.env.scope.kind==.class || (X.env.scope.kind==.module&&X.env.locals != X.env.globals))=false:=by rw[I.ok.kind];rfl
 obtain⟨u,_,q⟩:=hlk i n v hi hv (.inl hl)
 have hm:m n=some u:=by
  rcases q with q|⟨k,_⟩
  ·exact q.2
  ·rw[hl] at k
   rcases k with k|k<;>cases k
 refine wpAny_unbindName_local hl hn hm hcls fun h' u' hn' hs=>h _ ?_
 obtain⟨oL,_,_,hoL,_⟩:=id hn
 have below:∀ {b:Addr}{o:Obj},X.s₀.heap.get? b=some o->b≠X.env.locals:=fun e=>zcs5 (zcr4 (zcq7 e) I.ok.above)
 refine⟨I.ok,I.os,I.bare,⟨fun b o e n hb hx=>(hs.2 b (below e)).trans (I.base.keep b o e n hb hx),fun b o e n hb hx=>?_,I.base.free,fun b o e hx=>?_,I.base.tups,I.base.frzs,I.base.tbls⟩,⟨_,hn',fun j y v' e1 e2 e3=>?_⟩,fun y c e=>?_,I.free,I.freeC,fun p hp=>?_,fun b ob e=>?_,by rw[List.length_set];exact I.len⟩
 ·obtain⟨sl,z⟩:=I.base.slot b o e n hb hx
  exact⟨sl,(hs.2 b (below e)).trans z⟩
 ·obtain⟨o',z⟩:=I.base.there b o e hx
  exact⟨o',(hs.2 b (below e)).trans z⟩
 ·by_cases hj:j=i
  ·subst hj
   rw[zcv9 (by rw[I.len];exact (zcp4.mp hi).1)] at e2
   cases e2
  ·rw[List.getElem?_set_ne (Ne.symm hj)] at e2
   obtain⟨w',r',q⟩:=hlk j y v' e1 e2 e3
   refine⟨w',r',?_⟩
   rcases q with ⟨k,z⟩|⟨k,c,z,zz⟩
   ·refine .inl ⟨k,?_⟩
    have:y≠n:=fun z=>hj (zam7 hN e1 (z▸hi))
    show (if y=n then u' else m y)=_
    rw[if_neg this];exact z
   ·exact .inr ⟨k,c,z,zz.sameBut hs (I.cne y c z)⟩
 ·obtain⟨w',z⟩:=I.cell y c e
  exact⟨w',z.sameBut hs (I.cne y c e)⟩
 ·obtain⟨e,n,ne,nf,d⟩:=I.pin p hp
  exact⟨(hs.2 p.1 ne).trans e,n,ne,nf,d⟩
 ·refine (I.hok b ob e).stay (fun c w' hc q=>(hs.2 c ?_).trans q) (fun _ q=>q) fun _ _ q=>q
  rintro rfl
  rcases hc with z|hc
  ·rw[← z,I.free] at e;cases e
  ·rw[I.free] at hc;cases hc
def zai8 (X:Cx) (e:Value):Cx:={ X with A:=X.A.mark (some e),calm:=false,xe:=fun _ _=>False }
theorem Inv.mark (I:Inv X pins σ H s) (e:Value):Inv (zai8 X e) pins σ H s:=
 ⟨⟨I.ok.mod,I.ok.kind,I.ok.glob,I.ok.blt,I.ok.above,I.ok.inj,I.ok.has,I.ok.cab,(fun z=>absurd (show false=true from z) zcq0),I.ok.frames,I.ok.stk,I.ok.exf,I.ok.bs,I.ok.bsz,I.ok.noex,I.ok.exfs,I.ok.funs,I.ok.frf⟩,I.os,I.bare,I.base,I.loc,I.cell,I.free,I.freeC,I.pin,I.hok,I.len⟩
theorem Inv.unmark {e:Value}(I0:Inv X pins σ H s) {σ':St}{H':Hp}{s':Shared}(I:Inv (zai8 X e) pins σ' H' s'):Inv X pins σ' H' s':=
 ⟨I0.ok,I.os,I.bare,I.base,I.loc,I.cell,I.free,I.freeC,I.pin,I.hok,I.len⟩
@[irreducible] def zbb5 (K:zcp3) (CH:Addr) (D:Ends) (σ:St) (ke ky:Nat) (cls:Value) (dx:Option Addr) (H':Hp):Prop:=PySem.W.exmOne K cls (.ref CH)=some true /\
 ∀ ea H'',H' ea=none->Same H' H''->H'' ea=some (excO ea cls dx)->D.nx ((σ.set ke none).set ky (some (.ref ea))) H''
def qTry (K:zcp3) (CH:Addr) (t:XK->TS) (ke ky:Nat):TS:=fun D σ H=>t (fun cls dx H'=>zbb5 K CH D σ ke ky cls dx H') D σ H
theorem psTry {K:zcp3}{body:List Stmt}{t:XK->TS}{hx n y:Str}{CH:Addr}{ke ky:Nat}{np p1 p2 p3 hpos pos:Pos}(hK:X.K=K) (hN:X.N.Nodup) (hcl:X.mg hx=some (.ref CH)) (hb:PSXs X body t)
  (hke:X.N[ke]?=some n:=by rfl) (hky:X.N[ky]?=some y:=by rfl) (hkk:ke≠ky:=by decide) (hln:X.env.kindOf n=some .local:=by rfl) (hly:X.env.kindOf y=some .local:=by rfl) (hgl:Gl X hx:=by rfl) (hdb:(hx==("__debug__":Str))=false:=by decide)
  (hnd:(n==("__debug__":Str))=false:=by decide) (hnc:(n==("__classdict__":Str))=false:=by decide)
  (hstk:X.stack=X.env :: X.outer:=by rfl) (hfr:X.env.frame=some X.env.locals:=by rfl) (hex:X.ex=[]:=by rfl) (hs:swapsWith (.Name n p2) (some (.Name y p1)) p3.line X.env=pure false:=by rfl) :
  PS X (.Try body [.ExceptHandler (some (.Name hx np)) (some n) [.Assign [.Name y p1] (.Name n p2) p3] hpos] [] [] pos) (qTry K CH t ke ky):=by
 subst hK
 intro pins s σ H D I h
 rw[arm_exec_Try]
 refine wpAny_bind (wpAny_standAt (wpAny_tryStmt_except (wpAny_mono (hb pins s σ H D _ I h) (fun f s1 q=>?_) fun e s1 q=>?_)))
 ·cases f with
  | next=>exact wpAny_execs_nil q
  | brk=>exact q
  | cont=>exact q
  | ret u=>exact q
 ·obtain⟨H1,B,ea,cls,dx,rfl,F,hp,q⟩:=q
  unfold zbb5 at q
  obtain⟨hm,q⟩:=q
  have I1:=F.inv
  refine zbd6 (L:=X.env.locals) (outer:=X.outer) (by rw[← hstk];exact I1.ok.frames) hfr (by rw[← hstk];exact F.fly) fun h2 F2 U2 W2=>?_
  rw[← hstk] at F2
  have F2:=F.move hp F2 U2 W2
  have I2:=F2.inv
  refine wpAny_handleBy_cons (codeAny_handlers_test ?_) (by intro z;cases z)
  refine zz3 (X:=zai8 X (.ref ea)) (I2.mark _) hgl hcl ?_ hdb
  have LT:PySem.W.Looks (model X.prog X.w) h2 (typeOf (.ref ea)) cls:=by
   obtain⟨oe,vs,he,hc,_⟩:=F2.fly.ex
   exact hc▸(PySem.W.Looks.ld he).andThen .now
  refine (PySem.W.exm_one I2.kIn LT hm).here ?_
  refine codeAny_handlers_suite_as ?_
  refine zcc5 F2.fly fun h3 F3 U3 W3=>?_
  have F3:=F2.move hp F3 U3 W3
  obtain⟨hn,I3⟩:=F3.track hp hex
  have hlσ:ke<σ.length:=by rw[I1.len];exact (zcp4.mp hke).1
  refine zu2 I3 hN hke (.inl hln) (v:=.ref ea) rfl (fun s4 I4=>?_) (.inr hln)
  have pn:PS (zai8 X (.ref ea)) (.Assign [.Name y p1] (.Name n p2) p3) (tAsg (qV ke) (zbr2 ky)):=zca1 (X:=zai8 X (.ref ea)) hN hky (.inl hly) (pq (X:=zai8 X (.ref ea)) ke hke (.inl hln) hnd hnc) hs (.inr hly)
  refine wpAny_mono (za5 pn pins s4 _ _ { nx:=fun σ' H'=>σ'=(σ.set ke (some (.ref ea))).set ky (some (.ref ea))/\H'=upd H1 ea (excO ea cls dx),rt:=fun _ _=>False } (I4.mark (.ref ea)) ?_) (fun f s5 q5=>?_) fun _ _ z=>(show False from z).elim
  ·show qV ke (σ.set ke (some (.ref ea))) _ _
   unfold qV
   rw[zcv9 hlσ]
   exact⟨rfl,rfl⟩
  ·cases f with
   | next=>
    obtain⟨σ5,H5,I5,rfl,rfl⟩:=q5
    have I5:=Inv.unmark I1 I5
    refine wpAny_bind (wpAny_bindName (zu2 I5 hN hke (.inl hln) (v:=.non) rfl (fun s6 I6=>?_) (.inr hln)))
    refine wpAny_onRaise (zbo1 (v:=.non) I6 hN hke hln (by rw[zcv9 (by rw[List.length_set,List.length_set];exact hlσ)]) fun s7 I7=>?_)
    refine⟨_,_,I7,?_⟩
    rw[List.set_set,List.set_comm _ _ (Ne.symm hkk),List.set_set]
    exact q ea _ hn (Same.upd hn) zc2
   | brk=>obtain⟨_,_,_,z⟩:=q5;exact False.elim z
   | cont=>obtain⟨_,_,_,z⟩:=q5;exact False.elim z
   | ret u=>obtain⟨_,_,_,_,_,z⟩:=q5;exact False.elim z
end
end L2
set_option maxHeartbeats 4000000
namespace L2
open PySem PySem.Spec PyProof.Rows
section
open PySem.W
theorem zbx0 {K:Frag}{h:Heap}{mg:Str->Option Value}{x:Str}{C:Addr}{bmB:List Value}{newId:String}(X:K.In h) (G:h.Ns mainGlobals mg) (e:nsIn K mainGlobals x=some (some (.ref C))) (q:excIn K C bmB newId=true):OwnCls x C bmB newId mg h:=by
 have bd:=mg_of X G e
 unfold excIn at q
 split at q
 case h_2=>cases q
 rename_i dd cd sl ho
 split at q
 case h_2=>cases q
 rename_i C1 bm k0 k1 k2 k3 n k5 hm hs
 simp only[zcr6,beq_iff_eq,Bool.not_eq_true'] at q
 obtain⟨⟨⟨⟨⟨q1,q2⟩,q3⟩,q4⟩,q5⟩,q6⟩:=q
 have z:sl=#[k0,k1,k2,k3,some (.builtin n),k5]:=by
  cases sl with
  | mk l=>rw[show l=[k0,k1,k2,k3,some (.builtin n),k5] from hs]
 cases cd with
 | mk nm bs mro ns qn hd sn sub ab col del=>
  have hm:mro=.ref C1 :: bm:=hm
  have q3:del=false:=q3
  subst q1 q2 z hm q3
  exact⟨bd,bm,ns,nm,qn,bs,hd,sn,sub,ab,col,dd,k0,k1,k2,k3,k5,_,X _ _ ho,.of_isNs (isNs_of_in X q5),nsMap_none_of_in X q5 q6,tail_of_in X q4⟩
theorem zz1 {K:Frag}{t:Value}{C:Addr}{cd:ClassData}{b:Bool}(h1:clsIn K C=some cd) (h2:typeIn K (.ref C)=some (.type "type")) (h3:subIn K t (.ref C)=some b):kitCls K t (.ref C)=some b:=by
 unfold kitCls
 dsimp only
 rw[h1,h2,if_pos (by simp)]
 exact h3
theorem zj3 {K:Frag}{t:Value}{C:Addr}{cd:ClassData}{b:Bool}(h1:clsIn K C=some cd) (h2:typeIn K (.ref C)=some (.type "type")) (h3:subIn K t (.ref C)=some b) (h4:subIn K t t=some true):kitOne K t (.ref C)=some b:=by
 unfold kitOne
 split
 ·rename_i z
  have z:t=.ref C:=by simpa using z
  subst z
  rw[h3] at h4
  exact h4.symm
 ·exact zz1 h1 h2 h3
theorem zq0 {K:Frag}{C:Addr}{cd:ClassData}{b:Bool}(h1:clsIn K C=some cd) (h2:typeIn K (.ref C)=some (.type "type")) (h3:subIn K (.type "NoneType") (.ref C)=some b):kitOne K (.type "NoneType") (.ref C)=some b:=by
 unfold kitOne
 rw[if_neg (by simp)]
 exact zz1 h1 h2 h3
theorem zv4 {K:Frag}{D:Addr}{b:Bool}(h:subIn K (.ref D) (.type "ValueError")=some b):kitOne K (.ref D) (.type "ValueError")=some b:=by
 unfold kitOne kitCls
 rw[if_neg (by simp)]
 dsimp only
 rw[if_pos (by decide +kernel)]
 exact h
theorem zbo0 {K:Frag}{t:Value}{C:Addr}{cd:ClassData}{b:Bool}(h0:subIn K (.ref C) (.type "BaseException")=some true) (h1:clsIn K C=some cd) (h2:typeIn K (.ref C)=some (.type "type")) (h3:subIn K t (.ref C)=some b):exmOne K t (.ref C)=some b:=by
 unfold exmOne
 rw[if_pos (by rw[h0];simp)]
 exact zz1 h1 h2 h3
end
theorem zbd7 {K:zcp3}{CH:Addr}{D:Ends}{σ:St}{ke ky:Nat}{cls:Value}{dx:Option Addr}{H':Hp}(h1:PySem.W.exmOne K cls (.ref CH)=some true) (h2:∀ ea H'',H' ea=none->Same H' H''->H'' ea=some (excO ea cls dx)->D.nx ((σ.set ke none).set ky (some (.ref ea))) H''):zbb5 K CH D σ ke ky cls dx H':=by
 unfold zbb5;exact⟨h1,h2⟩
abbrev bmV:List Value:=[.type "ValueError",.type "Exception",.type "BaseException",.type "object"]
abbrev newV:String:="ValueError.__new__"
section
variable {X:Cx}{K:zcp3}
end
section
variable {X:Cx}{st:Stmt}{rest:List Stmt}{t u:TS}{e:Expr}{es:List Expr}{te:TE}{ta:TA}
end
end L2
set_option maxHeartbeats 1000000
namespace L2
open PySem PySem.Spec PyProof.Rows
section
variable {X:Cx}{K:zcp3}
end
end L2
set_option maxHeartbeats 2000000
namespace L2
open PySem PySem.Spec PyProof.Rows
def Itz (K:zcp3) (a b:Addr):It:=
 ⟨fun i H=>∃ xs ys x y,SqL K H a xs/\SqL K H b ys/\xs[i]?=some x/\ys[i]?=some y,
  fun i H v H'=>∃ p x y,v=.ref p/\H p=none/\Same H H'/\H' p=some (.tup [x,y])/\(∀ xs,SqL K H a xs->xs[i]?=some x)/\∀ ys,SqL K H b ys->ys[i]?=some y,
  fun i H=>∃ xs ys,SqL K H a xs/\SqL K H b ys/\(xs.length<=i∨ys.length<=i)⟩
theorem zbt6 {P:Program}{w:World}{K:zcp3}{elts:List Expr}{k:Nat}{pos:Pos}(l1 l2 z TI TO i1 i2:Addr) (D:ZipApart z TI TO i1 i2 l1 l2) :
  Turn P w K (.Tuple elts k pos) (Itz K l1 l2) [z,TI,TO,i1,i2] z (fun i h=>IsZip h z TI TO .none/\IsPair h TI (.ref i1) (.ref i2)/\(∃ a b,IsPair h TO a b)/\h.IsListIter i1 l1 i/\h.IsListIter i2 l2 i) where
 mem:=by simp
 obj:=fun i h st b hb=>by
  obtain⟨hz,hTI,⟨a,b',hTO⟩,⟨o1,e1,c1,d1⟩,⟨o2,e2,c2,d2⟩⟩:=st
  simp only[zcq6,zcs4,or_false] at hb
  rcases hb with rfl|rfl|rfl|rfl|rfl
  ·exact⟨_,hz,fun v z=>by cases z⟩
  ·exact⟨_,hTI,fun v z=>by cases z⟩
  ·exact⟨_,hTO,fun v z=>by cases z⟩
  ·exact⟨o1,e1,fun v z=>by rw[d1] at z;cases z⟩
  ·exact⟨o2,e2,fun v z=>by rw[d2] at z;cases z⟩
 keep:=fun i h h' st kp=>by
  obtain⟨hz,hTI,⟨a,b',hTO⟩,h1,h2⟩:=st
  exact⟨kp z (by simp) _ hz,kp TI (by simp) _ hTI,⟨a,b',kp TO (by simp) _ hTO⟩,h1.at fun o x=>kp i1 (by simp) o x,h2.at fun o x=>kp i2 (by simp) o x⟩
 item:=by
  intro X hP hw hK hc i pins s σ H E I hf st hg
  subst hP hw hK
  obtain⟨hz,hTI,⟨a0,b0,hTO⟩,h1,h2⟩:=st
  obtain⟨xs,ys,x,y,hq1,hq2,hx,hy⟩:=hg
  obtain⟨its1,rv1,p1,_⟩:=I.list hq1
  obtain⟨its2,rv2,p2,_⟩:=I.list hq2
  obtain⟨u,hu,ru⟩:=rv1.get hx
  obtain⟨v,hv,rv⟩:=rv2.get hy
  have hzl:z<s.heap.objs.size:=zcq7 hz
  refine wpAny_pyNext_zip_item D hz hTI hTO h1 h2 p1.isList p2.isList (x:=u) (y:=v) (by simpa using hu) (by simpa using hv) fun h3 z3 TO3 j1 j2 T3 sz3 kp3=>?_
  refine⟨_,rfl,wpAny_letOwnedTupleGo_zip z3 fun h4 z4 hs4=>?_⟩
  replace hs4:Heap.SameBut z h3 h4:=hs4
  have kp:∀ b o,b ∉ [z,TI,TO,i1,i2]->s.heap.get? b=some o->h4.get? b=some o:=fun b o hb x=>by
   simp only[zcq6,zcs4,or_false,not_or] at hb
   obtain⟨b1,b2,b3,b4,b5⟩:=hb
   exact (hs4.2 b b1).trans (kp3 b o b1 b3 b4 b5 x)
  have ht4:h4.get? s.heap.objs.size=some { cls:=.type "tuple",data:=.seq #[u,v] }:=(hs4.2 _ (zcw3 hzl)).trans T3
  have hfr:H s.heap.objs.size=none:=I.fresh
  have nof:∀ b v,H b=some v->b ∉ [z,TI,TO,i1,i2]:=fun b v hb m=>by
   have:=(hf b m).1
   rw[this] at hb
   cases hb
  have nlt:∀ b o,s.heap.get? b=some o->b≠s.heap.objs.size:=fun b o x=>zcs5 (zcq7 x)
  have hok:HOk X.prog X.w (upd H s.heap.objs.size (.tup [x,y])) h4:=fun b v' hb=>by
   by_cases e1:b=s.heap.objs.size
   ·subst e1
    rw[zc2] at hb
    cases hb
    exact⟨by show 2<=sizeLine;decide,[u,v],.cons ru (.cons rv .nil),⟨_,ht4,rfl,_,rfl⟩⟩
   ·rw[zc0 e1] at hb
    refine (I.hok b v' hb).stay (fun c w' hc q=>?_) (fun c q=>?_) (fun c ys q=>?_)
    ·rcases hc with rfl|hc
     ·exact kp _ _ (nof _ _ hb) q
     ·exact kp _ _ (nof _ _ hc) q
    ·rw[zc0 (za6 q hfr)];exact q
    ·rw[zc0 (za6 q hfr)];exact q
  have chs:∀ b∈[z,TI,TO,i1,i2],(b∈X.ex∨X.s₀.heap.objs.size<=b)/\b≠X.env.locals/\(∀ x c,X.env.cells.lookup x=some c->c≠b)/\∀ p∈X.pn++pins,p.1≠b:=fun b hb=>by
   obtain⟨f0,f1,f2,f3,f4,f5⟩:=hf b hb
   exact⟨f3,f1,f4,f5⟩
  have I2:Inv X pins σ (upd H s.heap.objs.size (.tup [x,y])) { s with heap:=h4 }:=
   I.step (g':=s.gens) (d':=s.drawn) (t':=s.toks) (ch:=[z,TI,TO,i1,i2]) chs (fun b o _ _ hb x _=>kp b o hb x) (fun b o _ _ hb x _=>⟨o.slots,kp b o hb x⟩)
    (fun b o _ x n=>by rw[zc0 (nlt b o x)];exact n) (fun b o hb x=>⟨o,kp b o hb x⟩) (fun b ys q=>by rw[zc0 (za6 q hfr)];exact q) (fun b o v q=>by rw[zc0 (za6 q hfr)];exact q)
    (fun b ps q=>⟨#[],by rw[zc0 (za6 q hfr),q];simp⟩)
    (fun m hm=>by
     obtain⟨o,es,ep,ho,r⟩:=hm
     exact⟨o,es,ep,kp _ o (fun m=>(chs _ m).2.1 rfl) ho,r⟩) hok I.bare
  refine⟨.ref s.heap.objs.size,_,I2,rfl,⟨_,x,y,rfl,hfr,Same.upd hfr,zc2,fun ys hy'=>by rw[I.list_inj hy' hq1];exact hx,fun ys hy'=>by rw[I.list_inj hy' hq2];exact hy⟩,⟨z4,?_,⟨u,v,?_⟩,?_,?_⟩,fun b hb=>?_⟩
  ·exact (hs4.2 _ D.TIz).trans (kp3 _ _ D.TIz D.TITO D.TIi1 D.TIi2 hTI)
  ·exact (hs4.2 _ D.TOz).trans TO3
  ·exact j1.extBut hs4.extBut D.i1z
  ·exact j2.extBut hs4.extBut D.i2z
  ·have hb0:H b=none:=(hf b hb).1
   have hlt:b≠s.heap.objs.size:=by
    simp only[zcq6,zcs4,or_false] at hb
    rcases hb with rfl|rfl|rfl|rfl|rfl
    ·exact nlt _ _ hz
    ·exact nlt _ _ hTI
    ·exact nlt _ _ hTO
    ·obtain⟨o,ho,_⟩:=h1;exact nlt _ _ ho
    ·obtain⟨o,ho,_⟩:=h2;exact nlt _ _ ho
   rw[zc0 hlt];exact hb0
 done:=by
  intro X hP hw hK hc i pins s σ H E I hf st hg
  subst hP hw hK
  obtain⟨hz,hTI,⟨a0,b0,hTO⟩,h1,h2⟩:=st
  obtain⟨xs,ys,hq1,hq2,hx⟩:=hg
  obtain⟨its1,rv1,p1,_⟩:=I.list hq1
  obtain⟨its2,rv2,p2,_⟩:=I.list hq2
  have hl1:=rv1.length
  have hl2:=rv2.length
  have nof:∀ b v,H b=some v->b ∉ [z,TI,TO,i1,i2]:=fun b v hb m=>by
   have:=(hf b m).1
   rw[this] at hb
   cases hb
  have chs:∀ b∈[z,TI,TO,i1,i2],(b∈X.ex∨X.s₀.heap.objs.size<=b)/\b≠X.env.locals/\(∀ x c,X.env.cells.lookup x=some c->c≠b)/\∀ p∈X.pn++pins,p.1≠b:=fun b hb=>by
   obtain⟨f0,f1,f2,f3,f4,f5⟩:=hf b hb
   exact⟨f3,f1,f4,f5⟩
  refine wpAny_pyNext_zip_end (I.ok.hd hc) D hz hTI hTO h1 h2 p1.isList p2.isList ?_ fun h' kp3=>⟨rfl,?_⟩
  ·rcases hx with hx|hx
   ·exact .inl (by simp;omega)
   ·exact .inr (by simp;omega)
  ·have kp:∀ b o,b ∉ [z,TI,TO,i1,i2]->s.heap.get? b=some o->h'.get? b=some o:=fun b o hb x=>by
    simp only[zcq6,zcs4,or_false,not_or] at hb
    obtain⟨b1,b2,b3,b4,b5⟩:=hb
    exact kp3 b o b1 b3 b4 b5 x
   have hok:HOk X.prog X.w H h':=fun b v' hb=>by
    refine (I.hok b v' hb).stay (fun c w' hc q=>?_) (fun c q=>q) (fun c ys q=>q)
    rcases hc with rfl|hc
    ·exact kp _ _ (nof _ _ hb) q
    ·exact kp _ _ (nof _ _ hc) q
   exact I.step (g':=s.gens) (d':=s.drawn) (t':=s.toks) (ch:=[z,TI,TO,i1,i2]) chs (fun b o _ _ hb x _=>kp b o hb x) (fun b o _ _ hb x _=>⟨o.slots,kp b o hb x⟩)
    (fun b o _ x n=>n) (fun b o hb x=>⟨o,kp b o hb x⟩) (fun b ys q=>q) (fun b o v q=>q)
    (fun b ps q=>⟨#[],by rw[q];simp⟩)
    (fun m hm=>by
     obtain⟨o,es,ep,ho,r⟩:=hm
     exact⟨o,es,ep,kp _ o (fun m=>(chs _ m).2.1 rfl) ho,r⟩) hok I.bare
 self:=fun _ _ _ _ _ st h=>wpAny_pyIter_zip st.1 h
section
variable {X:Cx}{K:zcp3}
theorem bt_zip:bootBuiltins "zip"=some (.type "zip"):=by decide +kernel
@[irreducible] def rZip (K:zcp3) (a b:Addr) (H:Hp) (R:It->Hp->Prop):Prop:=(∃ xs,SqL K H a xs)/\(∃ ys,SqL K H b ys)/\R (Itz K a b) H
def qiZip (K:zcp3) (ta:TA):TI:=fun σ H R=>ta σ H fun vs H1=>match vs with
 | [.ref a,.ref b]=>rZip K a b H1 R
 | _=>False
theorem zbn0 {elts:List Expr}{k:Nat}{pt:Pos}{a b:Expr}{ta:TA}{p pos:Pos}(hK:X.K=K) (hm:X.mg "zip"=none) (ha:PA X [a,b] ta) (hg:Gl X "zip":=by rfl) (hs:starEach [a,b] X.env=(false,eval a X.env) :: starEach [b] X.env:=by rfl)
  (hpl:(backTo pos (starEach [b] X.env)).any (·.1)=false:=by rfl) :
  PI X (.Tuple elts k pt) (.Call (.Name "zip" p) [a,b] [] pos) (qiZip K ta):=by
 subst hK
 intro pins s σ H R I h
 refine Call_ (zaa0 I hg hm bt_zip (PyProof.Rows.callWith_type1 (thn (ha pos pins s σ H _ I h) fun us s1 ⟨vs,H1,I1,r1,q1⟩=>?_) hs hpl))
 dsimp only at q1
 split at q1
 ·rename_i l m
  unfold rZip at q1
  obtain⟨⟨xs,hq1⟩,⟨ys,hq2⟩,q⟩:=q1
  obtain⟨u1,u2,rfl,rx,ry⟩:=zaq7 r1
  cases rx
  cases ry
  obtain⟨its1,rv1,p1,_⟩:=I1.list hq1
  obtain⟨its2,rv2,p2,_⟩:=I1.list hq2
  have l1:@LT.lt Nat _ l s1.heap.objs.size:=by obtain⟨o,ho,_⟩:=p1.isList;exact zcq7 ho
  have l2:@LT.lt Nat _ m s1.heap.objs.size:=by obtain⟨o,ho,_⟩:=p2.isList;exact zcq7 ho
  refine call_zip_2 p1.isList p2.isList fun h' hz hTI hTO j1 j2 hsz hk=>?_
  refine wpAny_pyIter_zip hz ?_
  have I2:Inv X pins σ H1 { s1 with heap:=h' }:=I1.kept (t':=s1.toks) hk
  have D:ZipApart (s1.heap.objs.size+4) (s1.heap.objs.size+2) (s1.heap.objs.size+3) s1.heap.objs.size (s1.heap.objs.size+1) l m:=by
   constructor<;>(intro z;have z:(_:Nat)=_:=z;omega)
  refine⟨_,_,_,Itz X.K l m,H1,rfl,I2,zbt6 l m _ _ _ _ _ D,⟨hz,hTI,⟨_,_,hTO⟩,j1,j2⟩,fun b hb=>?_,q⟩
  have hb':s1.heap.objs.size<=b:=by
   simp only[zcq6,zcs4,or_false] at hb
   rcases hb with rfl|rfl|rfl|rfl|rfl
   ·exact zcw8 _ _
   ·exact zcw8 _ _
   ·exact zcw8 _ _
   ·exact zcq9 _
   ·exact zcw8 _ _
  exact I1.fpOk hb' (I1.hok.fresh hb')
 ·exact q1.elim
end
section
variable {K:zcp3}{g:TG}{tb:TS}{D:Ends}{σ:St}{H:Hp}{R:It->Hp->Prop}
theorem zbm9 {a b:Addr}{xs ys:List V}(h:SqL K H a xs) (h':SqL K H b ys) (q:R (Itz K a b) H):rZip K a b H R:=by unfold rZip;exact⟨⟨xs,h⟩,⟨ys,h'⟩,q⟩
theorem Wk.zip {a b:Addr}{xs ys:List V}{n:Nat}{H1:Hp}(h:SqL K H1 a xs) (h':SqL K H1 b ys) (hx:xs.length=n) (hy:ys.length=n):Wk (Itz K a b) n H1 fun i v H=>∃ p x y,v=.ref p/\H p=some (.tup [x,y])/\xs[i]?=some x/\ys[i]?=some y:=
 ⟨fun i H s hi=>⟨xs,ys,xs[i],ys[i],s.seq h,s.seq h',by simp,by simp⟩,fun H s=>⟨xs,ys,s.seq h,s.seq h',.inl (Nat.le_of_eq hx)⟩,fun i H v H' s _ y=>by
  obtain⟨p,x,y,rfl,y1,y2,y3,y4,y5⟩:=y
  exact⟨y2,p,x,y,rfl,y3,y4 xs (s.seq h),y5 ys (s.seq h')⟩⟩
end
end L2
set_option maxHeartbeats 2000000
namespace L2
open PySem PySem.Spec PyProof.Rows
section
variable {X:Cx}{K:zcp3}
end
section
variable {J:It}{n:Nat}{H1:Hp}{X:Nat->V->Hp->Prop}{g:TG}{tt:TT}{te:TE}{σ0:St}{Q:VK}
theorem zbm5 (w:Wk J n H1 X) (hn:n<sizeLine) (Pv:Addr->Nat->List V->St->Hp->Prop) (h0:∀ acc H,H1 acc=none->Same H1 H->H acc=some (.lst [])->Pv acc 0 [] σ0 H)
  (hP:∀ acc i ys σ H H',Same H H'->Pv acc i ys σ H->Pv acc i ys σ H')
  (turn:∀ acc i x ys σ H (R:St->V->Hp->Prop) (S:St->Hp->Prop),i<n->H1 acc=none->Same H1 H->H acc=some (.lst ys)->X i x H->Pv acc i ys σ H ->
   (∀ σ2 v H5,Same H H5->(∀ H6,Chg acc H5 H6->Pv acc (i+1) (ys++[v]) σ2 H6)->R σ2 v H5)->(∀ σ2 H5,Same H H5->Pv acc (i+1) ys σ2 H5->S σ2 H5) ->
   g x σ H fun σ2 H3=>tt σ2 H3 fun b H4=>br b (te σ2 H4 fun v H5=>R σ2 v H5) (S σ2 H4))
  (fin:∀ acc ys σ H,H1 acc=none->Same H1 H->H acc=some (.lst ys)->Pv acc n ys σ H->Q (.ref acc) H):zy1 J g tt te σ0 H1 Q:=by
 unfold zy1
 intro acc H2 hf hs ha
 refine⟨fun i m ys σ H=>m=n - i/\i<=n/\ys.length<=i/\Same H1 H/\H acc=some (.lst ys)/\Pv acc i ys σ H,⟨n,by simp,zct3 _,zcq9 _,hs,ha,h0 acc H2 hf hs ha⟩,?_⟩
 rintro i m ys σ H ⟨rfl,hi,hl,s,hy,P⟩
 refine⟨hy,by omega,?_⟩
 by_cases hlt:i<n
 ·refine .inr ⟨w.go i H s hlt,fun x H' y=>?_⟩
  obtain⟨s1,x1⟩:=w.yld i H x H' s hlt y
  refine turn acc i x ys σ H' (fun σ2 v H5=>cPut _ acc ys i (n - i) σ2 v H5) (fun σ2 H4=>zaj8 _ ys i (n - i) σ2 H4) hlt hf (s.trans s1) (s1 _ _ hy) x1 (hP _ _ _ _ _ _ s1 P) ?_ ?_
  ·intro σ2 v H5 s5 q
   have s15:=s1.trans s5
   unfold cPut
   refine⟨s15 _ _ hy,fun H6 c6 h6=>⟨n - (i+1),by omega,rfl,hlt,by rw[zcr0];simp;omega,(s.trans s15).chg hf c6,h6,q H6 c6⟩⟩
  ·intro σ2 H5 s5 q
   have s15:=s1.trans s5
   unfold zaj8
   exact⟨n - (i+1),by omega,rfl,hlt,by omega,s.trans s15,s15 _ _ hy,q⟩
 ·have e:i=n:=by omega
  subst e
  exact .inl ⟨w.stop H s,fin acc ys σ H hf s hy P⟩
end
end L2
set_option maxHeartbeats 2000000
namespace PySem
open Sem (wp)
namespace F
end F
section
variable {prog:Program}{w:World}{A:Around}{E:Value->Shared->Prop}{s:Shared}
end
section
variable {prog:Program}{w:World}{A:Around}{E:Value->Shared->Prop}{s:Shared}
end
end PySem
set_option maxHeartbeats 2000000
namespace L2
open PySem PySem.Spec PyProof.Rows
section
variable {X:Cx}{K:zcp3}
end
section
variable {K:zcp3}{H:Hp}{R:It->Hp->Prop}
end
end L2
set_option maxHeartbeats 2000000
namespace L2
open PySem PySem.Spec PyProof.Rows
section
variable {X:Cx}{K:zcp3}
end
end L2
set_option maxHeartbeats 2000000
namespace L2
open PySem PySem.Spec PyProof.Rows
section
variable {X:Cx}{K:zcp3}
end
end L2
set_option maxHeartbeats 2000000
namespace L2
open PySem PySem.Spec PyProof.Rows
section
variable {X:Cx}{K:zcp3}
@[irreducible] def rTupA (K:zcp3) (p:Addr) (H:Hp) (Q:VK):Prop:=∃ ys,SqL K H p ys/\∀ l H',H l=none->Same H H'->H' l=some (.tup ys)->Q (.ref l) H'
def rTupM (K:zcp3):List V->Hp->VK->Prop:=fun xs H Q=>match xs with
 | [.ref p]=>rTupA K p H Q
 | _=>False
theorem cTupK (hK:X.K=K):zn5 X (.type "tuple") (rTupM K):=fun pins s σ H xs us Q I r h=>by
 subst hK
 unfold rTupM at h
 split at h
 ·unfold rTupA at h
  obtain⟨ys,h1,h2⟩:=h
  exact zak1 pins s σ H _ us Q I r ⟨_,ys,rfl,.inl ⟨h1,fun l hl=>h2 l _ hl (Same.upd hl) zc2⟩⟩
 ·exact h.elim
theorem zch6 {p:Addr}{H:Hp}{Q:VK}{ys:List V}(h:SqL K H p ys) (q:∀ l H',H l=none->Same H H'->H' l=some (.tup ys)->Q (.ref l) H'):rTupA K p H Q:=by unfold rTupA;exact⟨ys,h,q⟩
end
theorem Same.seqT {K:zcp3}{H H':Hp}{a:Addr}{xs:List V}(e:Same H H') (h:H a=some (.tup xs)):SqT K H' a xs:=SqT.of (e _ _ h)
theorem Wk.tup {K:zcp3}{a:Addr}{xs:List V}{H1:Hp}(h:H1 a=some (.tup xs)):Wk (Itt K a) xs.length H1 fun i x _=>xs[i]?=some x:=
 ⟨fun i H s hi=>⟨xs,xs[i],Same.seqT s h,by simp[hi]⟩,fun H s=>⟨xs,Same.seqT s h,zcq9 _⟩,fun i H x H' s _ y=>by
  obtain⟨e,y⟩:=y
  subst e
  exact⟨Same.refl _,y xs (Same.seqT s h)⟩⟩
end L2
set_option maxHeartbeats 4000000
namespace L2
open PySem PySem.Spec PyProof.Rows
section
variable {X:Cx}{K:zcp3}{H:Hp}{Q:VK}
end
section
variable {X:Cx}{K:zcp3}
end
end L2
set_option maxHeartbeats 4000000
namespace L2
open PySem PySem.Spec PyProof.Rows
section
variable {prog:Program}{w:World}{A:Around}{E:Value->Shared->Prop}{h:Heap}{g:Array GenState}{d:Drawn}{t:Nat}{os:OsState}
variable {nm q:Str}{C N:Addr}{bs bm bmB:List Value}{hdct:Bool}{sn:List Str}{sub:List Value}{ab:Bool}{col:Option Bool}{dd:Option Addr}{k0 k1 k2 k3 k5:Option Value}{B newId initId:String}{K:zcp3}
theorem zah2 (F:ExcBaseFacts B newId initId bmB) (T:OwnTail h bmB bm) (X:K.In h) {rest:List Value}{fI:Addr}{Q:Fin->Shared->Prop}
  (hC:h.get? C=some (excClassObj nm q C N bs bm hdct sn sub ab col dd k0 k1 k2 k3 k5 newId)) (hi:zct4 K (.ref C) "__init__"=some (some (.ref fI))) (hf:zcu5 K (.ref fI)=some (.type "function"))
  (hq:∀ h' e,Heap.MadeExcOf h h' e (.ref C) rest->h.objs.size<=e->wpAny (model prog w) A (call (.ref fI) (.ref e :: rest)) (fun r s'=>r=.none/\Q (.done (.ret (.ref e))) s') E ⟨h',g,d,t,os⟩) (hrest:rest.length<=sizeLine) :
  wpAny (model prog w) A (Builtin.«type.__call__» ⟨.ref C :: rest,[]⟩) Q E ⟨h,g,d,t,os⟩:=by
 repeat (first|with_reducible refine wpAny_loadPart_at hC ?_|with_reducible refine wpAny_madeBy_exc hC ?_|wp_step)
 refine codeAny_call_builtin_code (Code.quiet_builtin _ F.quiet) (wpAny_check_new_subT F T hC ?_)
 refine codeAny_exc_new_subT F T hC ?_ hrest
 show wpAny _ _ _ _ _ _
 have kp:∀ b o,h.get? b=some o->((h.push { cls:=.type "tuple",data:=.seq rest.toArray }).push { cls:=.ref C,data:=.fields #[.ref h.objs.size,.none,.none,.none,.bool false,.none] }).get? b=some o:=fun b o e=>zcp8 _ (zcp8 _ e)
 have hC₁:=kp _ _ hC
 have X₁:=X.keeps kp
 have hget:((h.push { cls:=.type "tuple",data:=.seq rest.toArray }).push
   { cls:=.ref C,data:=.fields #[.ref h.objs.size,.none,.none,.none,.bool false,.none] }).get? (h.objs.size+1)=some
   { cls:=.ref C,data:=.fields #[.ref h.objs.size,.none,.none,.none,.bool false,.none] }:=by heap_get
 have hcC:(Value.ref C :: bm).contains (.ref C)=true:=by simp
 unfold isInstance
 repeat (first|with_reducible refine wpAny_loadPart_at hget ?_|(with_reducible refine wpAny_isSubtype_exc hC₁ ?_;rw[hcC])|wp_step)
 show wpAny _ _ (typeLookup (.ref C) _) _ _ _
 refine (PySem.W.looks_findIn X₁ hi).at ?_
 refine wpAny_holding (wpAny_bind ((PySem.W.bind_fn X₁ _ hf).at ?_))
 refine wpAny_bind (wpAny_mono (hq _ (h.objs.size+1) ⟨kp,Heap.get?_none_of_le (zcv7 _),h.objs.size,hget,Heap.get?_none_of_le (zcq9 _),?_⟩ (zcv7 _)) (fun r s' hr=>?_) fun _ _ x=>x)
 ·exact zcp8 _ (Heap.get?_push_at rfl rfl)
 ·obtain⟨rfl,hQ⟩:=hr
  wp_walk
  exact hQ
theorem zbo4 (F:ExcBaseFacts B newId initId bmB) (T:OwnTail h bmB bm) (X:K.In h) {rest:List Value}{fI:Addr}{Q:Value->Shared->Prop}
  (hC:h.get? C=some (excClassObj nm q C N bs bm hdct sn sub ab col dd k0 k1 k2 k3 k5 newId)) (hi:zct4 K (.ref C) "__init__"=some (some (.ref fI))) (hf:zcu5 K (.ref fI)=some (.type "function"))
  (hq:∀ h' e,Heap.MadeExcOf h h' e (.ref C) rest->h.objs.size<=e ->
   wpAny (model prog w) (A.under (.builtin "type.__call__" ⟨.ref C :: rest,[]⟩)) (call (.ref fI) (.ref e :: rest)) (fun r s'=>r=.none/\Q (.ref e) s') E ⟨h',g,d,t,os⟩) (hrest:rest.length<=sizeLine) :
  wpAny (model prog w) A (call (.ref C) rest) Q E ⟨h,g,d,t,os⟩:=by
 have f1:=tc_lookup
 have f2:=tc_bind (.ref C)
 have hT:(⟨h,g,d,t,os⟩:Shared).TypeIs (.ref C) "type":=⟨_,hC,rfl⟩
 refine wpAny_call (codeAny_of_tree ?_)
 show wpAny _ _ (callAny (.ref C) _) _ _ _
 repeat (any_goals (first|assumption|with_reducible refine wpAny_loadPart_at hC ?_|wp_step))
 refine⟨rfl,?_⟩
 refine codeAny_call_builtin_at (Code.quiet_builtin _ (by decide +kernel)) entry_typeCall (wpAny_check_type_call_sub hC (zah2 (hrest:=hrest) F T X hC hi hf fun h' e hm hz=>?_))
 exact hq h' e hm hz
end
section
variable {prog:Program}{w:World}{A:Around}{E:Value->Shared->Prop}{s:Shared}{env:Env}
variable {nm q:Str}{C N:Addr}{bs bm bmB:List Value}{hdct:Bool}{sn:List Str}{sub:List Value}{ab:Bool}{col:Option Bool}{dd:Option Addr}{k0 k1 k2 k3 k5:Option Value}{B newId initId:String}{K:zcp3}
theorem zs1 {M:Model}{x:Sem Value}{Q:Flow->Shared->Prop}(hbase:bm.contains (.type "BaseException")=true) (hh:A.handled=none)
  (h:wpAny M A x (fun v s₁=>∃ (e t:Addr) (dx:Option Addr),v=.ref e/\s₁.heap.get? C=some (excClassObj nm q C N bs bm hdct sn sub ab col dd k0 k1 k2 k3 k5 newId)/\s₁.heap.get? e=some { cls:=.ref C,dict:=dx,data:=.fields #[.ref t,.none,.none,.none,.bool false,.none] }/\E (.ref e) s₁) E s) :
  wpAny M A (raiseStmt env (some x) none) Q E s:=by
 have hcB:(Value.ref C :: bm).contains (.type "BaseException")=true:=by rw[List.contains_cons,hbase,Bool.or_true]
 unfold raiseStmt
 refine wpAny_bind (wpAny_mono h (fun v s₁ h₁=>?_) fun _ _ x=>x)
 obtain⟨e,t,dx,rfl,hC,he,hE⟩:=h₁
 obtain⟨hp,g,d,tk,os⟩:=s₁
 repeat (first|with_reducible refine wpAny_loadPart_at he ?_|with_reducible refine wpAny_loadPart_at hC ?_|(with_reducible refine wpAny_isSubtype_exc hC ?_;rw[hcB])|wp_step)
 exact wpAny_raiseNew_none hh hE
theorem zbe9 (F:ExcBaseFacts B newId initId bmB) {x:Str}{np cpos pos:Pos}{args:List Expr}{fI:Addr}{Q:Flow->Shared->Prop}
  (hbase:bm.contains (.type "BaseException")=true) (hh:A.handled=none) (hplain:(backTo cpos (starEach args env)).any (·.1)=false) (hi:zct4 K (.ref C) "__init__"=some (some (.ref fI))) (hf:zcu5 K (.ref fI)=some (.type "function"))
  (h:wpAny (model prog w) A (eval (.Name x np) env) (fun f s₁=>f=.ref C/\wpAny (model prog w) A (evalArgs (.ref C) true (backTo cpos (starEach args env)) [])
   (fun a s₂=>a.kw=[]/\a.pos.length<=sizeLine/\s₂.heap.get? C=some (excClassObj nm q C N bs bm hdct sn sub ab col dd k0 k1 k2 k3 k5 newId)/\K.In s₂.heap/\OwnTail s₂.heap bmB bm /\
    ∀ h' e,Heap.MadeExcOf s₂.heap h' e (.ref C) a.pos->s₂.heap.objs.size<=e->wpAny (model prog w) (A.under (.builtin "type.__call__" ⟨.ref C :: a.pos,[]⟩)) (call (.ref fI) (.ref e :: a.pos))
     (fun r s'=>r=.none/\(∃ (t:Addr) (dx:Option Addr),s'.heap.get? e=some { cls:=.ref C,dict:=dx,data:=.fields #[.ref t,.none,.none,.none,.bool false,.none] })/\s'.heap.get? C=some (excClassObj nm q C N bs bm hdct sn sub ab col dd k0 k1 k2 k3 k5 newId)/\E (.ref e) s') E { s₂ with heap:=h' }) E s₁) E s) :
  wpAny (model prog w) A (exec (.Raise (some (.Call (.Name x np) args [] cpos)) none pos) env) Q E s:=by
 rw[arm_exec_Raise]
 first
  | refine wpAny_bind (wpAny_standAt (zs1 (C:=C) (nm:=nm) (q:=q) (N:=N) (bs:=bs) (bm:=bm) (hdct:=hdct) (sn:=sn) (sub:=sub) (ab:=ab) (col:=col) (dd:=dd) (k0:=k0) (k1:=k1) (k2:=k2) (k3:=k3) (k5:=k5) (newId:=newId) hbase hh (wpAny_bind (wpAny_mono (wpAny_Call_ofName (wpAny_mono h (fun f s₁ h₁=>?_) fun _ _ x=>x)) (fun v s₃ h₃=>wpAny_bind (wpAny_standAt (wpAny_pure h₃))) fun _ _ x=>x))))
  | (simp only[evalOpt,Option.map];refine wpAny_bind (wpAny_standAt (zs1 (C:=C) (nm:=nm) (q:=q) (N:=N) (bs:=bs) (bm:=bm) (hdct:=hdct) (sn:=sn) (sub:=sub) (ab:=ab) (col:=col) (dd:=dd) (k0:=k0) (k1:=k1) (k2:=k2) (k3:=k3) (k5:=k5) (newId:=newId) hbase hh (wpAny_bind (wpAny_mono (wpAny_Call_ofName (wpAny_mono h (fun f s₁ h₁=>?_) fun _ _ x=>x)) (fun v s₃ h₃=>wpAny_bind (wpAny_standAt (wpAny_pure h₃))) fun _ _ x=>x)))))
 obtain⟨rfl,h₁⟩:=h₁
 unfold callWith
 refine wpAny_bind (wpAny_holding (wpAny_mono h₁ (fun a s₂ h₂=>wpAny_bind (wpAny_standAt ?_)) fun _ _ x=>x))
 obtain⟨apos,akw⟩:=a
 obtain⟨hkw,hlen,hC,hX,T,h₂⟩:=h₂
 obtain rfl:akw=[]:=hkw
 obtain⟨hp,g,d,tk,os⟩:=s₂
 simp only[hplain]
 refine wpAny_bind (wpAny_keeperOf_exc hC ?_)
 refine wpAny_bind (zbo4 (hrest:=hlen) F T hX hC hi hf fun h' e hm hz=>wpAny_mono (h₂ h' e hm hz) (fun r s' hr=>⟨hr.1,wpAny_bind (wpAny_holding (wpAny_point (wpAny_pure ?_)))⟩) fun _ _ z=>z)
 obtain⟨_,⟨t,dx,ho⟩,hC',hE⟩:=hr
 exact⟨e,t,dx,rfl,hC',ho,hE⟩
end
section
open PySem.W
variable {prog:Program}{w:World}{A:Around}{E:Value->Shared->Prop}{s:Shared}{K:Frag}
theorem zca8 {x C aH:Addr}{ox:Obj}{vs:Array Value}{name:Str}{v:Value}{cd:ClassData}{Q:Unit->Shared->Prop}(X:K.In s.heap) (hx:s.heap.get? x=some ox) (hc:ox.cls=.ref C) (hdx:ox.dict=none) (hd:ox.data=.fields vs)
  (hs:findIn K (.ref C) "__setattr__"=some (some (.builtin "object.__setattr__"))) (hcd:clsIn K C=some cd) (hmro:cd.mro=.ref C :: .ref aH :: bmV) (hh:cd.hasDict=true) (hn:findIn K (.ref C) name=some none)
  (hq:∀ h' tk',h'.get? x=some { ox with dict:=some s.heap.objs.size }->h'.Ns1 s.heap.objs.size (fun y=>if y=name then some v else none)->(∀ b o,b≠x->s.heap.get? b=some o->h'.get? b=some o)->Q () { s with heap:=h',toks:=tk' }) :
  wpAny (model prog w) A (setAttr (.ref x) name v) Q E s:=by
 have I:InstAt s.heap x ox C none:=⟨hx,hc,by unfold notCls;rw[hd],by rw[hdx];trivial⟩
 refine set_plain X I hs ?_
 have SF:=PySem.F.store_object
 have hm:Looks (model prog w) s.heap (mroOf (.ref C)) cd.mro:=(looks_clsIn X hcd).andThen .now
 have ty:=I.type (M:=model prog w)
 have sub:Looks (model prog w) s.heap (isInstance (.ref x) (.type "object")) true:=ty.andThen (looks_mroIn X (by unfold mroIn;rw[hcd,Option.bind_some,hmro];rfl))
 refine codeAny_call_builtin SF.slot.plain SF.entry (@check_slot (model prog w) _ _ { s with toks:=s.toks+1 } "object.__setattr__" "object" "__setattr__" (.ref x) [.str name s.toks,v] [] _ SF.kind SF.split sub (SF.args (.ref x) (.str name s.toks) v) ?_)
 rw[osa_eq,refuse_eq]
 refine wpAny_bind (wpAny_bind (ty.here (s:={ s with toks:=s.toks+1 }) (wpAny_bind (hm.here (s:={ s with toks:=s.toks+1 }) ?_))))
 rw[hmro,refuseLoop_ref,refuseLoop_ref,PySem.F.store_ValueError.passes]
 refine wpAny_pure (wpAny_bind (ty.here (s:={ s with toks:=s.toks+1 }) (wpAny_bind ((looks_findIn X hn).here (s:={ s with toks:=s.toks+1 }) (wpAny_bind (wpAny_pure ?_))))))
 have hxs:x≠s.heap.objs.size:=zcs5 (zcq7 hx)
 have hx₁:(s.heap.push { cls:=.type "dict",data:=.dict #[] }).get? x=some ox:=zcp8 _ hx
 show wpAny _ _ (Builtin.ObjectAttr.storeInOwnDict (.ref x) (.ref C) (.str name s.toks) name v false) _ _ _
 unfold Builtin.ObjectAttr.storeInOwnDict Builtin.ObjectAttr.ownDictForStores instanceDict
 refine wpAny_bind (wpAny_pure (wpAny_bind (wpAny_bind (wpAny_loadPart (s:={ s with toks:=s.toks+1 }) hx ?_))))
 rw[hc]
 refine wpAny_bind ((looks_clsIn X hcd).here (s:={ s with toks:=s.toks+1 }) ?_)
 rw[hh]
 dsimp only
 rw[hdx,if_neg (by decide)]
 dsimp only
 rw[if_neg (by simp[typeHasDict]),hd]
 dsimp only
 refine wpAny_bind (wpAny_alloc' ?_)
 refine wpAny_bind (wpAny_update' hx₁ ?_)
 refine wpAny_pure ?_
 have hgd:((s.heap.push { cls:=.type "dict",data:=.dict #[] }).update x fun o=>{ cls:=o.cls,dict:=some s.heap.objs.size,data:=o.data,slots:=o.slots }).get? s.heap.objs.size=some { cls:=.type "dict",data:=.dict #[] }:=
  (Heap.get?_update_ne _ _ _ _ hxs.symm).trans (Heap.get?_push_at rfl rfl)
 have hnd:((s.heap.push { cls:=.type "dict",data:=.dict #[] }).update x fun o=>{ cls:=o.cls,dict:=some s.heap.objs.size,data:=o.data,slots:=o.slots }).Ns s.heap.objs.size (fun _=>none):=
  ⟨_,#[],_,hgd,rfl,fun e he=>absurd he (by simp),fun _=>rfl⟩
 show wpAny _ _ (Builtin.ObjectAttr.storeInDict s.heap.objs.size (.str name s.toks) name v) _ _ _
 unfold Builtin.ObjectAttr.storeInDict Builtin.ObjectAttr.newKeyGuard
 refine wpAny_bind (wpAny_pure (wpAny_bind (wpAny_nsSet1 (Heap.Ns1.of_empty hnd) fun h' hn' hs=>?_)))
 obtain⟨oD,esD,epD,hoD,hdD,hcD⟩:=hn'.count (Within.cons name v Within.nil)
 refine wpAny_bind (wpAny_lookBehind hoD (by rw[hdD];exact pastItsLine_dict (zcu1 hcD (by rw[zcr8,zcu4,sizeLine_eq];omega))) ?_)
 refine wpAny_pure (hq h' _ ?_ hn' (fun b ob hbx hb=>?_))
 ·refine (hs.2 x hxs).trans (zcu3 _ hx₁ ?_)
  have hfr:=(Heap.get?_some_iff.mp hx).2
  obtain⟨oc,od,odt,osl⟩:=ox
  cases odt<;>first|rfl|exact hfr
 ·exact (hs.2 b (zcs5 (zcq7 hb))).trans ((Heap.get?_update_ne _ _ _ _ hbx).trans (zcp8 _ hb))
end
end L2
set_option maxHeartbeats 4000000
namespace L2
open PySem PySem.Spec PyProof.Rows
def ExNew (e:Addr) (cls:Value) (dx:Option Addr) (h:Heap):Prop:=∃ t:Addr,h.get? e=some { cls:=cls,dict:=dx,data:=.fields #[.ref t,.none,.none,.none,.bool false,.none] }
abbrev exN (e:Addr) (cls:Value) (dx:Option Addr):HO:=.ext (ExNew e cls dx)
theorem zca2 {P:Program}{w:World}{H:Hp}{h:Heap}{e:Addr}{cls:Value}{dx:Option Addr}(x:ExNew e cls dx h):zf3 P w H h e (exN e cls dx):=by
 obtain⟨t,ht⟩:=id x
 exact⟨x,⟨_,ht⟩,fun h1 h2 ⟨t',e1⟩ k=>⟨t',k _ e1⟩⟩
structure IniK (K:zcp3) (C aH f:Addr) (fld:Str):Prop where
 ob:∃ (nm q:Str) (N:Addr) (bs:List Value) (sn:List Str) (sub:List Value) (ab:Bool) (col:Option Bool) (dd:Option Addr) (k0 k1 k2 k3 k5:Option Value),K.lookup C=some (excClassObj nm q C N bs (.ref aH :: bmV) true sn sub ab col dd k0 k1 k2 k3 k5 newV)
 tl:∀ h:Heap,K.In h->OwnTail h bmV (.ref aH :: bmV)
 init:zct4 K (.ref C) "__init__"=some (some (.ref f))
 fn:zcu5 K (.ref f)=some (.type "function")
 sa:zct4 K (.ref C) "__setattr__"=some (some (.builtin "object.__setattr__"))
 nf:zct4 K (.ref C) fld=some none
section
variable {X:Cx}{K:zcp3}
@[irreducible] def rSetX (C:Addr) (fld:Str) (e:Addr) (y:V) (H:Hp) (R:Hp->Prop):Prop:=H e=some (exN e (.ref C) none)/\∀ d H',H d=none->d≠e->Chg e H H'->H' e=some (exN e (.ref C) (some d))->H' d=some (.xd [(fld,y)])->R H'
def sFldX (C:Addr) (fld:Str) (ta tv:TE):TS:=fun D σ H=>tv σ H fun y H1=>ta σ H1 fun x H2=>match x with
 | .ref e=>rSetX C fld e y H2 (fun H'=>D.nx σ H')
 | _=>False
theorem zcg4 {C:Addr}{fld:Str}{e:Addr}{y:V}{H:Hp}{R:Hp->Prop}(h:H e=some (exN e (.ref C) none)) (q:∀ d H',H d=none->d≠e->Chg e H H'->H' e=some (exN e (.ref C) (some d))->H' d=some (.xd [(fld,y)])->R H'):rSetX C fld e y H R:=by unfold rSetX;exact⟨h,q⟩
theorem psFldX {C aH f:Addr}{fld:Str}{o value:Expr}{ta tv:TE}{pos pos':Pos}(hK:X.K=K) (Z:IniK K C aH f fld) (ha:PE X o ta) (hv:PE X value tv) (hs:swapsWith value (some (.Attribute o fld pos')) pos.line X.env=pure false:=by rfl):PS X (.Assign [.Attribute o fld pos'] value pos) (sFldX C fld ta tv):=by
 subst hK
 intro pins s σ H D I h
 refine plainObj_wpAny_Assign_Attribute (thn (hv pins s σ H _ I h) fun u s1 ⟨y,H1,I1,ry,q⟩=>thn (ha pins s1 σ H1 _ I1 q) fun ov s2 ⟨x,H2,I2,rx,q2⟩=>?_) hs
 dsimp only at q2
 split at q2
 case h_2=>exact q2.elim
 rename_i e
 obtain rfl:ov=Value.ref e:=rx
 unfold rSetX at q2
 obtain⟨he,q2⟩:=q2
 obtain⟨⟨t,ht⟩,_,_⟩:=(show zf3 X.prog X.w H2 s2.heap e (exN e (.ref C) none) from I2.hok e _ he)
 obtain⟨nm,qn,N,bs,sn,sub,ab,col,dd,k0,k1,k2,k3,k5,lk⟩:=Z.ob
 have hcd:zct5 X.K C=some { name:=nm,bases:=bs,mro:=Value.ref C :: .ref aH :: bmV,ns:=N,qualname:=qn,hasDict:=true,slotNames:=sn,subclasses:=sub,abstract:=ab,collection:=col }:=by
  unfold zct5;rw[lk]
 refine zca8 I2.kIn ht rfl rfl rfl Z.sa hcd rfl rfl Z.nf fun h' tk' hx' hn' hk=>?_
 have hf:H2 s2.heap.objs.size=none:=I2.hok.fresh (zcq9 _)
 have hne:s2.heap.objs.size≠e:=zcw3 (zcq7 ht)
 have e1:(h'.update e fun _=>{ cls:=.ref C,data:=.fields #[.ref t,.none,.none,.none,.bool false,.none] }).get? e=some { cls:=.ref C,data:=.fields #[.ref t,.none,.none,.none,.bool false,.none] }:=zcu3 _ hx' rfl
 have k1:∀ b u,s2.heap.get? b=some u->(h'.update e fun _=>{ cls:=.ref C,data:=.fields #[.ref t,.none,.none,.none,.bool false,.none] }).get? b=some u:=fun b u hb=>by
  by_cases hbe:b=e
  ·subst hbe
   rw[e1];exact ht.symm.trans hb
  ·rw[zcr7 _ _ (Ne.symm hbe)];exact hk b u hbe hb
 have I3:=I2.laid (a:=s2.heap.objs.size) (o:=.xd [(fld,y)]) (h':=h'.update e fun _=>{ cls:=.ref C,data:=.fields #[.ref t,.none,.none,.none,.bool false,.none] }) (t':=tk') k1 (zcq9 _)
  ⟨_,hn'.at (fun o q=>by rw[zcr7 _ _ (Ne.symm hne)];exact q),fun g=>by
   by_cases hg:g=fld
   ·subst hg
    have hb:(g==g)=true:=by simp
    show RelO (List.lookup g [(g,y)]) (if g=g then some u else none)
    rw[if_pos rfl,show List.lookup g [(g,y)]=some y by simp only[List.lookup,hb]];exact ry
   ·have hb:(g==fld)=false:=beq_eq_false_iff_ne.mpr hg
    show RelO (List.lookup g [(fld,y)]) (if g=fld then some u else none)
    rw[if_neg hg,show List.lookup g [(fld,y)]=none by simp only[List.lookup,hb]];exact True.intro⟩
 have heu:upd H2 s2.heap.objs.size (.xd [(fld,y)]) e=some (exN e (.ref C) none):=by rw[zc0 (Ne.symm hne)];exact he
 have I4:=I3.write (x:=e) (e:=e) (o:=exN e (.ref C) (some s2.heap.objs.size)) (h':=h') (t':=tk') (by rw[heu];exact True.intro) (.inl rfl) (fun b u hb z=>by
  have z:(h'.update e fun _=>{ cls:=.ref C,data:=.fields #[.ref t,.none,.none,.none,.bool false,.none] }).get? b=some u:=z
  rw[zcr7 _ _ (Ne.symm hb)] at z;exact z) ⟨_,hx'⟩ (zca2 ⟨t,hx'⟩)
 exact⟨σ,_,I4,q2 _ _ hf hne (fun b o hb z=>by rw[zc0 hb,zc0 (za6 z hf)];exact z) zc2 (by rw[zc0 hne,zc2])⟩
@[irreducible] def zy3 (C:Addr) (fld:Str):Sp:=fun vs H Q _=>∃ (e:Addr) (v:V),vs=[.ref e,v]/\H e=some (exN e (.ref C) none)/\∀ d H',H d=none->d≠e->Chg e H H'->H' e=some (exN e (.ref C) (some d))->H' d=some (.xd [(fld,v)])->Q .non H'
def hid (e:Addr) (H:Hp):Hp:=fun b=>if b=e then none else H b
theorem zw8 {e b:Addr}{H:Hp}(h:b≠e):hid e H b=H b:=by unfold hid;rw[if_neg h]
theorem zbz8 {e:Addr}{H:Hp}:hid e H e=none:=by unfold hid;rw[if_pos rfl]
theorem hid_of {e b:Addr}{H:Hp}{o:HO}(h:hid e H b=some o):b≠e/\H b=some o:=by
 by_cases z:b=e
 ·subst z;rw[zbz8] at h;cases h
 ·rw[zw8 z] at h;exact⟨z,h⟩
theorem zab6 {e b:Addr}{H:Hp}(h:H b=none):hid e H b=none:=by
 by_cases z:b=e
 ·subst z;exact zbz8
 ·rw[zw8 z];exact h
section
variable {pins:List (Addr×Obj)}{σ:St}{H:Hp}{s:Shared}{e:Addr}{φ:Heap->Prop}
theorem HOk.hid {P:Program}{w:World}{h h':Heap}(x:HOk P w H h) (he:H e=some (.ext φ)) (k:∀ b u,b≠e->(∃ o,H b=some o)->h.get? b=some u->h'.get? b=some u):HOk P w (L2.hid e H) h':=fun a o ha=>by
 obtain⟨hne,ha⟩:=hid_of ha
 have n1:∀ b,H b=some (.own a)->b≠e:=fun b hb z=>by rw[z,he] at hb;cases hb
 refine (x a o ha).stay (fun b u hb hu=>?_) (fun b hb=>by rw[zw8 (n1 b hb)];exact hb) fun b xs hb=>by
  rw[zw8 fun z=>by rw[z,he] at hb;cases hb];exact hb
 rcases hb with rfl|hb
 ·exact k _ _ hne ⟨_,ha⟩ hu
 ·exact k _ _ (n1 b hb) ⟨_,hb⟩ hu
theorem Inv.hid (I:Inv X pins σ H s) (he:H e=some (.ext φ)):Inv X pins σ (L2.hid e H) s:=by
 refine⟨I.ok,I.os,I.bare,⟨I.base.keep,I.base.slot,fun b o h1 h2 h3=>zab6 (I.base.free b o h1 h2 h3),I.base.there,fun b xs q=>?_,fun b o u q=>?_,fun b ps q=>?_⟩,I.loc,I.cell,zab6 I.free,fun x c h=>zab6 (I.freeC x c h),fun p hp=>?_,I.hok.hid he fun _ _ _ _ h=>h,I.len⟩
 ·have z:=I.base.tups b xs q
  rw[zw8 fun y=>by rw[y,he] at z;cases z];exact z
 ·have z:=I.base.frzs b o u q
  rw[zw8 fun y=>by rw[y,he] at z;cases z];exact z
 ·obtain⟨more,z⟩:=I.base.tbls b ps q
  exact⟨more,by rw[zw8 fun y=>by rw[y,he] at z;cases z];exact z⟩
 ·obtain⟨a1,a2,a3,a4,a5⟩:=I.pin p hp
  exact⟨a1,zab6 a2,a3,a4,a5⟩
theorem zu4.of_init {cls:Value}{dx:Option Addr}(I:Inv X pins σ H s) (he:H e=some (exN e cls dx)) (hen:∀ o,X.s₀.heap.get? e=some o->e∈X.ex):zu4 X pins σ (L2.hid e H) (PySem.W.hideAll s.heap (e :: frs X.stack)) e cls dx s:=by
 obtain⟨⟨t,ht⟩,_,_⟩:=(show zf3 X.prog X.w H s.heap e (exN e cls dx) from I.hok e _ he)
 refine⟨I.hid he,I.hok.hid he fun b u hb hh hu=>zcw5 _ hu ?_,⟨fun b o hb=>PySem.W.of_hideAll _ hb,?_,?_,?_⟩,fun b o e0 n h1 h2=>?_,hen⟩
 ·intro hm
  obtain⟨o,hh⟩:=hh
  rcases zcq6.mp hm with z|hm
  ·exact hb z
  ·rw[I.stkFree b hm] at hh;cases hh
 ·exact PySem.W.hideAll_none _ zcu6
 ·refine PySem.W.funFrames_hide I.stack fun env hv a hf=>?_
  exact zct6 _ (List.mem_filterMap.mpr ⟨env,hv,hf⟩)
 ·exact⟨_,_,ht,rfl,rfl,rfl,by simp,.inl rfl⟩
 ·refine zcw5 _ (I.base.keep b o e0 n h1 h2) fun hm=>?_
  rcases zcq6.mp hm with rfl|hm
  ·exact h2 (hen _ e0)
  ·exact zx5 I e0 h1 hm
end
@[irreducible] def zs5 (C:Addr) (fld:Str) (E:XK) (v:V) (H:Hp):Prop:=∀ d H',H d=none->Same H H'->H' d=some (.xd [(fld,v)])->E (.ref C) (some d) H'
def zbo7 (C:Addr) (fld:Str) (E:XK) (t:TE):TS:=fun _ σ H=>t σ H fun v H1=>zs5 C fld E v H1
theorem zau3 {C:Addr}{fld:Str}{E:XK}{v:V}{H:Hp}(q:∀ d H',H d=none->Same H H'->H' d=some (.xd [(fld,v)])->E (.ref C) (some d) H'):zs5 C fld E v H:=by unfold zs5;exact q
theorem zbu9 {C aH f:Addr}{fld pn x:Str}{fd:FuncData}{k:Nat}{E:XK}{e₀:Expr}{te:TE}{np cpos pos:Pos}(Z:IniK X.K C aH f fld) (hm:X.mg x=some (.ref C)) (Fi:FnOk X.prog X.w X.K X.mg X.base CX0 k f fd ["self",pn] (zy3 C fld)) (hb:zah3 X.K fd ["self",pn] []) (hr:Room (k+1) X.A) (hc:X.calm=true) (hout:XOut X E) (he0:PE X e₀ te)
  (hg:Gl X x:=by rfl) (hd:(x==("__debug__":Str))=false:=by decide) (he:starEach [e₀] X.env=(false,eval e₀ X.env) :: starEach [] X.env:=by rfl) (hpl:(backTo cpos (starEach [] X.env)).any (·.1)=false:=by rfl) :
  PS X (.Raise (some (.Call (.Name x np) [e₀] [] cpos)) none pos) (zbo7 C fld E te):=by
 intro pins s σ H D I h
 obtain⟨nm,qn,N,bs,sn,sub,ab,col,dd,k0,k1,k2,k3,k5,lk⟩:=Z.ob
 refine zbe9 (K:=X.K) (C:=C) (nm:=nm) (q:=qn) (N:=N) (bs:=bs) (bm:=.ref aH :: bmV) (hdct:=true) (sn:=sn) (sub:=sub) (ab:=ab) (col:=col) (dd:=dd) (k0:=k0) (k1:=k1) (k2:=k2) (k3:=k3) (k5:=k5) PySem.F.excBase_ValueError
  (by rw[List.contains_cons,show List.contains bmV (Value.type "BaseException")=true by decide +kernel,Bool.or_true]) (I.ok.hd hc) (by rw[he];show (false || (backTo cpos (starEach [] X.env)).any (·.1))=false;rw[hpl];rfl) Z.init Z.fn (zz3 I hg hm ⟨rfl,?_⟩ hd)
 have hA:=za0 he0 (za1) he cpos pins s σ H (fun vs H1=>∃ v,vs=[v]/\zs5 C fld E v H1) I (by
  show te σ H fun v H1=>∃ v',[v]=[v']/\zs5 C fld E v' H1
  have e:(fun (v:V) (H1:Hp)=>∃ v',[v]=[v']/\zs5 C fld E v' H1)=fun v H1=>zs5 C fld E v H1:=by
   funext v H1
   apply propext
   exact⟨fun ⟨v',e1,e2⟩=>by cases e1;exact e2,fun e2=>⟨v,rfl,e2⟩⟩
  rw[e];exact h)
 rw[he] at hA ⊢
 refine Calls.evalArgs_plain (thn hA fun us s2 ⟨vs,H1,I1,r,v,ev,q⟩=>?_)
 subst ev
 obtain⟨u,rfl,ru⟩:=r.one
 refine⟨rfl,by show 1<=sizeLine;decide,I1.kIn _ _ lk,I1.kIn,Z.tl _ I1.kIn,fun h' e m hz=>?_⟩
 obtain⟨t,ht,_,_⟩:=m.there
 have hfe:H1 e=none:=I1.hok.fresh hz
 have I2:=I1.laid (a:=e) (o:=exN e (.ref C) none) (h':=h') (t':=s2.toks) m.keeps hz (zca2 ⟨t,ht⟩)
 have hsp:zy3 C fld [.ref e,v] (upd H1 e (exN e (.ref C) none)) (fun w H'=>w=.non/\∃ d,H1 d=none/\d≠e/\Chg e (upd H1 e (exN e (.ref C) none)) H'/\H' e=some (exN e (.ref C) (some d))/\H' d=some (.xd [(fld,v)])) E:=by
  unfold zy3
  refine⟨e,v,rfl,zc2,fun d H' hd hne hch h1 h2=>⟨rfl,d,?_,hne,hch,h1,h2⟩⟩
  rw[zc0 hne] at hd;exact hd
 refine wpAny_call (codeAny_mono (Fi.run _ X.stack _ _ ⟨[.ref e,u],[]⟩ [.ref e,u] [.ref e,v] _ _ (hr.make C [u] []) (I2.env0.make C [u] []) (hb _ [.ref e,u] I2.kIn rfl) (.cons rfl (.cons ru .nil)) hsp) fun r s' hq'=>?_)
 cases r with
 | error e=>exact False.elim hq'
 | ok fl=>
  cases fl with
  | ret u'=>
   obtain⟨v',H3,I3,rv,rfl,d,hd1,hd2,hch,h3,h4⟩:=I2.after hq'
   cases (show u'=Value.none from rv)
   obtain⟨⟨t',ht'⟩,_,_⟩:=(show zf3 X.prog X.w H3 s'.heap e (exN e (.ref C) (some d)) from I3.hok e _ h3)
   refine⟨rfl,⟨t',some d,ht'⟩,I3.kIn _ _ lk,?_⟩
   have hen:∀ o,X.s₀.heap.get? e=some o->e∈X.ex:=fun o z=>by
    apply Classical.byContradiction
    intro hx
    obtain⟨o',k⟩:=I1.base.there e o z hx
    rw[m.new] at k
    cases k
   unfold zs5 at q
   refine hout _ _ _ _ _ _ _ _ (zu4.of_init I3 h3 hen) (q d _ hd1 (fun b o hb=>?_) (by rw[zw8 hd2];exact h4))
   have nb:=za6 hb hfe
   rw[zw8 nb]
   exact hch b o nb (by rw[zc0 nb];exact hb)
  | next=>exact False.elim hq'
  | brk=>exact False.elim hq'
  | cont=>exact False.elim hq'
end
end L2
set_option maxHeartbeats 4000000
namespace L2
open PySem PySem.Spec PyProof.Rows
def zbx6 (e D d:Addr) (h:Heap):Prop:=ExcIs e (.ref D) (some d) h/\∃ od,h.get? d=some od
section
open PySem.W PySem.Calls
theorem zbg0 {prog:Program}{w:World}{A:Around}{E:Value->Shared->Prop}{K:Frag}{D e dx:Addr}{h:Heap}{g d t os} {Q:Option Value->Shared->Prop}(X:K.In h) (x:zbx6 e D dx h) (k:ExcK K D)
  (hq:Q (some (.ref D)) ⟨h,g,d,t+1,os⟩):wpAny (model prog w) A (getAttr? (.ref e) "__class__") Q E ⟨h,g,d,t,os⟩:=by
 obtain⟨⟨oe,vs,he,hc,hdx,hd⟩,od,hod⟩:=x
 obtain⟨h1,h2,h3,h4,h5⟩:=k
 have L0:Looks (model prog w) h (typeOf (.ref e)) (.ref D):=hc▸(Looks.ld he).andThen .now
 have L1:=looks_findIn (M:=model prog w) X h1
 have L2:=looks_findIn (M:=model prog w) X h2
 have L3:=looks_findIn (M:=model prog w) X h3
 have hx:(onTheHeap (Value.ref D)&&Value.builtin "BaseException.__getattribute__"==Value.builtin "object.__getattribute__")=false:=by
  have z:(Value.builtin "BaseException.__getattribute__"==Value.builtin "object.__getattribute__")=false:=by decide +kernel
  rw[z];rfl
 have I:InstAt h e oe D (some od):=⟨he,hc,by unfold notCls;rw[hd],by rw[hdx];exact hod⟩
 have L4:Looks (model prog w) h (isInstance (.ref e) (.type "BaseException")) true:=L0.andThen (looks_subIn X h4)
 have FB:=PySem.F.attrBase_ValueError
 have f3:=FB.ga.bind (.ref e)
 have kd:builtinKind "BaseException.__getattribute__"=some .slot:=by decide +kernel
 have sid:splitId "BaseException.__getattribute__"=some ("BaseException","__getattribute__"):=by decide +kernel
 have aok:=PySem.F.args_bexc_ga (.ref e) (.str "__class__" t)
 have f5:=KF.type_class
 have f6:=PySem.F.slot_gs_get.lookup
 have f7:=PySem.F.slot_gs_set.lookup
 unfold getAttr? getAttrBy? getAttrBy
 refine wpAny_bind (wpAny_mkText (wpAny_bind (wpAny_attempt (wpAny_holding (wpAny_bind (L0.at (wpAny_bind (L1.at ?_))))))))
 dsimp only
 rw[if_neg (by rw[hx];decide)]
 unfold getAttrByItsOwn hookBefore
 repeat (any_goals (first|assumption|with_reducible refine L0.at ?_|with_reducible refine L1.at ?_|with_reducible refine L2.at ?_|with_reducible refine L3.at ?_|wp_step))
 refine codeAny_call_builtin FB.ga.plain PySem.F.entry_bexc_ga ?_
 simp only[checkBuiltinCall,kd,sid]
 refine wpAny_bind (L4.at ?_)
 repeat (any_goals (first|assumption|with_reducible refine L0.at ?_|with_reducible refine L1.at ?_|with_reducible refine L2.at ?_|with_reducible refine L3.at ?_|wp_step))
 refine class_get (ox:=oe) (od:=some od) X I h5 ?_
 repeat (any_goals (first|assumption|wp_step))
theorem zau9 {K:Frag}{e D dx:Addr}(k:ExcK K D) (hcl:(clsIn K D).isSome=true):KitX K (.ref e) (.ref D) (zbx6 e D dx) where
 ty:=fun M h _ p=>by
  obtain⟨⟨oe,vs,he,hc,_⟩,_⟩:=p
  exact hc▸(Looks.ld he).andThen .now
 it:=fun M h X p=>by
  obtain⟨cd,hcd⟩:=zcv3.mp hcl
  unfold clsIn at hcd
  split at hcd
  ·rename_i ho
   intro A' Q' E' s' kk q
   unfold isType loadHead
   exact wpAny_bind (wpAny_loadPart (kk _ _ (X _ _ ho)) (wpAny_pure q))
  ·cases hcd
 ne:=fun h tp dd its n sl X htp=>by
  refine Bool.eq_false_iff.mpr fun q=>?_
  have z:D=tp:=Value.ref.inj (beq_iff_eq.mp q)
  subst z
  obtain⟨cd,hcd⟩:=zcv3.mp hcl
  unfold clsIn at hcd
  split at hcd
  ·rename_i ho
   cases (X _ _ ho).symm.trans htp
  ·cases hcd
 ca:=fun {prog w A E Q s} X p q=>by
  obtain⟨hh,g,d,t,os⟩:=s
  exact zbg0 X p k q
end
section
variable {X:Cx}{K:zcp3}{H:Hp}{Q:VK}
@[irreducible] def zaq9 (K:zcp3) (x c:V) (H:Hp) (Q:VK):Prop:=zas0 K x c H Q∨∃ (ea D d:Addr) (fs:List (Str×V)) (b:Bool),x=.ref ea/\H ea=some (excO ea (.ref D) (some d))/\H d=some (.xd fs)/\ExcK K D/\(zct5 K D).isSome=true/\(∀ cv,RelV c cv->zcr1 K (.ref D) cv=some b)/\Q (.bl b) H
def zby2 (K:zcp3):List V->Hp->VK->Prop:=fun xs H Q=>match xs with
 | [x,c]=>zaq9 K x c H Q
 | _=>False
theorem cIsiD (hK:X.K=K):zn5 X (.builtin "isinstance") (zby2 K):=by
 subst hK
 intro pins s σ H xs us Q I r h
 unfold zby2 at h
 split at h
 ·unfold zaq9 at h
  rcases h with h|⟨ea,D,d,fs,b,rfl,h1,h0,h2,h3,h4,h5⟩
  ·exact cIsiX rfl pins s σ H _ us Q I r h
  ·obtain⟨u,w,rfl,r1,r2⟩:=zaq7 r
   cases r1
   obtain⟨p,_⟩:=I.hok ea _ h1
   obtain⟨_,⟨od,_,_,e0,_⟩,_⟩:=(show zf3 X.prog X.w H s.heap d (.xd fs) from I.hok d _ h0)
   exact zcu2 (zau9 h2 h3) I.kIn ⟨p,od,e0⟩ (h4 _ r2) (fun z=>nomatch z) fun tk=>⟨.bl b,H,I.tok _,rfl,h5⟩
 ·exact h.elim
theorem zax4 {x c:V}(h:zas0 K x c H Q):zaq9 K x c H Q:=by unfold zaq9;exact .inl h
theorem zbd2 {ea D d C:Addr}{fs:List (Str×V)}{b:Bool}(h1:H ea=some (excO ea (.ref D) (some d))) (h0:H d=some (.xd fs)) (h2:ExcK K D) (h3:(zct5 K D).isSome=true) (e:zcr1 K (.ref D) (.ref C)=some b) (q:Q (.bl b) H):zaq9 K (.ref ea) (.ref C) H Q:=by
 unfold zaq9;exact .inr ⟨ea,D,d,fs,b,rfl,h1,h0,h2,h3,fun cv r=>by cases r;exact e,q⟩
theorem zbv3 {ea D d:Addr}{fs:List (Str×V)}{n:String}{b:Bool}(h1:H ea=some (excO ea (.ref D) (some d))) (h0:H d=some (.xd fs)) (h2:ExcK K D) (h3:(zct5 K D).isSome=true) (e:zcr1 K (.ref D) (.type n)=some b) (q:Q (.bl b) H):zaq9 K (.ref ea) (.ty n) H Q:=by
 unfold zaq9;exact .inr ⟨ea,D,d,fs,b,rfl,h1,h0,h2,h3,fun cv r=>by cases r;exact e,q⟩
end
end L2
namespace L2
open PySem PySem.Spec PyProof.Rows
def IniF (K:zcp3) (qual:Str) (st:Stmt) (f:Addr) (pn:Str):Prop:=∃ fd,Fun K "__init__" qual st f fd/\zah3 K fd ["self",pn] []
def IniOk (P:Program) (w:World) (K:zcp3) (mg:Str->Option Value) (base:Heap) (C f:Addr) (fld:Str):Prop:=∃ pn fd,FnOk P w K mg base CX0 1 f fd ["self",pn] (zy3 C fld)/\zah3 K fd ["self",pn] []
theorem zbj2 {K:zcp3}{aH:Addr}{h:Heap}(X:K.In h) (q:PySem.W.excIn K aH bmV newV=true):OwnTail h bmV (.ref aH :: bmV):=by
 refine PySem.W.tail_of_in X ?_
 unfold PySem.W.excIn at q
 split at q
 case h_2=>cases q
 rename_i dd cd sl ho
 split at q
 case h_2=>cases q
 simp only[zcr6,beq_iff_eq,Bool.not_eq_true'] at q
 obtain⟨⟨⟨⟨⟨q1,q2⟩,q3⟩,q4⟩,q5⟩,q6⟩:=q
 unfold PySem.W.tailIn
 dsimp only
 rw[ho]
 dsimp only
 rw[q5,q6]
 have e:PySem.W.tailIn K bmV bmV=true:=by unfold PySem.W.tailIn;rw[Bool.or_eq_true];exact .inl (by simp)
 rw[e]
 simp
theorem zba6 {X:Cx}{C aH f:Addr}{fld x:Str}{E:XK}{e₀:Expr}{te:TE}{np cpos pos:Pos}(Z:IniK X.K C aH f fld) (hm:X.mg x=some (.ref C)) (O:IniOk X.prog X.w X.K X.mg X.base C f fld) (hr:Room 2 X.A) (hc:X.calm=true) (hout:XOut X E) (he0:PE X e₀ te)
  (hg:Gl X x:=by rfl) (hd:(x==("__debug__":Str))=false:=by decide) (he:starEach [e₀] X.env=(false,eval e₀ X.env) :: starEach [] X.env:=by rfl) (hpl:(backTo cpos (starEach [] X.env)).any (·.1)=false:=by rfl) :
  PS X (.Raise (some (.Call (.Name x np) [e₀] [] cpos)) none pos) (zbo7 C fld E te):=by
 obtain⟨pn,fd,Fi,hb⟩:=O
 exact zbu9 Z hm Fi hb hr hc hout he0 hg hd he hpl
end L2
set_option maxHeartbeats 2000000
namespace L2
open PySem PySem.Spec PyProof.Rows
def zy6 (x0:Str) (names:List (Str×NameKind)):Prop:=names.filter (fun y=>y.2==.cell)=[(x0,.cell)]/\names.lookup x0=some .cell
theorem zaj5 {x0:Str}:∀ {names:List (Str×NameKind)},names.filter (fun y=>y.2==.cell)=[(x0,.cell)]->∀ (n:Nat) (acc:List (Str×Addr)) (h:Heap),cellsFrom n names acc=(x0,n) :: acc/\pushCells h names=h.push { cls:=.type "cell",data:=.cell none }
 | [],e,_,_,_=>by cases e
 | (y,k) :: r,e,n,acc,h=>by
  by_cases hk:(k==NameKind.cell)=true
  ·have hk':k=.cell:=by simpa using hk
   subst hk'
   rw[List.filter_cons_of_pos (by simp)] at e
   have e1:y=x0:=by have:=congrArg (fun l=>l.head?.map (·.1)) e;simpa using this
   have e2:r.filter (fun y=>y.2==.cell)=[]:=by have:=congrArg List.tail e;simpa using this
   subst e1
   have none:∀ (r:List (Str×NameKind)),r.filter (fun y=>y.2==.cell)=[]->∀ n acc h,cellsFrom n r acc=acc/\pushCells h r=h:=by
    intro r
    induction r with
    | nil=>intro _ n acc h;exact⟨rfl,rfl⟩
    | cons z r ih=>
     obtain⟨z1,z2⟩:=z
     intro e n acc h
     by_cases hz:(z2==NameKind.cell)=true
     ·rw[List.filter_cons_of_pos (by simpa using hz)] at e;cases e
     ·rw[List.filter_cons_of_neg (by simpa using hz)] at e
      unfold cellsFrom pushCells
      rw[if_neg hz,if_neg hz]
      exact ih e n acc h
   unfold cellsFrom pushCells
   rw[if_pos hk,if_pos hk]
   exact⟨(none r e2 _ _ h).1,(none r e2 0 [] _).2⟩
  ·rw[List.filter_cons_of_neg (by simpa using hk)] at e
   unfold cellsFrom pushCells
   rw[if_neg hk,if_neg hk]
   exact zaj5 e n acc h
theorem zy6.only {x0:Str}{names:List (Str×NameKind)}(h:zy6 x0 names):∀ y∈names,y.2=.cell->y.1=x0:=fun y hy hc=>by
 have:y∈names.filter (fun y=>y.2==.cell):=List.mem_filter.mpr ⟨hy,by rw[hc];rfl⟩
 rw[h.1] at this
 rw[zcx1.mp this]
theorem zce8 {M:Model}{A:Around}{E:Value->Shared->Prop}{s:Shared}{x0:Str}{scope:Scope}{globals:Addr}{cl:List (Str×Addr)}{qual:Str}{env:Env}{Q:Env->Shared->Prop}(hone:zy6 x0 scope.names)
  (hQ:∀ h₁,h₁=(s.heap.push { cls:=.type "dict",data:=.dict #[] }).push { cls:=.type "cell",data:=.cell none }->Q { scope,locals:=s.heap.objs.size,globals,cells:=(x0,s.heap.objs.size+1) :: cl,qual,func:=none,code:=env.code,frame:=env.frame,builtins:=env.builtins } { s with heap:=h₁ }) :
  wpAny M A (newFunctionEnv scope globals cl [] qual none .none (some env)) Q E s:=by
 simp only[newFunctionEnv,Option.isSome_some,if_true]
 refine wpAny_bind (wpAny_alloc ?_)
 refine wpAny_bind (wpAny_layCells _ (fun name kind cells=>by cases hkc:kind==NameKind.cell<;>simp[hkc]) _ _ _ _ ?_)
 have o:=zaj5 hone.1 (s.heap.push { cls:=.type "dict",data:=.dict #[] }).objs.size cl (s.heap.push { cls:=.type "dict",data:=.dict #[] })
 rw[show ({ s with heap:=s.heap.push { cls:=.type "dict",data:=.dict #[] } }:Shared).heap=s.heap.push { cls:=.type "dict",data:=.dict #[] } from rfl,o.1,o.2]
 rw[Heap.size_push]
 refine wpAny_bind ?_
 rw[List.forIn_nil]
 exact wpAny_pure (wpAny_pure (hQ _ rfl))
def blk1 (x0:Str) (X:Cx) (N:List Str) (scope:Scope) (cl:List (Str×Addr)) (C:Addr) (s3:Shared) (H3:Hp) (fp:List Addr):Cx:=
 { X with N:=N,s₀:=s3,H₀:=H3,env:=compEnvC scope ((x0,C+1) :: cl) C X.env,outer:=X.stack,ex:=fp,fn:=fun x=>x==x0,pn:=[],xe:=fun _ _=>False }
theorem zaa1 {x0 x:Str}{n c:Addr}{cl:List (Str×Addr)}(h:List.lookup x ((x0,n) :: cl)=some c):(x=x0/\c=n)∨cl.lookup x=some c:=by
 rw[zcs7] at h
 cases hx:x==x0 with
 | true=>rw[hx] at h;cases h;exact .inl ⟨by simpa using hx,rfl⟩
 | false=>rw[hx] at h;exact .inr h
theorem zr7 {env:Env}{x0:Str}:∀ {names:List (Str×NameKind)}{x:Str}{k':NameKind},(∀ y∈names,y.2=.cell->y.1=x0)->(k'=.cell∨k'=.free) ->
  (names.map fun (n,k)=>if (k==NameKind.free&&env.scope.kind==.function&&env.kindOf n==some .cell) then (n,NameKind.cell) else (n,k)).lookup x=some k'->x=x0∨∃ y∈names,y.1=x/\y.2=.free
 | [],_,_,_,_,h=>by simp at h
 | (n,k) :: r,x,k',hn,hk,h=>by
  have ih:=@zr7 env x0 r x k' (fun y hy=>hn y (zct6 _ hy)) hk
  replace h:List.lookup x ((if (k==NameKind.free&&env.scope.kind==.function&&env.kindOf n==some .cell)=true then (n,NameKind.cell) else (n,k)) :: List.map (fun (n,k)=>if (k==NameKind.free&&env.scope.kind==.function&&env.kindOf n==some .cell) then (n,NameKind.cell) else (n,k)) r)=some k':=h
  cases hx:x==n with
  | true=>
   have hx':x=n:=by simpa using hx
   by_cases hf:k=.free
   ·exact .inr ⟨(n,k),zcu6,hx'.symm,hf⟩
   ·have hc:¬ (k==NameKind.free&&env.scope.kind==.function&&env.kindOf n==some .cell)=true:=by
     have:(k==NameKind.free)=false:=by simpa using hf
     rw[this];simp
    rw[if_neg hc] at h
    simp only[zcs7,hx] at h
    have:k=k':=Option.some.inj h
    subst this
    rcases hk with hk|hk
    ·exact .inl (hx'.trans (hn (n,k) zcu6 hk))
    ·exact absurd hk hf
  | false=>
   have h':List.lookup x (List.map (fun (n,k)=>if (k==NameKind.free&&env.scope.kind==.function&&env.kindOf n==some .cell) then (n,NameKind.cell) else (n,k)) r)=some k':=by
    by_cases hc:(k==NameKind.free&&env.scope.kind==.function&&env.kindOf n==some .cell)=true
    ·rw[if_pos hc] at h;simp only[zcs7,hx] at h;exact h
    ·rw[if_neg hc] at h;simp only[zcs7,hx] at h;exact h
   rcases ih h' with q|⟨y,hy,h1,h2⟩
   ·exact .inl q
   ·exact .inr ⟨y,zct6 _ hy,h1,h2⟩
section
variable {X:Cx}{pins:List (Addr×Obj)}{σ:St}{H:Hp}{s2:Shared}
theorem zbv9 {x0:Str}{N:List Str}{scope:Scope}{cl:List (Str×Addr)}{C:Addr}{s3 s4:Shared}{H3:Hp}{fp:List Addr}{σc:St}(I:Inv X pins σ H3 s3)
  (hcl1:∀ x c,cl.lookup x=some c->X.env.cells.lookup x=some c) (hcl2:∀ x∈scope.names,x.2=.free->∃ c,cl.lookup x.1=some c) (hkind:scope.kind=.function) (hone:zy6 x0 scope.names)
  (hcap:∀ (i:Nat) (x:Str) (v:V),N[i]?=some x->σc[i]?=some (some v)->∃ j:Nat,X.N[j]?=some x/\σ[j]?=some (some v)/\scope.names.lookup x=some .free/\(X.env.kindOf x=some .cell∨X.env.kindOf x=some .free))
  (hlen:σc.length=N.length) (hC:s3.heap.objs.size=C) (hfp:∀ b∈fp,FpOk X pins H3 b) (hfpl:∀ b∈fp,b<C) (hex:∀ b o,X.base.get? b=some o->b ∉ fp) (hns:∃ m,s4.heap.Ns C m) (hce:s4.heap.IsCell (C+1) none) (hk:∀ b o,s3.heap.get? b=some o->s4.heap.get? b=some o) (h4:s4.os=s3.os) (h5:s4.gens=s3.gens) :
  Inv (blk1 x0 X N scope cl C s3 H3 fp) [] σc H3 s4:=by
 subst hC
 have cne:∀ x c,cl.lookup x=some c->c<s3.heap.objs.size:=fun x c h=>by
  obtain⟨v,o,ho,_⟩:=I.cell x c (hcl1 x c h)
  exact zcq7 ho
 refine⟨⟨I.ok.mod,?_,I.ok.glob,I.ok.blt,zcq9 _,fun x y c h1 h2=>?_,fun x hx=>?_,fun x c hf h=>?_,I.ok.hd,I.ok.frames,.inl rfl,fun b hb=>⟨zcs5 (hfpl b hb),fun x c h=>?_⟩,fun b o e=>I.bs b o e,zcu1 I.ok.bsz I.sz,fun b o e=>hex b o e,fun b hb=>?_,I.stack,I.stkFree⟩,
  h4,by rw[h5];exact I.bare,Un.kept hk,?_,fun x c h=>?_,I.hok.fresh (zcq9 _),fun x c h=>?_,fun p hp=>(by cases hp),I.hok.kept hk,hlen⟩
 ·exact hkind
 ·rcases zaa1 h1 with ⟨e1,e2⟩|h1'
  ·rcases zaa1 h2 with ⟨e3,_⟩|h2'
   ·rw[e1,e3]
   ·exact absurd (Nat.lt_trans (Nat.lt_succ_self _) (e2▸cne _ _ h2')) (zcv8 _)
  ·rcases zaa1 h2 with ⟨e3,e4⟩|h2'
   ·exact absurd (Nat.lt_trans (Nat.lt_succ_self _) (e4▸cne _ _ h1')) (zcv8 _)
   ·exact I.ok.inj x y c (hcl1 _ _ h1') (hcl1 _ _ h2')
 ·have hx':(relabel scope X.env).names.lookup x=some .cell∨(relabel scope X.env).names.lookup x=some .free:=hx
  show ∃ c,List.lookup x ((x0,s3.heap.objs.size+1) :: cl)=some c
  by_cases e0:x=x0
  ·subst e0;exact⟨_,List.lookup_cons_self⟩
  ·have hz:x=x0∨∃ y∈scope.names,y.1=x/\y.2=.free:=by
    rcases hx' with q|q
    ·exact zr7 hone.only (.inl rfl) q
    ·exact zr7 hone.only (.inr rfl) q
   rcases hz with hz|⟨y,hy,rfl,hf⟩
   ·exact absurd hz e0
   ·obtain⟨c,hc⟩:=hcl2 y hy hf
    exact⟨c,by rw[zcs7,beq_eq_false_iff_ne.mpr e0];exact hc⟩
 ·have hf:(x==x0)=true:=hf
  have e0:x=x0:=by simpa using hf
  subst e0
  rcases zaa1 h with ⟨_,rfl⟩|h'
  ·exact zcv7 _
  ·have h:List.lookup x ((x,s3.heap.objs.size+1) :: cl)=some c:=h
   rw[zcs7,hf] at h
   cases h
   exact zcv7 _
 ·rcases zaa1 h with ⟨_,rfl⟩|h
  ·exact zcw3 (Nat.lt_succ_of_lt (hfpl b hb))
  ·exact (hfp b hb).2.2.2.2.1 x c (hcl1 x c h)
 ·intro hz
  obtain⟨f0,f1,f2,_⟩:=hfp b hb
  have hz:b∈frs X.stack:=hz
  rcases zcq6.mp (I.stkSub b hz) with q|q
  ·exact f1 q
  ·exact f2 q
 ·obtain⟨m,hm⟩:=hns
  refine⟨m,hm,fun i x v h1 h2 h3=>?_⟩
  obtain⟨j,e1,e2,e3,e4⟩:=hcap i x v h1 h2
  obtain⟨mX,_,hl⟩:=I.loc
  obtain⟨u,r,q⟩:=hl j x v e1 e2 (by rcases e4 with e4|e4;exact .inr (.inl e4);exact .inr (.inr e4))
  have n0:x≠x0:=fun z=>by rw[z,hone.2] at e3;cases e3
  refine⟨u,r,.inr ⟨zs9 e3,?_⟩⟩
  obtain⟨c,hc⟩:=hcl2 (x,.free) (PySem.mem_of_lookup e3) rfl
  refine⟨c,by show List.lookup x ((x0,s3.heap.objs.size+1) :: cl)=some c;rw[zcs7,beq_eq_false_iff_ne.mpr n0];exact hc,?_⟩
  have hc':=hcl1 x c hc
  rcases q with ⟨k,_⟩|⟨_,c2,e5,o,ho,hd⟩
  ·rcases e4 with e4|e4<;>rw[e4] at k<;>cases k
  ·rw[hc'] at e5
   cases e5
   exact⟨o,hk _ _ ho,hd⟩
 ·rcases zaa1 h with ⟨_,rfl⟩|h
  ·exact⟨none,hce⟩
  ·obtain⟨v,o,ho,hd⟩:=I.cell x c (hcl1 x c h)
   exact⟨v,o,hk _ _ ho,hd⟩
 ·rcases zaa1 h with ⟨_,rfl⟩|h
  ·exact I.hok.fresh (zcv7 _)
  ·exact I.freeC x c (hcl1 _ _ h)
theorem zbf0 {x0:Str}{E:Value->Shared->Prop}{elt tg iter:Expr}{ifs:List Expr}{scope:Scope}{pos:Pos}{cl:List (Str×Addr)}{N:List Str}{σc:St}{J:It}{fp:List Addr}{it:Addr}{tn:Nat->Heap->Prop}{g:TG}{tt:TT}{te:TE}{Q:VK}
  {RR:Value->Addr->Result->Shared->Prop}
  (hcl1:∀ x c,cl.lookup x=some c->X.env.cells.lookup x=some c) (hcl2:∀ x∈scope.names,x.2=.free->∃ c,cl.lookup x.1=some c) (hkind:scope.kind=.function) (hone:zy6 x0 scope.names)
  (hcap:∀ (i:Nat) (x:Str) (v:V),N[i]?=some x->σc[i]?=some (some v)->∃ j:Nat,X.N[j]?=some x/\σ[j]?=some (some v)/\scope.names.lookup x=some .free/\(X.env.kindOf x=some .cell∨X.env.kindOf x=some .free))
  (hlen:σc.length=N.length) (hc:X.calm=true) (I:Inv X pins σ H s2) (T:Turn X.prog X.w X.K tg J fp it tn) (st:tn 0 s2.heap) (fpok:∀ b∈fp,FpOk X pins H b)
  (hg:∀ C s3 H3 fp,PG (blk1 x0 X N scope cl C s3 H3 fp) tg g) (ht:∀ C s3 H3 fp,PTs (blk1 x0 X N scope cl C s3 H3 fp) ifs tt) (he:∀ C s3 H3 fp,PE (blk1 x0 X N scope cl C s3 H3 fp) elt te)
  (h:zy1 J g tt te σc H Q)
  (hRR:∀ (acc C:Addr) (H':Hp) (s':Shared),Inv X pins σ H' s'->FpOk X pins H' C->(∃ m,s'.heap.Ns C m)->Q (.ref acc) H'->RR (.ref acc) C (.ok .next) s') :
  wpAny (model X.prog X.w) X.A (newList []) (fun acc s₃=>wpAny (model X.prog X.w) X.A (newFunctionEnv scope X.env.globals cl [] X.env.qual none .none (some X.env)) (fun cenv s₄=>
   codeAny (model X.prog X.w) X.A (.compStart (.ListComp elt [⟨tg,iter,ifs,0⟩] scope pos) 0 (.ref it) acc { cenv with scope:=relabel scope X.env }) (RR acc cenv.locals) s₄) E s₃) E s2:=by
 refine wpAny_newObj_type (zce8 hone fun h₁ hh₁=>?_)
 dsimp only at hh₁ ⊢
 have hf:H s2.heap.objs.size=none:=I.fresh
 have I3:Inv X pins σ (upd H s2.heap.objs.size (.lst [])) { s2 with heap:=s2.heap.push { cls:=.type "list",data:=.seq ([]:List Value).toArray } }:=I.lnew (t':=s2.toks) (its:=[]) .nil (zct3 _)
 generalize hs3:({ s2 with heap:=s2.heap.push { cls:=.type "list",data:=.seq ([]:List Value).toArray } }:Shared)=s3 at I3
 have hH:s2.heap.push { cls:=.type "list",dict:=none,data:=.seq ([]:List Value).toArray }=s3.heap:=by rw[← hs3]
 rw[hH] at hh₁ ⊢
 have hsz:s3.heap.objs.size=s2.heap.objs.size+1:=by rw[← hH,Heap.size_push]
 have old23:∀ b o,s2.heap.get? b=some o->s3.heap.get? b=some o:=fun b o e=>by rw[← hH];exact zcp8 _ e
 have fplt:∀ b∈fp,b<s2.heap.objs.size:=fun b hb=>by
  obtain⟨o,e,_⟩:=T.obj 0 _ st b hb
  exact zcq7 e
 have fp3:∀ b∈fp,FpOk X pins (upd H s2.heap.objs.size (.lst [])) b:=fun b hb=>by
  obtain⟨f0,f1⟩:=fpok b hb
  refine⟨?_,f1⟩
  rw[zc0 (zcs5 (fplt b hb))]
  exact f0
 have old34:∀ b o,s3.heap.get? b=some o->h₁.get? b=some o:=fun b o e=>by rw[hh₁];exact zcp8 _ (zcp8 _ e)
 have hns₁:h₁.Ns s3.heap.objs.size (fun _=>none):=by rw[hh₁];exact (Heap.Ns.new s3.heap (.type "dict")).keeps fun b o e=>zcp8 _ e
 have hce:h₁.IsCell (s3.heap.objs.size+1) none:=⟨{ cls:=.type "cell",data:=.cell none },by rw[hh₁];exact Heap.get?_push_at (by rw[Heap.size_push]) rfl,rfl⟩
 have nob:∀ b o,X.base.get? b=some o->b ∉ fp:=fun b o e hb=>by
  obtain⟨_,_,_,f3,_,_⟩:=fpok b hb
  rcases f3 with f3|f3
  ·exact I.ok.noex b o e f3
  ·exact absurd (zcr4 (zcq7 e) I.ok.bsz) (Nat.not_lt.mpr f3)
 have hs4e:({ s2 with heap:=h₁,toks:=s2.toks }:Shared).os=s3.os:=by rw[← hs3]
 have hs4g:({ s2 with heap:=h₁,toks:=s2.toks }:Shared).gens=s3.gens:=by rw[← hs3]
 have I4:Inv (blk1 x0 X N scope cl s3.heap.objs.size s3 (upd H s2.heap.objs.size (.lst [])) fp) [] σc (upd H s2.heap.objs.size (.lst [])) { s2 with heap:=h₁,toks:=s2.toks }:=
  zbv9 (s4:={ s2 with heap:=h₁,toks:=s2.toks }) I3 hcl1 hcl2 hkind hone hcap hlen rfl fp3 (fun b hb=>zcr4 (fplt b hb) (by rw[hsz];exact zcv7 _)) nob ⟨_,hns₁⟩ hce old34 hs4e hs4g
 have st4:tn 0 h₁:=T.keep _ _ _ st fun b hb o e=>old34 b o (old23 b o e)
 unfold zy1 at h
 obtain⟨W,⟨m0,w0⟩,turn⟩:=h s2.heap.objs.size _ hf (Same.upd hf) zc2
 have loop:codeAny (model X.prog X.w) X.A (.compLoop (.ListComp elt [⟨tg,iter,ifs,0⟩] scope pos) 0 (.ref it) (.ref s2.heap.objs.size) (blk1 x0 X N scope cl s3.heap.objs.size s3 (upd H s2.heap.objs.size (.lst [])) fp).env)
   (RR (.ref s2.heap.objs.size) s3.heap.objs.size) { s2 with heap:=h₁,toks:=s2.toks }:=by
  refine zav3 (fun n s'=>∃ i ys σ' H',Inv (blk1 x0 X N scope cl s3.heap.objs.size s3 (upd H s2.heap.objs.size (.lst [])) fp) [] σ' H' s'/\tn i s'.heap/\(∀ b∈fp,H' b=none)/\W i n ys σ' H') ?_ m0 ⟨0,[],σc,_,I4,st4,fun b hb=>(fp3 b hb).1,w0⟩
  rintro n s5 ⟨i,ys,σ5,H5,I5,st5,fr5,w5⟩
  obtain⟨hacc,hl5,hcase⟩:=turn i n ys σ5 H5 w5
  have stat:∀ {H':Hp},(∀ b∈fp,H' b=none)->∀ b∈fp,FpOk (blk1 x0 X N scope cl s3.heap.objs.size s3 (upd H s2.heap.objs.size (.lst [])) fp) [] H' b:=fun hn b hb=>by
   obtain⟨_,f1,f2,f3,f4,_⟩:=fpok b hb
   refine⟨hn b hb,zcs5 (zcr4 (fplt b hb) (by rw[hsz];exact zcv7 _)),fun hz=>?_,.inl hb,fun x c hx=>?_,fun p hp=>by cases hp⟩
   rotate_left
   ·rcases zaa1 hx with ⟨_,rfl⟩|hx
    ·exact zcw3 (Nat.lt_succ_of_lt (zcr4 (fplt b hb) (by rw[hsz];exact zcv7 _)))
    ·exact f4 x c (hcl1 x c hx)
   rcases zcq6.mp (I.stkSub b hz) with q|q
   ·exact f1 q
   ·exact f2 q
  rcases hcase with ⟨stop,hq⟩|⟨go,step⟩
  ·refine thn (T.done (blk1 x0 X N scope cl s3.heap.objs.size s3 (upd H s2.heap.objs.size (.lst [])) fp) rfl rfl rfl hc i [] s5 σ5 H5 (fun _ _=>False) I5 (stat fr5) st5 stop) fun r s6 ⟨hr,I6⟩=>?_
   subst hr
   have u1:Un (frs X.stack) fp H (upd H s2.heap.objs.size (.lst [])) s2.heap s3.heap:=Un.laid old23 (zcq9 _) hf
   have u2:Un (frs X.stack) fp (upd H s2.heap.objs.size (.lst [])) H5 s3.heap s6.heap:=I6.base
   have hC:H5 s3.heap.objs.size=none:=I6.free
   obtain⟨m6,hm6,_⟩:=I6.loc
   have hos:s6.os=s2.os:=by rw[I6.os];show s3.os=s2.os;rw[← hs3]
   have hok6:=I6.hok
   have bare6:=I6.bare
   obtain⟨hh,gg,dd,tt',os'⟩:=s6
   obtain rfl:os'=s2.os:=hos
   exact hRR _ _ H5 _ (I.call (h':=hh) (g':=gg) (d':=dd) (t':=tt') (ch:=fp) (u1.trans u2) hok6 bare6 fun b hb=>⟨(fpok b hb).2.2.2.1,(fpok b hb).2.1,(fpok b hb).2.2.2.2.1,(fpok b hb).2.2.2.2.2⟩)
    (I.fpOk (by rw[hsz];exact zcv7 _) hC) ⟨m6,hm6⟩ hq
  ·refine thn (T.item (blk1 x0 X N scope cl s3.heap.objs.size s3 (upd H s2.heap.objs.size (.lst [])) fp) rfl rfl rfl hc i [] s5 σ5 H5 (fun _ _=>False) I5 (stat fr5) st5 go) fun r s6 ⟨u,hr,h6⟩=>?_
   subst hr
   refine thn h6 fun _ s7 ⟨x,H7,I7,r7,y7,st7,fr7⟩=>?_
   have I7':=I7.pinned (stat fr7) (T.obj _ _ st7)
   refine thn (hg _ _ _ _ _ s7 σ5 H7 x u _ I7' r7 (step x H7 y7)) fun _ s8 ⟨σ8,H8,I8,q8⟩=>?_
   refine thn (ht _ _ _ _ _ s8 σ8 H8 _ I8 q8) fun ok s9 ⟨H9,I9,q9⟩=>?_
   have again:∀ {s10:Shared}{σ10:St}{H10:Hp}{zs:List V},Inv (blk1 x0 X N scope cl s3.heap.objs.size s3 (upd H s2.heap.objs.size (.lst [])) fp) ([]++zaj1 fp s7.heap) σ10 H10 s10->(∃ m',m'<n/\W (i+1) m' zs σ10 H10) ->
     ∃ m,m<n/\∃ i ys σ' H',Inv (blk1 x0 X N scope cl s3.heap.objs.size s3 (upd H s2.heap.objs.size (.lst [])) fp) [] σ' H' s10/\tn i s10.heap/\(∀ b∈fp,H' b=none)/\W i m ys σ' H':=fun {s10 σ10 H10 zs} I10 ⟨m',hm,w10⟩=>by
    refine⟨m',hm,i+1,zs,σ10,H10,I10.unpinned,T.keep _ _ _ st7 fun b hb o e=>(I10.pin (b,o) (zcs8 _ (zcs8 _ (zo4 hb e)))).1,fun b hb=>?_,w10⟩
    obtain⟨o,e,d⟩:=T.obj _ _ st7 b hb
    exact (I10.pin (b,o) (zcs8 _ (zcs8 _ (zo4 hb e)))).2.1
   dsimp only at q9
   rw[zz5] at q9
   cases ok with
   | false=>
    have q9:∃ m',m'<n/\W (i+1) m' ys σ8 H9:=by rw[if_neg zcq0] at q9;unfold zaj8 at q9;exact q9
    exact again I9 q9
   | true=>
    have q9:=(if_pos rfl▸q9:te σ8 H9 _)
    refine thn (he _ _ _ _ _ s9 σ8 H9 _ I9 q9) fun v s10 ⟨y,H10,I10,r10,q10⟩=>?_
    unfold cPut at q10
    obtain⟨e10,q10⟩:=q10
    refine thn (zab9 _ s10 σ8 H10 (.ref s2.heap.objs.size) [y] (.ref s2.heap.objs.size) [v] (fun _ H11=>∃ m',m'<n/\W (i+1) m' (ys++[y]) σ8 H11) I10 rfl (.cons r10 .nil) ⟨_,ys,y,rfl,rfl,e10,hl5,q10 _ Chg.upd zc2⟩) fun _ s11 ⟨z,H11,I11,_,q11⟩=>?_
    exact again I11 q11
 exact codeAny_compStart_list loop (T.self _ 0 _ _ _ st4 loop)
def zaw6 (x0:Str) (scope:Scope):Bool:=scope.names.filter (fun y=>y.2==.cell)==[(x0,.cell)]&&scope.names.lookup x0==some .cell&&scope.names.all fun x=>x.2 != .local || scope.names.lookup x.1==some .local
theorem zbe8 {x0:Str}{scope:Scope}(h:zaw6 x0 scope=true):zy6 x0 scope.names/\∀ x∈scope.names,x.2=.local->scope.names.lookup x.1=some .local:=by
 unfold zaw6 at h
 rw[zcr6,zcr6] at h
 refine⟨⟨by simpa using h.1.1,by simpa using h.1.2⟩,fun x hx hl=>?_⟩
 have:=zcs6.mp h.2 x hx
 simpa [hl] using this
theorem zcd7 {x0:Str}{elt tg iter:Expr}{ifs:List Expr}{scope:Scope}{pos:Pos}{N:List Str}{ks:List (Option Nat)}{wi:TI}{g:TG}{tt:TT}{te:TE}(hi:PI X tg iter wi)
  (hg:∀ cl C s3 H3 fp,PG (blk1 x0 X N scope cl C s3 H3 fp) tg g) (ht:∀ cl C s3 H3 fp,PTs (blk1 x0 X N scope cl C s3 H3 fp) ifs tt) (he:∀ cl C s3 H3 fp,PE (blk1 x0 X N scope cl C s3 H3 fp) elt te) (hcap:zaa7 X scope N ks)
  (hc:X.calm=true:=by rfl) (hkind:scope.kind=.function:=by rfl) (hb:freeB scope X.env.kindOf=true:=by rfl) (hn:zaw6 x0 scope=true:=by rfl) (hs:∀ x,foldedSetIterable iter X.env x=pure x:=by intro _;rfl) :
  PE X (.ListComp elt [⟨tg,iter,ifs,0⟩] scope pos) (qComp ks wi g tt te):=by
 intro pins s σ H Q I h
 obtain⟨hone,hnames⟩:=zbe8 hn
 obtain⟨cl,hcl,hcl1,hcl2⟩:=zy4 (scope:=scope) (env:=X.env) fun x hx hf=>I.ok.has x.1 (zal2 hb x hx hf)
 rw[eval_ListComp]
 refine wpAny_comprehension_free (use:=none) rfl hs hcl hkind hnames ?_
 show wpAny _ _ (eval iter X.env) _ _ s
 refine thn (hi pins s σ H _ I h) fun v s1 h1=>thn h1 fun itv s2 h2=>?_
 obtain⟨it,fp,tn,J,H2,e,I2,T,st2,f2,q2⟩:=h2
 subst e
 refine zbf0 (RR:=fun acc C=>compPost (model X.prog X.w) X.A X.xe none (EP X pins σ Q) acc C) hcl1 hcl2 hkind hone (hcap.cap σ) (hcap.len σ) hc I2 T st2 f2 (hg cl) (ht cl) (he cl) q2 ?_
 rintro acc C H' s' I' hC ⟨m,hm⟩ hq
 refine⟨m,hm,fun h' hsb=>⟨.ref acc,H',?_,rfl,hq⟩⟩
 exact I'.turned (t':=s'.toks) (fun b o hb e=>hsb.extBut b o hb e) hC.1 hC.2.1 hC.2.2.2.1 hC.2.2.2.2.1 hC.2.2.2.2.2
end
end L2
set_option maxHeartbeats 1000000
namespace L2
open PySem PySem.Spec PyProof.Rows
section
variable {κ:Type}[DecidableEq κ]
def valV (kvs:List (κ×V)) (k:κ):Option V:=(kvs.find? fun kv=>decide (kv.1=k)).map (·.2)
def putK (kvs:List (κ×V)) (k:κ) (v:V):List (κ×V):=
 if (kvs.any fun kv=>decide (kv.1=k))=true then kvs.map (fun kv=>if kv.1=k then (kv.1,v) else kv) else kvs++[(k,v)]
theorem zx8 {p:κ×V}{r:List (κ×V)}{k:κ}(e:p.1=k):valV (p :: r) k=some p.2:=by simp[valV,zcv0,e]
theorem zx4 {p:κ×V}{r:List (κ×V)}{k:κ}(e:¬ p.1=k):valV (p :: r) k=valV r k:=by simp[valV,zcv0,e]
theorem zba0 (k:κ):∀ kvs:List (κ×V),(kvs.any fun kv=>decide (kv.1=k))=(valV kvs k).isSome
 | []=>rfl
 | p :: r=>by
  rw[List.any_cons]
  by_cases e:p.1=k
  ·simp only[zx8 e,decide_eq_true e,Bool.true_or,Option.isSome_some]
  ·rw[zx4 e,decide_eq_false e,Bool.false_or];exact zba0 k r
theorem zaf2 (kvs:List (κ×V)) (k:κ) (v:V):(putK kvs k v).length<=kvs.length+1:=by
 unfold putK
 split
 ·rw[zcp2];omega
 ·rw[zcr0,zcr8,zcu4];omega
theorem RelO.isSome_eq {o:Option V}{u:Option Value}(r:RelO o u):o.isSome=u.isSome:=by
 cases o with
 | none=>cases u with
  | none=>rfl
  | some _=>exact (show False from r).elim
 | some _=>cases u with
  | none=>exact (show False from r).elim
  | some _=>rfl
theorem RelO.getD {o:Option V}{u:Option Value}{d:V}{d':Value}(r:RelO o u) (rd:RelV d d'):RelV (o.getD d) (u.getD d'):=by
 cases o with
 | none=>cases u with
  | none=>exact rd
  | some _=>exact (show False from r).elim
 | some _=>cases u with
  | none=>exact (show False from r).elim
  | some _=>exact r
theorem KV.val {kvs:List (κ×V)}{vs:List (κ×Value)}(r:KV kvs vs) (k:κ):RelO (valV kvs k) (valueAt vs k):=by
 unfold KV at r
 induction r with
 | nil=>exact True.intro
 | @cons p q ps qs h t ih=>
  obtain⟨h1,h2⟩:=h
  by_cases e:p.1=k
  ·have e':q.1=k:=h1.symm.trans e
   have b:valueAt (q :: qs) k=some q.2:=by simp[valueAt,zcv0,e']
   rw[zx8 e,b];exact h2
  ·have e':¬ q.1=k:=fun z=>e (h1.trans z)
   have b:valueAt (q :: qs) k=valueAt qs k:=by simp[valueAt,zcv0,e']
   rw[zx4 e,b];exact ih
theorem KV.any {kvs:List (κ×V)}{vs:List (κ×Value)}(r:KV kvs vs) (k:κ):(kvs.any fun kv=>decide (kv.1=k))=vs.any fun kv=>decide (kv.1=k):=by
 unfold KV at r
 induction r with
 | nil=>rfl
 | cons h t ih=>rw[List.any_cons,List.any_cons,ih,h.1]
theorem KV.repl {kvs:List (κ×V)}{vs:List (κ×Value)}(r:KV kvs vs) (k:κ) {y:V}{u:Value}(ry:RelV y u) :
  KV (kvs.map fun kv=>if kv.1=k then (kv.1,y) else kv) (vs.map fun kv=>if kv.1=k then (kv.1,u) else kv):=by
 unfold KV at r ⊢
 induction r with
 | nil=>exact .nil
 | @cons p q ps qs h t ih=>
  rw[zcs0,zcs0]
  refine .cons ?_ ih
  obtain⟨h1,h2⟩:=h
  by_cases e:p.1=k
  ·rw[if_pos e,if_pos (h1.symm.trans e)];exact⟨h1,ry⟩
  ·rw[if_neg e,if_neg (fun z=>e (h1.trans z))];exact⟨h1,h2⟩
theorem KV.put {kvs:List (κ×V)}{vs:List (κ×Value)}(r:KV kvs vs) (k:κ) {y:V}{u:Value}(ry:RelV y u):KV (putK kvs k y) (stored vs k u):=by
 unfold putK stored
 rw[r.any k]
 by_cases e:(vs.any fun kv=>decide (kv.1=k))=true
 ·rw[if_pos e,if_pos e];exact r.repl k ry
 ·rw[if_neg e,if_neg e];exact Paired.snoc r ⟨rfl,ry⟩
theorem KV.length {kvs:List (κ×V)}{vs:List (κ×Value)}(r:KV kvs vs):kvs.length=vs.length:=Paired.length r
end
theorem kV_is {P:Program}{w:World}{k:Key}{u:Value}(r:RelV (kV k) u):(zj4 P w).is k u=true:=by
 cases k with
 | inl i=>obtain⟨t,e⟩:=(show ∃ t,u=Value.int i t from r);subst e;exact zav4 P w i t
 | inr x=>obtain⟨t,e⟩:=(show ∃ t,u=Value.str x t from r);subst e;exact zay1 P w x t
theorem zas2 {P:Program}{w:World}:∀ {ks:List Key}{us:List Value},Vals (ks.map kV) us->ItemsAre (zj4 P w) ks us
 | [],_,r=>by rw[List.map_nil] at r;cases r;exact .nil
 | k :: ks,_,r=>by
  rw[zcs0] at r
  cases r with
  | cons h t=>exact .cons (kV_is h) (zas2 t)
abbrev KT (H:Hp):List (List Key×V)->List (List Key×Addr×Value)->Prop:=Paired fun p q=>p.1=q.1/\H q.2.1=some (.tup (p.1.map kV))/\RelV p.2 q.2.2
theorem KT.val {H:Hp}{kvs:List (List Key×V)}{xs:List (List Key×Addr×Value)}(r:KT H kvs xs) (k:List Key):RelO (valV kvs k) ((atKey xs k).map (·.2)):=by
 induction r with
 | nil=>exact True.intro
 | @cons p q ps qs h t ih=>
  obtain⟨h1,_,h2⟩:=h
  by_cases e:p.1=k
  ·have e':q.1=k:=h1.symm.trans e
   have b:atKey (q :: qs) k=some q.2:=by simp[atKey,zcv0,e']
   rw[zx8 e,b];exact h2
  ·have e':¬ q.1=k:=fun z=>e (h1.trans z)
   have b:atKey (q :: qs) k=atKey qs k:=by simp[atKey,zcv0,e']
   rw[zx4 e,b];exact ih
theorem KT.repl {H:Hp}{kvs:List (List Key×V)}{xs:List (List Key×Addr×Value)}(r:KT H kvs xs) (k:List Key) {y:V}{u:Value}(ry:RelV y u) :
  KT H (kvs.map fun kv=>if kv.1=k then (kv.1,y) else kv) (xs.map (putAt k u)):=by
 induction r with
 | nil=>exact .nil
 | @cons p q ps qs h t ih=>
  rw[zcs0,zcs0]
  refine .cons ?_ ih
  obtain⟨h1,h2,h3⟩:=h
  unfold putAt
  by_cases e:p.1=k
  ·rw[if_pos e,if_pos (h1.symm.trans e)];exact⟨h1,h2,ry⟩
  ·rw[if_neg e,if_neg (fun z=>e (h1.trans z))];exact⟨h1,h2,h3⟩
theorem KT.put {H:Hp}{kvs:List (List Key×V)}{xs:List (List Key×Addr×Value)}(r:KT H kvs xs) (k:List Key) {b:Addr}{y:V}{u:Value}(hb:H b=some (.tup (k.map kV))) (ry:RelV y u) :
  KT H (putK kvs k y) (storedH xs k b u):=by
 have e:(kvs.any fun kv=>decide (kv.1=k))=(atKey xs k).isSome:=by
  rw[zba0,(r.val k).isSome_eq,Option.isSome_map]
 unfold putK storedH
 rw[e]
 by_cases q:(atKey xs k).isSome=true
 ·rw[if_pos q,if_pos q];exact r.repl k ry
 ·rw[if_neg q,if_neg q];exact Paired.snoc r ⟨rfl,hb,ry⟩
theorem KT.keeps {H H':Hp}{kvs:List (List Key×V)}{xs:List (List Key×Addr×Value)}(r:KT H kvs xs) (ht:∀ b ys,H b=some (.tup ys)->H' b=some (.tup ys)):KT H' kvs xs:=
 Paired.mapP r fun _ _ z=>⟨z.1,ht _ _ z.2.1,z.2.2⟩
section
variable {P:Program}{w:World}{H:Hp}{h:Heap}{a:Addr}
theorem rd_of {u:HO}(ok:HOk P w H h) (e:Rd H a u):zf3 P w H h a u:=e.ok ok
theorem zbn2 {kvs:List (Key×V)}(ok:HOk P w H h) (e:Rd H a (.dK kvs)):kvs.length<=sizeLine/\(a==sysModules)=false/\∃ vs,KV kvs vs/\h.DictOf (zj4 P w) a vs:=
 show zf3 P w H h a (.dK kvs) from rd_of ok e
theorem zbj1 {kvs:List (Key×V)}(ok:HOk P w H h) (e:H a=some (.dK kvs)):kvs.length<=sizeLine/\(a==sysModules)=false/\∃ vs,KV kvs vs/\h.DictOf (zj4 P w) a vs:=zbn2 ok (.inl e)
theorem zbc5 {ks:List Key}(ok:HOk P w H h) (e:H a=some (.tup (ks.map kV))):(tupleKind (zj4 P w)).is h ks a:=by
 obtain⟨_,its,r,o,h1,h2,n,h3⟩:=(show zf3 P w H h a (.tup (ks.map kV)) from ok a _ e)
 exact⟨o,its.toArray,n,h1,h2,h3,by simpa using zas2 r⟩
theorem zbp4 {kvs:List (List Key×V)}(ok:HOk P w H h) (e:Rd H a (.dT kvs)):kvs.length<=sizeLine/\(a==sysModules)=false /\
  ∃ xs,KT H kvs xs/\h.DictOfH (tupleKind (zj4 P w)) a xs:=by
 obtain⟨z,y,xs,r,o,es,ep,h1,h2,h3,h4,h5⟩:=(show zf3 P w H h a (.dT kvs) from rd_of ok e)
 refine⟨z,y,xs,r,o,es,ep,h1,h2,h3,h4,fun x hx=>?_,h5⟩
 have all:∀ {l:List (List Key×V)}{m:List (List Key×Addr×Value)},KT H l m->∀ x∈m,(tupleKind (zj4 P w)).is h x.1 x.2.1:=by
  intro l m q
  induction q with
  | nil=>intro x hx;exact nomatch hx
  | @cons p q ps qs hq t ih=>
   intro x hx
   rcases zcq6.mp hx with e|hx
   ·subst e
    exact zbc5 ok (by rw[← hq.1];exact hq.2.1)
   ·exact ih x hx
 exact all r x hx
theorem dt_of {kvs:List (List Key×V)}(ok:HOk P w H h) (e:H a=some (.dT kvs)):kvs.length<=sizeLine/\(a==sysModules)=false /\
  ∃ xs,KT H kvs xs/\h.DictOfH (tupleKind (zj4 P w)) a xs:=zbp4 ok (.inl e)
end
def DGet (H:Hp) (a:Addr) (y:V) (r:Option V):Prop:=
 (∃ kvs k,Rd H a (.dK kvs)/\y=kV k/\r=valV kvs k)∨∃ kvs k b,Rd H a (.dT kvs)/\y=.ref b/\H b=some (.tup (k.map kV))/\r=valV kvs k
def DPut (H:Hp) (a:Addr) (y v:V) (H':Hp):Prop:=
 (∃ kvs k,H a=some (.dK kvs)/\y=kV k/\kvs.length<sizeLine/\H'=upd H a (.dK (putK kvs k v))) ∨
 ∃ kvs k b,H a=some (.dT kvs)/\y=.ref b/\H b=some (.tup (k.map kV))/\kvs.length<sizeLine/\H'=upd H a (.dT (putK kvs k v))
theorem DGet.k {H:Hp}{a:Addr}{kvs:List (Key×V)}{k:Key}(e:H a=some (.dK kvs)):DGet H a (kV k) (valV kvs k):=.inl ⟨kvs,k,.inl e,rfl,rfl⟩
theorem DGet.t {H:Hp}{a b:Addr}{kvs:List (List Key×V)}{k:List Key}(e:H a=some (.dT kvs)) (eb:H b=some (.tup (k.map kV))):DGet H a (.ref b) (valV kvs k):=.inr ⟨kvs,k,b,.inl e,rfl,eb,rfl⟩
theorem DPut.k {H:Hp}{a:Addr}{kvs:List (Key×V)}{k:Key}{v:V}(e:H a=some (.dK kvs)) (hl:kvs.length<sizeLine):DPut H a (kV k) v (upd H a (.dK (putK kvs k v))):=.inl ⟨kvs,k,e,rfl,hl,rfl⟩
theorem DPut.t {H:Hp}{a b:Addr}{kvs:List (List Key×V)}{k:List Key}{v:V}(e:H a=some (.dT kvs)) (eb:H b=some (.tup (k.map kV))) (hl:kvs.length<sizeLine) :
  DPut H a (.ref b) v (upd H a (.dT (putK kvs k v))):=.inr ⟨kvs,k,b,e,rfl,eb,hl,rfl⟩
section
variable {X:Cx}{pins:List (Addr×Obj)}{σ:St}{H:Hp}{s:Shared}{a:Addr}{y v:V}{u r:Value}{o:Option V}{A:Around}{E:Value->Shared->Prop}
theorem Inv.big (I:Inv X pins σ H s):sysModules<s.heap.objs.size:=by
 have h:mainGlobals<s.heap.objs.size:=(I.mod.glob.keeps I.bk).lt
 exact Nat.lt_trans (by decide) h
theorem zbo6 {Q:Value->Shared->Prop}(hu:A.units+1<cLine) (I:Inv X pins σ H s) (g:DGet H a y (some v)) (ry:RelV y u) (h:∀ w' s',Inv X pins σ H s'->RelV v w'->Q w' s') :
  wpAny (model X.prog X.w) A (getItem (.ref a) u) Q E s:=by
 rcases g with ⟨kvs,k,e,ey,l⟩|⟨kvs,k,b,e,ey,eb,l⟩
 ·subst ey
  obtain⟨z,hd,vs,rel,dd⟩:=zbn2 I.hok e
  obtain⟨w',hw,rw'⟩:=RelO.some_of (v:=v) (o:=valueAt vs k) (by rw[l];exact rel.val k)
  exact wpAny_getItem_of (kV_is ry) dd.mapOf hw (h w' _ (I.tok _) rw')
 ·subst ey
  cases (show u=Value.ref b from ry)
  obtain⟨z,hd,xs,rel,dd⟩:=zbp4 I.hok e
  obtain⟨w',hw,rw'⟩:=RelO.some_of (v:=v) (o:=(atKey xs k).map (·.2)) (by rw[l];exact rel.val k)
  obtain⟨p,hp,hp2⟩:=zcp7.mp hw
  refine wpAny_getItem_heap (tupleKind_room_in1 hu) (zbc5 I.hok eb) dd hp ?_
  rw[hp2]
  exact h w' _ (I.tok _) rw'
theorem zbk8 {h':Heap}{t':Nat}{ob:HO}(I:Inv X pins σ H s) (mu:Mut (H a)) (hs:Heap.SameBut a s.heap h') (he:∃ q,h'.get? a=some q) (new:zf3 X.prog X.w (upd H a ob) h' a ob) :
  Inv X pins σ (upd H a ob) { s with heap:=h',toks:=t' }:=
 I.write (x:=a) (e:=a) mu (.inl rfl) (fun b q hb z=>(hs.2 b hb).trans z) he new
theorem dk_new {P:Program}{w:World}{H':Hp}{h':Heap}{kvs:List (Key×V)}{vs:List (Key×Value)}(z:kvs.length<=sizeLine) (hd:(a==sysModules)=false) (rel:KV kvs vs) (dd:h'.DictOf (zj4 P w) a vs) :
  zf3 P w H' h' a (.dK kvs):=⟨z,hd,vs,rel,dd⟩
theorem zbn3 {H':Hp}{Q:Unit->Shared->Prop}(hu:A.units+1<cLine) (I:Inv X pins σ H s) (g:DPut H a y v H') (ry:RelV y u) (rv:RelV v r) (h:∀ s',Inv X pins σ H' s'->Q () s') :
  wpAny (model X.prog X.w) A (setItem (.ref a) u r) Q E s:=by
 rcases g with ⟨kvs,k,e,ey,l,eH⟩|⟨kvs,k,b,e,ey,eb,l,eH⟩
 ·subst ey eH
  obtain⟨z,hd,vs,rel,dd⟩:=zbj1 I.hok e
  have hz:vs.length<=sizeLine:=by rw[← rel.length];exact z
  have hl:(putK kvs k v).length<=sizeLine:=by have:=zaf2 kvs k v;omega
  refine wpAny_setItem_pairs (hsz:=hz) (kV_is ry) dd fun h' dd' hs=>h _ ?_
  have he:∃ q,h'.get? a=some q:=let ⟨q,_,_,hq,_⟩:=dd';⟨q,hq⟩
  exact zbk8 I (by rw[e];exact True.intro) hs he (dk_new hl hd (rel.put k rv) dd')
 ·subst ey eH
  cases (show u=Value.ref b from ry)
  obtain⟨z,hd,xs,rel,dd⟩:=dt_of I.hok e
  have hz:xs.length<=sizeLine:=by rw[← Paired.length rel];exact z
  have hl:(putK kvs k v).length<=sizeLine:=by have:=zaf2 kvs k v;omega
  refine wpAny_setItem_heap (hsz:=hz) (tupleKind_room_in1 hu) (zbc5 I.hok eb) dd fun h' dd' hs=>h _ ?_
  obtain⟨q,es,ep,hq,h2,h3,h4,_,h5⟩:=dd'
  refine zbk8 I (by rw[e];exact True.intro) hs ⟨q,hq⟩ ⟨hl,hd,_,(rel.put k eb rv).keeps fun c ys ec=>?_,q,es,ep,hq,h2,h3,h4,h5⟩
  rw[zc0 (ne_of ec e (fun z=>nomatch z))]
  exact ec
end
section
variable {X:Cx}{pins:List (Addr×Obj)}{σ:St}{H:Hp}{s:Shared}{a:Addr}{kvs:List (Key×V)}{k:Key}{u:Value}{A:Around}{E:Value->Shared->Prop}
end
def NoSl (i:Expr):Prop:=∀ ov iv,subscripted i false ov iv=operate [ov,iv] (getItem ov iv)
theorem zce3 {prog:Program}{w:World}{A:Around}{E:Value->Shared->Prop}{s:Shared}{env:Env}{value slice:Expr}{pos:Pos}{T id:String}{Q:Value->Shared->Prop}
  (hl:typeLookup (.type T) "__getitem__"=pure (some (.builtin id))) (hs:NoSl slice)
  (h:wpAny (model prog w) A (eval value env) (fun o s₁=>wpAny (model prog w) A (eval slice env) (fun i s₂=>s₂.TypeIs o T/\wpAny (model prog w) A (getItem o i) Q E s₂) E s₁) E s) :
  wpAny (model prog w) A (eval (.Subscript value slice pos) env) Q E s:=by
 refine Subscript_ (wpAny_mono h (fun o s₁ h₁=>wpAny_mono h₁ (fun i s₂ h₂=>?_) fun _ _ x=>x) fun _ _ x=>x)
 obtain⟨hT,h₂⟩:=h₂
 unfold subscriptTail
 refine wpAny_bind ?_
 rw[getitemInPython_of_ne hT.not_modules]
 refine wpAny_bind (wpAny_specialOf hT hl ?_)
 have fin:wpAny (model prog w) A (subscripted slice false o i) (fun r s₃=>wpAny (model prog w) A (letTemporaryGo value o r >>= fun _=>pure r) Q E s₃) E s₂:=by
  rw[hs o i]
  exact wpAny_operating (wpAny_mono h₂ (fun r s₃ h₃=>wpAny_bind (wpAny_letTemporaryGo (wpAny_pure h₃))) fun _ _ x=>x)
 first
  | exact wpAny_pure (wpAny_bind fin)
  | exact wpAny_bind (wpAny_pure (wpAny_bind fin))
  | exact wpAny_bind fin
theorem zaz1 {X:Cx}{pins:List (Addr×Obj)}{σ:St}{H:Hp}{s:Shared}{a:Addr}{y:V}{o:Option V}(I:Inv X pins σ H s) (g:DGet H a y o):s.TypeIs (.ref a) "dict":=by
 rcases g with ⟨kvs,k,e,_,_⟩|⟨kvs,k,b,e,_,_,_⟩
 ·obtain⟨_,_,vs,_,dd⟩:=zbn2 I.hok e
  exact dd.typeIs
 ·obtain⟨_,_,xs,_,dd⟩:=zbp4 I.hok e
  exact dd.typeIs
def tDGet (td ty:TE):TE:=fun σ H Q=>td σ H fun x H1=>ty σ H1 fun y H2=>∃ a v,x=.ref a/\DGet H2 a y (some v)/\Q v H2
def sDPut (td ty tv:TE):TS:=fun D σ H=>tv σ H fun v H1=>td σ H1 fun x H2=>ty σ H2 fun y H3=>∃ a H4,x=.ref a/\DPut H3 a y v H4/\D.nx σ H4
section
variable {X:Cx}{o i e value:Expr}{pos pos' tpos:Pos}{td ty tv:TE}
theorem zcf5 (hu:X.A.units+1<cLine) (ho:PE X o td) (hi:PE X i ty) (hs:NoSl i):PE X (.Subscript o i pos) (tDGet td ty):=by
 intro pins s σ H Q I h
 refine zce3 PySem.F.slot_dict_getitem.lookup hs (thn (ho pins s σ H _ I h) fun u s1 ⟨x,H1,I1,rx,q1⟩=>thn (hi pins s1 σ H1 _ I1 q1) fun iv s2 ⟨y,H2,I2,ry,a,v,ex,g,q2⟩=>?_)
 subst ex
 obtain rfl:u=Value.ref a:=rx
 exact⟨zaz1 I2 g,zbo6 hu I2 g ry fun w' s3 I3 rw'=>⟨v,H2,I3,rw',q2⟩⟩
theorem zcb3 (hu:X.A.units+1<cLine) (ho:PE X o td) (hi:PE X i ty) (hv:PE X value tv) (hs:swapsWith value (some (.Subscript o i pos')) pos.line X.env=pure false) :
  PS X (.Assign [.Subscript o i pos'] value pos) (sDPut td ty tv):=by
 intro pins s σ H D I h
 refine wpAny_Assign_Subscript (thn (hv pins s σ H _ I h) fun r s1 ⟨v,H1,I1,rv,q1⟩=>thn (ho pins s1 σ H1 _ I1 q1) fun u s2 ⟨x,H2,I2,rx,q2⟩=>thn (hi pins s2 σ H2 _ I2 q2) fun iv s3 ⟨y,H3,I3,ry,a,H4,ex,g,q3⟩=>?_) hs
 subst ex
 obtain rfl:u=Value.ref a:=rx
 exact zbn3 hu I3 g ry rv fun s4 I4=>⟨σ,H4,I4,q3⟩
end
theorem zbw1 {P:Program}{w:World}{H:Hp}(h:Heap) (hb:sysModules<h.objs.size):zf3 P w H (h.push { cls:=.type "dict",data:=.dict #[] }) h.objs.size (.dK []):=
 ⟨zct3 _,beq_eq_false_iff_ne.mpr (Ne.symm (zcs5 hb)),[],.nil,Heap.DictOf.new h⟩
theorem zbu4 {P:Program}{w:World}{H:Hp}(h:Heap) (hb:sysModules<h.objs.size):zf3 P w H (h.push { cls:=.type "dict",data:=.dict #[] }) h.objs.size (.dT []):=
 ⟨zct3 _,beq_eq_false_iff_ne.mpr (Ne.symm (zcs5 hb)),[],.nil,_,#[],0,zcs3 _ rfl,⟨rfl,rfl,rfl⟩,rfl,rfl,List.nodup_nil⟩
def tDNewK:TE:=fun _ H Q=>∀ p,H p=none->Q (.ref p) (upd H p (.dK []))
def tDNewT:TE:=fun _ H Q=>∀ p,H p=none->Q (.ref p) (upd H p (.dT []))
section
variable {X:Cx}{pos:Pos}
theorem zbw2:PE X (.Dict [] [] pos) tDNewK:=fun pins s σ H Q I h=>
 wpAny_Dict_empty ⟨.ref s.heap.objs.size,_,I.laid (a:=s.heap.objs.size) (o:=.dK []) (t':=s.toks) (fun _ _ q=>zcp8 _ q) (zcq9 _) (zbw1 s.heap I.big),rfl,h _ (I.hok.fresh (zcq9 _))⟩
theorem zbs3:PE X (.Dict [] [] pos) tDNewT:=fun pins s σ H Q I h=>
 wpAny_Dict_empty ⟨.ref s.heap.objs.size,_,I.laid (a:=s.heap.objs.size) (o:=.dT []) (t':=s.toks) (fun _ _ q=>zcp8 _ q) (zcq9 _) (zbu4 s.heap I.big),rfl,h _ (I.hok.fresh (zcq9 _))⟩
end
structure M1 (X:Cx) (o:Expr) (m:Str) (apos:Pos) (e:Expr) (cpos:Pos):Prop where
 base:attributeBase o m X.env (eval o X.env)=eval o X.env
 few:((backTo cpos (starEach [e] X.env)).all (fun x=>!x.1)&&(backToKw cpos (keywordEach [] X.env)).all (fun x=>x.1.isSome)
  && decide (([e]:List Expr).length+([]:List Keyword).length+(if ([]:List Keyword).isEmpty then 0 else 1)<30))=true
 line:(apos.endLine==cpos.line)=true
 trees:backTo cpos (starEach [e] X.env)=[(false,eval e X.env)]
structure M2 (X:Cx) (o:Expr) (m:Str) (apos:Pos) (e f:Expr) (cpos:Pos):Prop where
 base:attributeBase o m X.env (eval o X.env)=eval o X.env
 few:((backTo cpos (starEach [e,f] X.env)).all (fun x=>!x.1)&&(backToKw cpos (keywordEach [] X.env)).all (fun x=>x.1.isSome)
  && decide (([e,f]:List Expr).length+([]:List Keyword).length+(if ([]:List Keyword).isEmpty then 0 else 1)<30))=true
 line:(apos.endLine==cpos.line)=true
 trees:backTo cpos (starEach [e,f] X.env)=[(false,eval e X.env),(false,eval f X.env)]
def IsD (H:Hp) (a:Addr):Prop:=(∃ kvs,Rd H a (.dK kvs))∨∃ kvs,Rd H a (.dT kvs)
theorem isD_at {X:Cx}{pins:List (Addr×Obj)}{σ:St}{H:Hp}{s:Shared}{a:Addr}(I:Inv X pins σ H s) (d:IsD H a) :
  s.TypeIs (.ref a) "dict"/\(∀ b,Value.ref a=.ref b->∃ ob,s.heap.get? b=some ob/\ob.dict=none)/\(a==sysModules)=false:=by
 rcases d with ⟨kvs,e⟩|⟨kvs,e⟩
 ·obtain⟨_,hd,vs,_,dd⟩:=zbn2 I.hok e
  refine⟨dd.typeIs,fun b q=>?_,hd⟩
  cases q
  obtain⟨ob,_,_,h1,h2,_⟩:=dd
  exact⟨ob,h1,h2.2.1⟩
 ·obtain⟨_,hd,xs,_,dd⟩:=zbp4 I.hok e
  refine⟨dd.typeIs,fun b q=>?_,hd⟩
  cases q
  obtain⟨ob,_,_,h1,h2,_⟩:=dd
  exact⟨ob,h1,h2.2.1⟩
section
variable {X:Cx}{pins:List (Addr×Obj)}{σ:St}{H:Hp}{s:Shared}{a:Addr}{y d:V}{u r:Value}{o:Option V}{A:Around}{E:Value->Shared->Prop}
theorem d_get2 {Q:Value->Shared->Prop}(hu:A.units+1<cLine) (I:Inv X pins σ H s) (g:DGet H a y o) (ry:RelV y u) (rd:RelV d r) (h:∀ w' s',Inv X pins σ H s'->RelV (o.getD d) w'->Q w' s') :
  wpAny (model X.prog X.w) A (call (.builtin "dict.get") [.ref a,u,r]) Q E s:=by
 rcases g with ⟨kvs,k,e,ey,l⟩|⟨kvs,k,b,e,ey,eb,l⟩
 ·subst ey
  obtain⟨z,hd,vs,rel,dd⟩:=zbn2 I.hok e
  refine call_meetsIn PySem.F.slot_dict_get dd.typeIs PySem.F.entry_dict_get (PySem.F.args_dict_get_3 _ _ _) (meets_dict_get_default (zj4 X.prog X.w) a (kV_is ry) hd r) ⟨_,dd.mapOf,h _ _ (I.tok _) ?_⟩
  rw[l]
  exact (rel.val k).getD rd
 ·subst ey
  cases (show u=Value.ref b from ry)
  obtain⟨z,hd,xs,rel,dd⟩:=zbp4 I.hok e
  refine call_meetsIn PySem.F.slot_dict_get dd.typeIs PySem.F.entry_dict_get (PySem.F.args_dict_get_3 _ _ _) (meetsH_dict_get_default (tupleKind (zj4 X.prog X.w)) a b hd r) ⟨tupleKind_room_in1 hu,k,xs,zbc5 I.hok eb,dd,h _ _ (I.tok _) ?_⟩
  rw[l]
  exact (rel.val k).getD rd
end
def zbi5 (td ty tx:TE):TE:=fun σ H Q=>td σ H fun x H1=>∃ a,x=.ref a/\IsD H1 a/\ty σ H1 fun y H2=>tx σ H2 fun z H3=>∃ o,DGet H3 a y o/\Q (o.getD z) H3
section
variable {X:Cx}{o e f:Expr}{apos cpos:Pos}{td ty tx:TE}
theorem zbw7 (hu:X.A.units+1<cLine) (ho:PE X o td) (he:PE X e ty) (hf:PE X f tx) (m:M2 X o "get" apos e f cpos):PE X (.Call (.Attribute o "get" apos) [e,f] [] cpos) (zbi5 td ty tx):=by
 intro pins s σ H Q I h
 refine wpAny_Call_method m.base m.few m.line PySem.F.plainAttrs_dict PySem.F.slot_dict_get PySem.F.type_dict_get (thn (ho pins s σ H _ I h) fun u s1 ⟨x,H1,I1,rx,a,ex,d,q1⟩=>?_)
 subst ex
 obtain rfl:u=Value.ref a:=rx
 obtain⟨t1,t2,_⟩:=isD_at I1 d
 refine⟨t1,t2,?_⟩
 rw[m.trees]
 refine Calls.callWith_builtin rfl (Calls.evalArgs_plain (Calls.spliced_cons (thn (he pins s1 σ H1 _ I1 q1) fun iv s2 ⟨y,H2,I2,ry,q2⟩=>
  Calls.spliced_cons (thn (hf pins s2 σ H2 _ I2 q2) fun fv s3 ⟨z,H3,I3,rz,ov,g,q3⟩=>Calls.spliced_nil ?_))))
 exact d_get2 hu I3 g ry rz fun w' s4 I4 rw'=>⟨_,H3,I4,rw',q3⟩
end
section
variable {X:Cx}{pins:List (Addr×Obj)}{σ:St}{H:Hp}{s:Shared}{a:Addr}{kvs:List (Key×V)}{A:Around}{E:Value->Shared->Prop}
end
section
variable {X:Cx}{pins:List (Addr×Obj)}{σ:St}{H:Hp}{s:Shared}{a:Addr}{y:V}{u:Value}{A:Around}{E:Value->Shared->Prop}
end
end L2
namespace L2
open PySem PySem.Spec PyProof.Rows
section
variable {κ:Type}[DecidableEq κ]
end
end L2
set_option maxHeartbeats 2000000
namespace L2
open PySem PySem.Spec PyProof.Rows
def RawD (h:Heap) (d:Addr) (es:Array DictEntry) (ep:Nat):Prop:=∃ o,h.get? d=some o/\o.ExactDict/\o.data=.dict es ep
theorem RawD.is {s:Shared}{d:Addr}{es:Array DictEntry}{ep:Nat}(x:RawD s.heap d es ep):s.TypeIs (.ref d) "dict":=let ⟨o,a,b,_⟩:=x;⟨o,a,b.1⟩
theorem RawD.lt {h:Heap}{d:Addr}{es:Array DictEntry}{ep:Nat}(x:RawD h d es ep):d<h.objs.size:=let ⟨_,a,_⟩:=x;zcq7 a
theorem RawD.to {h h':Heap}{d:Addr}{es:Array DictEntry}{ep:Nat}(x:RawD h d es ep) (k:∀ o,h.get? d=some o->h'.get? d=some o):RawD h' d es ep:=let ⟨o,a,r⟩:=x;⟨o,k _ a,r⟩
section
variable {prog:Program}{w:World}{A:Around}{E:Value->Shared->Prop}{s:Shared}{d it:Addr}{es:Array DictEntry}{ep:Nat}
theorem zbs8 {Q:Value->Shared->Prop}(lo:(d==sysModules)=false) (x:RawD s.heap d es ep)
  (q:Q (.ref s.heap.objs.size) { s with heap:=s.heap.push { cls:=.type "dict_keyiterator",data:=.fields #[.ref d,.int 0 0,.int es.size 0,.int ep 0] } }) :
  wpAny (model prog w) A (pyIter (.ref d)) Q E s:=by
 obtain⟨o,x1,x2,x3⟩:=id x
 have tt:=x.is
 refine wpAny_pyIter_slot tt F.slot_dict_iter (wpAny_call_entry F.slot_dict_iter tt F.entry_dict_iter ?_ (F.args_dict_iter_1 _))
 unfold Builtin.«dict.__iter__» Builtin.Dict.dictSlotNone
 refine wpAny_bind (wpAny_bind (wpAny_notOrdered_dict tt ?_))
 show wpAny (model prog w) _ (pure (Value.ref d)) _ _ s
 refine wpAny_pure (?_:_)
 show wpAny (model prog w) _ (Builtin.Dict.showsAll d >>= _) _ _ s
 unfold Builtin.Dict.showsAll
 rw[if_neg (fun z=>zcq0 (lo.symm.trans z))]
 refine wpAny_bind (wpAny_pure (wpAny_bind (wpAny_dictEntries x1 x3 (wpAny_bind (wpAny_dictEpoch x1 x3 ?_)))))
 exact wpAny_bind (wpAny_newObj_type (wpAny_pure ⟨_,rfl,"dict_keyiterator",_,⟨_,zcs3 _ rfl,rfl⟩,F.slot_dict_keyiterator_next.lookup,by simpa [rawInt] using q⟩))
theorem zbt0 {i:Nat}{Q:Option Value->Shared->Prop}(y:s.heap.IsKeyIter it d i es.size ep) (x:RawD s.heap d es ep) (hi:i<es.size)
  (q:∀ h',h'.IsKeyIter it d (i+1) es.size ep->Heap.SameBut it s.heap h'->Q (some es[i].key) { s with heap:=h' }) :
  wpAny (model prog w) A (pyNext (.ref it)) Q E s:=by
 obtain⟨o,y1,y2,y3⟩:=id y
 obtain⟨od,x1,x2,x3⟩:=id x
 have own:Builtin.Dict_items.ownsTuple "dict_keyiterator"=false:=by decide
 unfold pyNext
 refine wpAny_bind (wpAny_attempt (wpAny_callSpecial?_slot (name:=Str.ofString "__next__") y.typeIs F.slot_dict_keyiterator_next (wpAny_call_entry F.slot_dict_keyiterator_next y.typeIs F.entry_dict_keyiterator_next ?_ (F.args_dict_keyiterator_next_1 _))))
 refine wpAny_bind (wpAny_pure (wpAny_bind (wpAny_bind ?_)))
 first|refine wpAny_bind (wpAny_typeNameOfWhole_keyiter y.typeIs (wpAny_pure ?_))|refine wpAny_bind (wpAny_typeNameOf_keyiter y.typeIs (wpAny_pure ?_))
 refine wpAny_bind (wpAny_fieldsOf y1 y3 ?_)
 simp only[own,zcv5,if_false]
 show wpAny (model prog w) _ (if (Value.ref d==Value.none)=true then _ else _) _ _ s
 rw[if_neg (show ¬ (Value.ref d==Value.none)=true from zcq0)]
 refine wpAny_bind (wpAny_pure (wpAny_bind (wpAny_dictEntries x1 x3 ?_)))
 rw[if_neg (by simp)]
 refine wpAny_bind (wpAny_pure (wpAny_bind (wpAny_dictEpoch x1 x3 ?_)))
 rw[if_neg (by simp)]
 refine wpAny_pure (?_:_)
 simp only[show ¬ ((i:Int)<0) from by omega,if_false,zcx3,Array.getElem?_eq_getElem hi]
 refine wpAny_bind (?_:_)
 first|refine wpAny_bind (wpAny_typeNameOfWhole_keyiter y.typeIs (wpAny_pure ?_))|refine wpAny_bind (wpAny_typeNameOf_keyiter y.typeIs (wpAny_pure ?_))
 refine wpAny_bind (wpAny_isOneOf_keyiter y.typeIs ?_)
 show wpAny (model prog w) _ (setField (.ref it) 1 (rawInt ((i:Int)+1)) >>= _) _ _ s
 refine wpAny_bind (wpAny_setField y1 y3 (by simp) ?_)
 have y':(s.heap.update it (Obj.mapFields (·.setIfInBounds 1 (rawInt ((i:Int)+1))))).IsKeyIter it d (i+1) es.size ep:=
  ⟨_,zcu3 _ y1 (Obj.isFreed_of_fields (Obj.data_mapFields y3 _)),(Obj.cls_mapFields ..).trans y2,by rw[Obj.data_mapFields y3];simp[rawInt]⟩
 refine wpAny_bind (wpAny_holding (wpAny_bind (wpAny_isOneOf_keyiter (s:={ s with heap:=s.heap.update it (Obj.mapFields (·.setIfInBounds 1 (rawInt ((i:Int)+1)))) }) y'.typeIs ?_)))
 show wpAny (model prog w) _ (pure es[i].key) _ _ _
 exact wpAny_pure (wpAny_pure ⟨_,rfl,wpAny_pure (q _ y' (Heap.SameBut.update ..))⟩)
theorem zce9 {i:Nat}{Q:Option Value->Shared->Prop}(hh:A.handled=none) (y:s.heap.IsKeyIter it d i es.size ep) (x:RawD s.heap d es ep) (hi:es.size<=i)
  (q:∀ h',Heap.ExtBut it s.heap h'->Q none { s with heap:=h' }) :
  wpAny (model prog w) A (pyNext (.ref it)) Q E s:=by
 obtain⟨o,y1,y2,y3⟩:=id y
 obtain⟨od,x1,x2,x3⟩:=id x
 have own:Builtin.Dict_items.ownsTuple "dict_keyiterator"=false:=by decide
 unfold pyNext
 refine wpAny_bind (wpAny_attempt (wpAny_callSpecial?_slot (name:=Str.ofString "__next__") y.typeIs F.slot_dict_keyiterator_next (wpAny_call_entry F.slot_dict_keyiterator_next y.typeIs F.entry_dict_keyiterator_next ?_ (F.args_dict_keyiterator_next_1 _))))
 refine wpAny_bind (wpAny_pure (wpAny_bind (wpAny_bind ?_)))
 first|refine wpAny_bind (wpAny_typeNameOfWhole_keyiter y.typeIs (wpAny_pure ?_))|refine wpAny_bind (wpAny_typeNameOf_keyiter y.typeIs (wpAny_pure ?_))
 refine wpAny_bind (wpAny_fieldsOf y1 y3 ?_)
 simp only[own,zcv5,if_false]
 show wpAny (model prog w) _ (if (Value.ref d==Value.none)=true then _ else _) _ _ s
 rw[if_neg (show ¬ (Value.ref d==Value.none)=true from zcq0)]
 refine wpAny_bind (wpAny_pure (wpAny_bind (wpAny_dictEntries x1 x3 ?_)))
 rw[if_neg (by simp)]
 refine wpAny_bind (wpAny_pure (wpAny_bind (wpAny_dictEpoch x1 x3 ?_)))
 rw[if_neg (by simp)]
 refine wpAny_pure (?_:_)
 simp only[show ¬ ((i:Int)<0) from by omega,if_false,zcx3,Array.getElem?_eq_none hi]
 refine wpAny_bind (?_:_)
 first|refine wpAny_bind (wpAny_typeNameOfWhole_keyiter y.typeIs (wpAny_pure ?_))|refine wpAny_bind (wpAny_typeNameOf_keyiter y.typeIs (wpAny_pure ?_))
 show wpAny (model prog w) _ (setField (.ref it) 0 .none >>= _) _ _ s
 refine wpAny_bind (wpAny_setField y1 y3 (by simp) ?_)
 show wpAny (model prog w) _ (newExc (.type "StopIteration") [] >>= _) _ _ _
 refine wpAny_bind (?_:_)
 unfold newExc newTuple
 refine wpAny_bind (wpAny_newObj_type ?_ (zct3 _))
 refine wpAny_bind (m:=firstArgMember _ _) (wpAny_of_eq (a:=Value.none) (by first|rfl|(unfold firstArgMember;rfl)) ?_)
 refine wpAny_newObj_type ?_ (by size_fits)
 unfold raiseNew
 refine wpAny_bind (wpAny_handled ?_)
 have hn:A.in1.handled=none:=hh
 rw[hn]
 refine wpAny_bind (wpAny_pure (wpAny_throw (?_:_)))
 refine wpAny_bind (wpAny_isInstance (b:=true) (T:="StopIteration") ⟨_,zcs3 _ rfl,rfl⟩ isSubtype_stop ?_)
 exact wpAny_pure (q _ (((Heap.SameBut.update ..).extBut.push _).push _))
theorem zbw3 (hh:A.handled=none) (I:Addr) (ne:d≠I) :
  Walks prog w A I [I,d] [I] es.size (fun i v=>∃ e,es[i]?=some e/\v=e.key) (fun i h=>h.IsKeyIter I d i es.size ep/\RawD h d es ep) where
 sub:=by intro b z;simp at z;simp[z]
 frame:=fun i h h' st k=>⟨st.1.at (k I (by simp)),st.2.to (k d (by simp))⟩
 item:=fun i s Q E hi st q=>zbt0 st.1 st.2 hi fun h' y' hs=>q _ h' s.toks ⟨es[i],by simp[hi],rfl⟩ ⟨y',st.2.to fun o e=>hs.extBut d o ne e⟩ fun b o hb e=>hs.extBut b o (fun z=>hb (by simp[z])) e
 done:=fun s Q E st q=>zce9 hh st.1 st.2 (zcq9 _) fun h' he=>q h' s.toks fun b o hb e=>he b o (fun z=>hb (by simp[z])) e
 self:=fun i s Q E st q=>wpAny_pyIter_keyiter st.1 q
theorem zch5 (lo:(d==sysModules)=false):PySem.W.KdlSrc prog w "dict" d d es.size (fun i v=>∃ e,es[i]?=some e/\v=e.key) (fun h=>RawD h d es ep) where
 type:=fun s x=>x.is
 there:=fun h x=>⟨x.lt,x.lt⟩
 keep:=fun h h' x k=>x.to fun o e=>k d (Or.inl rfl) o e
 notList:=rfl
 notTuple:=rfl
 hint:=fun A E s Q x q=>PySem.W.kdl_hint_dict x.is q
 iter:=fun A s hh x=>⟨_,_,(fun E Q q=>zbs8 lo x q),zbw3 hh _ (zcs5 x.lt),⟨⟨_,zcs3 _ rfl,rfl,rfl⟩,x.to fun o e=>zcp8 _ e⟩⟩
end
end L2
set_option maxHeartbeats 2000000
namespace L2
open PySem PySem.Spec PyProof.Rows PySem.W
section
variable {lt:Nat->Nat->Bool}{n:Nat}
def KW {α:Type}(lt:Nat->Nat->Bool) (n:Nat) (Q:α->Prop):KasT α->Prop
 | .ret a=>Q a
 | .ask i j k=>i<n/\j<n/\KW lt n Q (k (lt i j))
theorem KW.bd {α β:Type}{f:α->KasT β}{Q:β->Prop}:∀ {t:KasT α},KW lt n (fun a=>KW lt n Q (f a)) t->KW lt n Q (t.bind f)
 | .ret _,h=>h
 | .ask _ _ k,⟨h1,h2,h3⟩=>⟨h1,h2,KW.bd (t:=k _) h3⟩
theorem KW.mono {α:Type}{Q Q':α->Prop}(hq:∀ a,Q a->Q' a):∀ {t:KasT α},KW lt n Q t->KW lt n Q' t
 | .ret a,h=>hq a h
 | .ask _ _ k,⟨h1,h2,h3⟩=>⟨h1,h2,KW.mono hq (t:=k _) h3⟩
theorem KW.wp {α:Type}{cmp:Nat->Nat->(Bool->Shared->Prop)->Shared->Prop}{s:Shared}{Q:α->Prop}(hc:∀ i j C,i<n->j<n->C (lt i j) s->cmp i j C s):∀ {t:KasT α},KW lt n Q t->t.kasWp cmp (fun a s'=>s'=s/\Q a) s
 | .ret a,h=>⟨rfl,h⟩
 | .ask i j k,⟨h1,h2,h3⟩=>hc i j _ h1 h2 (KW.wp hc (t:=k _) h3)
def Pm (n:Nat) (p:Array Nat):Prop:=p.toList.Perm (List.range n)
theorem Pm.low {p:Array Nat}(h:Pm n p) (hn:0<n) (i:Nat):p.getD i 0<n:=by
 unfold Array.getD
 split
 ·rename_i hi
  exact zcu0.mp (h.mem_iff.mp (Array.getElem_mem_toList hi))
 ·exact hn
theorem Pm.rev {p:Array Nat}(h:Pm n p) (i j:Nat):Pm n (kas_rev p i j):=(Array.perm_iff_toList_perm.mp (mirror_perm p i j _)).trans h
theorem Pm.bub {p:Array Nat}(h:Pm n p) (i j:Nat):Pm n (bubble p i j):=(Array.perm_iff_toList_perm.mp (bubble_perm p i j)).trans h
end
section
variable {prog:Program}{w:World}{A:Around}{E:Value->Shared->Prop}{s:Shared}
def midH (h:Heap) (a:Addr) (vs:List Value):Heap:=((h.update a (Obj.mapSeq fun _=>#[])).push (seqObj "tuple" vs.toArray 0)).push (seqObj "list" #[] 0)
theorem zbj5 {h:Heap}{a b:Addr}{vs:List Value}{o:Obj}(ne:b≠a) (e:h.get? b=some o):(midH h a vs).get? b=some o:=
 zcp8 _ (zcp8 _ ((Heap.get?_update_ne _ _ _ _ ne).trans e))
theorem zai4 {h:Heap}{a b:Addr}{vs:List Value}{out:Array Value}{o:Obj}(ne:b≠a) (e:h.get? b=some o):(sortedHeap h a vs out).get? b=some o:=
 (Heap.get?_update_ne _ _ _ _ ne).trans (zbj5 ne e)
theorem zbq4 {h:Heap}{a:Addr}{vs xs:List Value}{n:Nat}(e:h.get? a=some (seqObj "list" xs.toArray n)):∃ c,(midH h a vs).get? a=some (seqObj "list" #[] c)/\(h.update a (Obj.mapSeq fun _=>#[])).get? a=some (seqObj "list" #[] c):=
 ⟨_,zcp8 _ (zcp8 _ (get?_update_seq e fun _=>#[])),get?_update_seq e fun _=>#[]⟩
theorem zaq4 {h:Heap}{a:Addr}{vs xs:List Value}{n:Nat}{out:Array Value}(e:h.get? a=some (seqObj "list" xs.toArray n)):∃ c,(sortedHeap h a vs out).get? a=some (seqObj "list" out c):=by
 obtain⟨c,h1,_⟩:=zbq4 (vs:=vs) e
 exact⟨_,get?_update_seq h1 fun _=>out⟩
theorem zca9 {a:Addr}{vs:List Value}{n:Nat}{κ:SortKind}{lt:Nat->Nat->Bool}{R:Array Nat->Prop}{P:PySem.Fin->Shared->Prop}(ho:s.heap.get? a=some (seqObj "list" vs.toArray n)) (h2:2<=vs.length) (h64:vs.length<64)
  (hk:∀ Q:SortKind->Shared->Prop,Q κ { s with heap:=midH s.heap a vs }->wpAny (model prog w) A (keyKind' vs.toArray) Q E { s with heap:=midH s.heap a vs })
  (hc:∀ i j (C:Bool->Shared->Prop),i<vs.length->j<vs.length->C (lt i j) { s with heap:=midH s.heap a vs }->wpAny (model prog w) A (keyLt' κ (vs.getD i Value.none) (vs.getD j Value.none)) C (fun _ _=>False) { s with heap:=midH s.heap a vs })
  (kw:KW lt vs.length R (kas_sort vs.length))
  (h:∀ p:Array Nat,p.size=vs.length->R p->P (.done (.ret .none)) { s with heap:=sortedHeap s.heap a vs (List.toArray (p.toList.map fun i=>vs.getD i Value.none)) }) :
  wpAny (model prog w) A (Builtin.«list.sort» ⟨[.ref a],[]⟩) P E s:=by
 obtain⟨c,m1,m2⟩:=zbq4 (vs:=vs) ho
 have zs:¬ vs.toArray.size<2:=by rw[zcq2];omega
 have zl:vs.length<=sizeLine:=by rw[sizeLine_eq];omega
 rw[list_sort_plain]
 refine wpAny_bind (listItems_at ho rfl (wpAny_bind (listUpdate_at ho rfl ?_ (by rw[zcq2];exact zl) (zct3 _))))
 refine wpAny_bind (seqEpoch_at m2 rfl (wpAny_bind (wpAny_newTuple ?_ zl)))
 refine wpAny_bind (wpAny_newList ?_ (zct3 _))
 refine wpAny_holding (?_:_)
 show wpAny (model prog w) A _ P E { s with heap:=midH s.heap a vs }
 dsimp only
 rw[if_neg zs,if_neg zs]
 refine wpAny_bind (hk _ ?_)
 have run:=kat_run (prog:=prog) (w:=w) (A:=A) (E:=E) (κ:=κ) (ks:=vs) (vs:=vs) (s:={ s with heap:=midH s.heap a vs }) (Q:=fun st' s'=>s'={ s with heap:=midH s.heap a vs }/\∃ p:Array Nat,p.size=vs.length/\R p/\arrOf st'=p.map (kas_item (vs.toArray.zip vs.toArray))/\failedOf st'=none)
  rfl h2 h64 (fun p st' s' b1 b2 b3 b4=>⟨b4.1,p,b1,b4.2,b2,b3⟩) (KW.wp (cmp:=kas_ask prog w A κ vs) (fun i j C li lj hC=>hc i j C li lj hC) kw)
 refine wpAny_bind (wpAny_mono run ?_ fun _ _ e=>e)
 rintro⟨⟨⟩,st'⟩ s' ⟨rfl,p,pz,pR,har,hf⟩
 have out:=kat_snds rfl har
 dsimp only
 rw[out]
 refine wpAny_bind (seqEpoch_at m1 rfl (wpAny_bind (listUpdate_at m1 rfl ?_ (zct3 _) ?_)))
 ·rw[hf]
  simp only[bne_self_eq_false,zcv5,if_false]
  exact wpAny_pure (h p pz pR)
 ·rw[zcq2,zcp2,Array.length_toList,pz]
  omega
theorem zbv6 {a:Addr}{vs:List Value}{n:Nat}{P:PySem.Fin->Shared->Prop}(ho:s.heap.get? a=some (seqObj "list" vs.toArray n)) (h2:vs.length<2)
  (h:P (.done (.ret .none)) { s with heap:=sortedHeap s.heap a vs vs.toArray }):wpAny (model prog w) A (Builtin.«list.sort» ⟨[.ref a],[]⟩) P E s:=by
 obtain⟨c,m1,m2⟩:=zbq4 (vs:=vs) ho
 have zs:vs.toArray.size<2:=by rw[zcq2];omega
 have zl:vs.length<=sizeLine:=by rw[sizeLine_eq];omega
 rw[list_sort_plain]
 refine wpAny_bind (listItems_at ho rfl (wpAny_bind (listUpdate_at ho rfl ?_ (by rw[zcq2];exact zl) (zct3 _))))
 refine wpAny_bind (seqEpoch_at m2 rfl (wpAny_bind (wpAny_newTuple ?_ zl)))
 refine wpAny_bind (wpAny_newList ?_ (zct3 _))
 refine wpAny_holding (?_:_)
 show wpAny (model prog w) A _ P E { s with heap:=midH s.heap a vs }
 dsimp only
 rw[if_pos zs,if_pos zs]
 refine wpAny_bind (wpAny_pure (?_:_))
 rw[StateT.run_pure]
 refine wpAny_bind (wpAny_pure (?_:_))
 dsimp only
 have e:(vs.toArray.zip vs.toArray).map (·.2)=vs.toArray:=by
  apply Array.toList_inj.mp
  simp[List.map_snd_zip]
 show wpAny (model prog w) A (seqEpoch a >>= _) P E _
 refine wpAny_bind (seqEpoch_at m1 rfl (wpAny_bind (listUpdate_at m1 rfl ?_ (zct3 _) ?_)))
 ·simp only[bne_self_eq_false,zcv5,if_false]
  show wpAny (model prog w) A (ret Value.none) P E { s with heap:=sortedHeap s.heap a vs ((vs.toArray.zip vs.toArray).map (·.2)) }
  rw[e]
  exact wpAny_pure h
 ·show ((vs.toArray.zip vs.toArray).map (·.2)).size<=_
  rw[e,zcq2];omega
end
end L2
set_option maxHeartbeats 2000000
namespace L2
open PySem PySem.Spec PyProof.Rows PySem.W
def ltP (x y:Int×Int):Bool:=if (x.1==y.1)=true then (if (x.2==y.2)=true then false else decide (x.2<y.2)) else decide (x.1<y.1)
def TupI (h:Heap) (v:Value) (x:Int×Int):Prop:=∃ a o t u n,v=.ref a/\h.get? a=some o/\o.cls=.type "tuple"/\o.data=.seq #[.int x.1 t,.int x.2 u] n
theorem TupI.to {h h':Heap}{v:Value}{x:Int×Int}(z:TupI h v x) (k:∀ b o,h.get? b=some o->h'.get? b=some o):TupI h' v x:=
 let ⟨a,o,t,u,n,e,e1,r⟩:=z;⟨a,o,t,u,n,e,k _ _ e1,r⟩
section
variable {prog:Program}{w:World}{A:Around}{E:Value->Shared->Prop}{s:Shared}
theorem zcg9 {v v':Value}{x y:Int×Int}{C:Bool->Shared->Prop}(hv:TupI s.heap v x) (hv':TupI s.heap v' y) (h:C (ltP x y) s):wpAny (model prog w) A (keyLt' (tuples' true) v v') C E s:=by
 obtain⟨a,o,t,u,n,rfl,a1,a2,a3⟩:=hv
 obtain⟨b,o',t',u',n',rfl,b1,b2,b3⟩:=hv'
 refine kat_lt a1 a3 b1 b3 ?_
 show KatLex prog w A true false C [(.int x.1 t,.int y.1 t'),(.int x.2 u,.int y.2 u')] 0 s
 unfold ltP at h
 refine kat_cons (wpAny_eqBool_int (kat_go (fun e=>?_) fun e=>?_))
 ·rw[if_pos e] at h
  refine kat_yes (kat_cons (wpAny_eqBool_int (kat_go (fun e2=>?_) fun e2=>?_)))
  ·rw[if_pos e2] at h
   exact kat_yes (kat_nil h)
  ·rw[if_neg (by rw[e2];exact zcq0)] at h
   exact kat_no (kat_one _ _ (wpAny_lt_int h))
 ·rw[if_neg (by rw[e];exact zcq0)] at h
  exact kat_no (oneLt_int h)
theorem zbm1 {h:Heap}:∀ {vs:List Value},(∀ v∈vs,∃ x,TupI h v x)->∃ fs,KatTups h vs fs/\fs.length=vs.length/\∀ f∈fs,∃ n t,f=Value.int n t
 | [],_=>⟨[],.nil,rfl,fun _ z=>nomatch z⟩
 | v :: vs,H=>by
  obtain⟨fs,a1,a2,a3⟩:=zbm1 (vs:=vs) fun u hu=>H u (.tail _ hu)
  obtain⟨x,a,o,t,u,n,rfl,b1,b2,b3⟩:=H v (.head _)
  refine⟨.int x.1 t :: fs,KatTups.cons b1 b2 b3 rfl a1,congrArg (·+1) a2,fun f hf=>?_⟩
  rcases zcq6.mp hf with rfl|hf
  ·exact⟨_,_,rfl⟩
  ·exact a3 f hf
theorem zbm8 {vs:List Value}{Q:SortKind->Shared->Prop}(H:∀ v∈vs,∃ x,TupI s.heap v x) (h2:2<=vs.length) (h:Q (tuples' true) s):wpAny (model prog w) A (keyKind' vs.toArray) Q E s:=by
 obtain⟨fs,a1,a2,a3⟩:=zbm1 H
 refine kat_kind (T:=.type "int") a1 (by omega) (fun v hv=>?_) rfl h
 obtain⟨n,t,rfl⟩:=a3 v hv
 exact Looks.of_pure rfl
end
end L2
set_option maxHeartbeats 2000000
namespace L2
open PySem PySem.Spec PyProof.Rows PySem.W
section
variable {X:Cx}{K:zcp3}
@[irreducible] def rDG (a:Addr) (y:V) (H:Hp) (Q:VK):Prop:=∃ v,DGet H a y (some v)/\Q v H
def rDGV (x y:V) (H:Hp) (Q:VK):Prop:=match x with
 | .ref a=>rDG a y H Q
 | _=>False
def tDG (td ty:TE):TE:=fun σ H Q=>td σ H fun x H1=>ty σ H1 fun y H2=>rDGV x y H2 Q
theorem tDG_eq (td ty:TE):tDG td ty=tDGet td ty:=by
 funext σ H Q
 unfold tDG tDGet
 congr 1;funext x H1;congr 1;funext y H2
 unfold rDGV
 apply propext
 cases x<;>first
  | (simp only[V.ref.injEq];unfold rDG;exact⟨fun ⟨v,g,q⟩=>⟨_,v,rfl,g,q⟩,fun ⟨a,v,e,g,q⟩=>⟨v,e▸g,q⟩⟩)
  | exact⟨fun z=>z.elim,fun ⟨a,v,e,_⟩=>nomatch e⟩
theorem peDGet {o i:Expr}{td ty:TE}{pos:Pos}(hu:X.A.units+40<cLine) (ho:PE X o td) (hi:PE X i ty) (hs:NoSl i:=by exact fun _ _=>rfl):PE X (.Subscript o i pos) (tDG td ty):=tDG_eq td ty▸zcf5 (by omega) ho hi hs
theorem dgT_rd {a b:Addr}{H:Hp}{Q:VK}{kvs:List (List Key×V)}{k:List Key}{v:V}(e:H a=some (.dT kvs)) (eb:H b=some (.tup (k.map kV))) (ev:valV kvs k=some v) (q:Q v H):rDG a (.ref b) H Q:=by
 unfold rDG
 exact⟨v,ev▸DGet.t e eb,q⟩
@[irreducible] def rIsD (a:Addr) (H:Hp) (P:Prop):Prop:=IsD H a/\P
@[irreducible] def rDG2 (a:Addr) (y z:V) (H:Hp) (Q:VK):Prop:=∃ o,DGet H a y o/\Q (o.getD z) H
def rDG2V (x:V) (H:Hp) (P:Addr->Prop):Prop:=match x with
 | .ref a=>rIsD a H (P a)
 | _=>False
def tDG2 (td ty tx:TE):TE:=fun σ H Q=>td σ H fun x H1=>rDG2V x H1 fun a=>ty σ H1 fun y H2=>tx σ H2 fun z H3=>rDG2 a y z H3 Q
theorem zch0 (td ty tx:TE):tDG2 td ty tx=zbi5 td ty tx:=by
 funext σ H Q
 unfold tDG2 zbi5
 congr 1;funext x H1
 unfold rDG2V rIsD rDG2
 apply propext
 cases x<;>first
  | (simp only[V.ref.injEq];exact⟨fun z=>⟨_,rfl,z⟩,fun ⟨a,e,z⟩=>e▸z⟩)
  | exact⟨fun z=>z.elim,fun ⟨a,e,_⟩=>nomatch e⟩
theorem zbc9 {o e f:Expr}{td ty tx:TE}{apos cpos:Pos}(hu:X.A.units+40<cLine) (ho:PE X o td) (he:PE X e ty) (hf:PE X f tx)
  (m1:attributeBase o "get" X.env (eval o X.env)=eval o X.env:=by rfl)
  (m2:((backTo cpos (starEach [e,f] X.env)).all (fun x=>!x.1)&&(backToKw cpos (keywordEach [] X.env)).all (fun x=>x.1.isSome)&&decide (([e,f]:List Expr).length+([]:List Keyword).length+(if ([]:List Keyword).isEmpty then 0 else 1)<30))=true:=by rfl)
  (m3:(apos.endLine==cpos.line)=true:=by rfl) (m4:backTo cpos (starEach [e,f] X.env)=[(false,eval e X.env),(false,eval f X.env)]:=by rfl):PE X (.Call (.Attribute o "get" apos) [e,f] [] cpos) (tDG2 td ty tx):=
 zch0 td ty tx▸zbw7 (by omega) ho he hf ⟨m1,m2,m3,m4⟩
theorem zbq9 {a:Addr}{H:Hp}{P:Prop}{kvs:List (List Key×V)}(e:H a=some (.dT kvs)) (p:P):rIsD a H P:=by unfold rIsD;exact⟨.inr ⟨kvs,.inl e⟩,p⟩
theorem zbq7 {a b:Addr}{z:V}{H:Hp}{Q:VK}{kvs:List (List Key×V)}{k:List Key}(e:H a=some (.dT kvs)) (eb:H b=some (.tup (k.map kV))) (q:Q ((valV kvs k).getD z) H):rDG2 a (.ref b) z H Q:=by
 unfold rDG2
 exact⟨_,DGet.t e eb,q⟩
@[irreducible] def rDP (a:Addr) (y v:V) (H:Hp) (N:Hp->Prop):Prop:=∃ H',DPut H a y v H'/\N H'
def rDPV (x y v:V) (H:Hp) (N:Hp->Prop):Prop:=match x with
 | .ref a=>rDP a y v H N
 | _=>False
def sDP (td ty tv:TE):TS:=fun D σ H=>tv σ H fun v H1=>td σ H1 fun x H2=>ty σ H2 fun y H3=>rDPV x y v H3 (D.nx σ)
theorem sDP_eq (td ty tv:TE):sDP td ty tv=sDPut td ty tv:=by
 funext D σ H
 unfold sDP sDPut
 congr 1;funext v H1;congr 1;funext x H2;congr 1;funext y H3
 unfold rDPV
 apply propext
 cases x<;>first
  | (simp only[V.ref.injEq];unfold rDP;exact⟨fun ⟨H',g,q⟩=>⟨_,H',rfl,g,q⟩,fun ⟨a,H',e,g,q⟩=>⟨H',e▸g,q⟩⟩)
  | exact⟨fun z=>z.elim,fun ⟨a,v,e,_⟩=>nomatch e⟩
theorem zby4 {o i value:Expr}{td ty tv:TE}{pos pos':Pos}(hu:X.A.units+40<cLine) (ho:PE X o td) (hi:PE X i ty) (hv:PE X value tv) (hs:swapsWith value (some (.Subscript o i pos')) pos.line X.env=pure false:=by rfl) :
  PS X (.Assign [.Subscript o i pos'] value pos) (sDP td ty tv):=sDP_eq td ty tv▸zcb3 (by omega) ho hi hv hs
theorem zbz5 {a b:Addr}{v:V}{H:Hp}{N:Hp->Prop}{kvs:List (List Key×V)}{k:List Key}(e:H a=some (.dT kvs)) (eb:H b=some (.tup (k.map kV))) (hl:kvs.length<sizeLine) (q:∀ H',Chg a H H'->H' a=some (.dT (putK kvs k v))->N H'):rDP a (.ref b) v H N:=by
 unfold rDP
 exact⟨_,DPut.t e eb hl,q _ Chg.upd zc2⟩
def pK (x:Int×Int):List Key:=[.inl x.1,.inl x.2]
theorem zar0 {α β:Type}{R:α->β->Prop}:∀ {as:List α}{bs:List β},Paired R as bs->∀ (i:Nat) (a:α) (b:β),as[i]?=some a->bs[i]?=some b->R a b:=by
 intro as bs h
 induction h with
 | nil=>intro i a b e;simp at e
 | cons h1 _ ih=>
  intro i a b e1 e2
  cases i with
  | zero=>simp at e1 e2;subst e1;subst e2;exact h1
  | succ j=>simp at e1 e2;exact ih j a b e1 e2
theorem zas1 {α β:Type}{R:α->β->Prop}:∀ {as:List α}{bs:List β},as.length=bs.length->(∀ (i:Nat) (a:α) (b:β),as[i]?=some a->bs[i]?=some b->R a b)->Paired R as bs
 | [],[],_,_=>.nil
 | a :: as,b :: bs,hl,h=>.cons (h 0 a b rfl rfl) (zas1 (Nat.succ.inj hl) fun i x y e1 e2=>h (i+1) x y (by simpa using e1) (by simpa using e2))
end
end L2
set_option maxHeartbeats 2000000
namespace L2
open PySem PySem.Spec PyProof.Rows PySem.W
structure Ord (lt:Nat->Nat->Bool):Prop where
 as:∀ i j,lt i j=true->lt j i=false
 tr:∀ i j k,lt j i=false->lt k j=false->lt k i=false
section
variable {lt:Nat->Nat->Bool}{n:Nat}
def gp (p:Array Nat) (i:Nat):Nat:=p.getD i 0
theorem zbn8 {p q:Array Nat}{i j:Nat}(h:p[i]?=q[j]?):gp p i=gp q j:=by
 unfold gp
 rw[Array.getD_eq_getD_getElem?,Array.getD_eq_getD_getElem?,h]
theorem zu9 {p:Array Nat}{i j:Nat}(hj:j<=p.size) (k:Nat):gp (kas_rev p i j) k=if i<=k/\k<j then gp p (i+j - 1 - k) else gp p k:=by
 have h:=getElem?_mirror_all (xs:=p) (i:=i) hj k
 split
 ·rename_i c;rw[if_pos c] at h;exact zbn8 h
 ·rename_i c;rw[if_neg c] at h;exact zbn8 h
theorem zbz2 {p:Array Nat}{k l:Nat}(hk:k<p.size) (hl:l<=k) (i:Nat):gp (bubble p k (k - l)) i=if i=l then gp p k else if l<i/\i<=k then gp p (i - 1) else gp p i:=by
 have h:=getElem?_bubble hk (k - l) (by omega) i
 rw[show k - (k - l)=l by omega] at h
 split
 ·rename_i c;rw[if_pos c] at h;exact zbn8 h
 ·rename_i c
  rw[if_neg c] at h
  split
  ·rename_i c2;rw[if_pos c2] at h;exact zbn8 h
  ·rename_i c2;rw[if_neg c2] at h;exact zbn8 h
def Up (lt:Nat->Nat->Bool) (p:Array Nat) (k:Nat):Prop:=∀ i j,i<=j->j<k->lt (gp p j) (gp p i)=false
def Dn (lt:Nat->Nat->Bool) (p:Array Nat) (k:Nat):Prop:=∀ i j,i<=j->j<k->lt (gp p i) (gp p j)=false
theorem Ord.rf (O:Ord lt) (i:Nat):lt i i=false:=by
 cases h:lt i i with
 | false=>rfl
 | true=>exact absurd (O.as _ _ h) (by rw[h];exact fun w=>nomatch w)
theorem Up.snoc (O:Ord lt) {p:Array Nat}{k:Nat}(u:Up lt p k) (hk:1<=k) (h:lt (gp p k) (gp p (k - 1))=false):Up lt p (k+1):=fun i j hij hj=>by
 by_cases e:j=k
 ·subst e
  by_cases e2:i=j
  ·subst e2;exact O.rf _
  ·exact O.tr _ _ _ (u i (j - 1) (by omega) (by omega)) h
 ·exact u i j hij (by omega)
theorem Dn.snoc (O:Ord lt) {p:Array Nat}{k:Nat}(u:Dn lt p k) (hk:1<=k) (h:lt (gp p (k - 1)) (gp p k)=false):Dn lt p (k+1):=fun i j hij hj=>by
 by_cases e:j=k
 ·subst e
  by_cases e2:i=j
  ·subst e2;exact O.rf _
  ·exact O.tr _ _ _ h (u i (j - 1) (by omega) (by omega))
 ·exact u i j hij (by omega)
theorem Pm.size {p:Array Nat}(h:Pm n p):p.size=n:=by have:=h.length_eq;rw[Array.length_toList,zcr3] at this;exact this
theorem zbi3 (O:Ord lt) (hn:0<n) {p:Array Nat}(h:Pm n p):∀ f m,1<=m->Up lt p m->KW lt n (fun r=>m<=r/\r<=m+f/\Up lt p r/\(r<m+f->lt (gp p r) (gp p (r - 1))=true)) (kas_asc p f m)
 | 0,m,_,u=>⟨zcq9 _,zcq9 _,u,fun z=>absurd z (zcv8 _)⟩
 | f+1,m,hm,u=>by
  refine⟨h.low hn _,h.low hn _,?_⟩
  dsimp only
  cases e:lt (p.getD m 0) (p.getD (m - 1) 0) with
  | true=>rw[if_pos rfl];exact⟨zcq9 _,zcw8 _ _,u,fun _=>e⟩
  | false=>
   rw[if_neg (by decide)]
   exact KW.mono (fun r hr=>⟨by omega,by omega,hr.2.2.1,fun z=>hr.2.2.2 (by omega)⟩) (zbi3 O hn h f (m+1) (by omega) (u.snoc O hm e))
def Al (lt:Nat->Nat->Bool) (p:Array Nat) (m q:Nat):Prop:=∀ i j,m - (q+1)<=i->i<=j->j<m->lt (gp p j) (gp p i)=false
theorem Dn.al_rev (O:Ord lt) {p:Array Nat}{m q:Nat}(hm:m<=p.size) (hq:q+1<=m) (d:Dn lt p m) (al:Al lt p m q):Dn lt (kas_rev p (m - (q+1)) m) m:=fun i j hij hj=>by
 rw[zu9 hm,zu9 hm]
 by_cases ci:m - (q+1)<=i/\i<m
 ·rw[if_pos ci,if_pos ⟨by omega,hj⟩]
  exact al _ _ (by omega) (by omega) (by omega)
 ·rw[if_neg ci]
  split
  ·exact d i _ (by omega) (by omega)
  ·exact d i j hij hj
theorem zam4 (O:Ord lt) (hn:0<n):∀ f (p:Array Nat) m q,Pm n p->m+f<=n->q+1<=m->Dn lt p m->Al lt p m q->KW lt n (fun r=>Pm n r.1/\m<=r.2.1/\r.2.1<=m+f/\r.2.2+1<=r.2.1/\Dn lt r.1 r.2.1/\Al lt r.1 r.2.1 r.2.2) (kas_desc f p m q)
 | 0,p,m,q,h,hf,hq,d,al=>⟨h,zcq9 _,zcq9 _,hq,d,al⟩
 | f+1,p,m,q,h,hf,hq,d,al=>by
  have hz:=h.size
  refine⟨h.low hn _,h.low hn _,?_⟩
  dsimp only
  cases e:lt (p.getD m 0) (p.getD (m - 1) 0) with
  | true=>
   rw[if_pos rfl]
   have al0:∀ p':Array Nat,Al lt p' (m+1) 0:=fun p' i j h1 h2 h3=>by
    have:i=j:=by omega
    subst this;exact O.rf _
   split
   ·rename_i q0
    refine KW.mono (fun r hr=>⟨hr.1,by omega,by omega,hr.2.2.2⟩) (zam4 O hn f _ (m+1) 0 (h.rev _ _) (by omega) (by omega) ?_ (al0 _))
    refine (d.al_rev O (by omega) hq al).snoc O (by omega) ?_
    rw[zu9 (by omega),zu9 (by omega),if_pos (by omega),if_neg (by omega),show m - (q+1)+m - 1 - (m - 1)=m - (q+1) by omega]
    exact O.tr _ _ _ (O.as _ _ e) (d _ _ (by omega) (by omega))
   ·exact KW.mono (fun r hr=>⟨hr.1,by omega,by omega,hr.2.2.2⟩) (zam4 O hn f p (m+1) 0 h (by omega) (by omega) (d.snoc O (by omega) (O.as _ _ e)) (al0 _))
  | false=>
   rw[if_neg (by decide)]
   refine⟨h.low hn _,h.low hn _,?_⟩
   dsimp only
   cases e2:lt (p.getD (m - 1) 0) (p.getD m 0) with
   | true=>rw[if_pos rfl];exact⟨h,zcq9 _,zcw8 _ _,hq,d,al⟩
   | false=>
    rw[if_neg (by decide)]
    refine KW.mono (fun r hr=>⟨hr.1,by omega,by omega,hr.2.2.2⟩) (zam4 O hn f p (m+1) (q+1) h (by omega) (by omega) (d.snoc O (by omega) e2) ?_)
    intro i j h1 h2 h3
    by_cases ej:j=m
    ·subst ej
     by_cases ei:i=j
     ·subst ei;exact O.rf _
     ·exact O.tr _ _ _ (al i (j - 1) (by omega) (by omega) (by omega)) e
    ·exact al i j (by omega) h2 (by omega)
theorem Dn.rev {p:Array Nat}{m:Nat}(hm:m<=p.size) (d:Dn lt p m):Up lt (kas_rev p 0 m) m:=fun i j hij hj=>by
 rw[zu9 hm,zu9 hm,if_pos (by omega),if_pos (by omega)]
 exact d _ _ (by omega) (by omega)
theorem zbo3 (O:Ord lt) (hn:0<n) {m:Nat}{p:Array Nat}(h:Pm n p) (hm:m<=n) (m1:1<=m) (d:Dn lt p m):KW lt n (fun x=>Pm n x.2/\1<=x.1/\x.1<=n/\Up lt x.2 x.1) (kas_tail3 m n p):=
 KW.bd (KW.mono (fun r hr=>⟨h.rev 0 m,by omega,by omega,hr.2.2.1⟩) (zbi3 O hn (h.rev 0 m) (n - m) m m1 (d.rev (by rw[h.size];exact hm))))
theorem zbk9 (O:Ord lt) (hn:0<n) {m:Nat}{p:Array Nat}(h:Pm n p) (hm:m+1<=n) (d:Dn lt p (m+1)):KW lt n (fun x=>Pm n x.2/\1<=x.1/\x.1<=n/\Up lt x.2 x.1) (kas_descPart m n p):=by
 refine KW.bd (KW.mono (fun r hr=>?_) (zam4 O hn (n - (m+1)) p (m+1) 0 h (by omega) (by omega) d fun i j h1 h2 h3=>?_))
 ·obtain⟨r1,r2,r3,r4,r5,r6⟩:=hr
  split
  ·exact zbo3 O hn (r1.rev _ _) (by omega) (by omega) (r5.al_rev O (by rw[Pm.size r1];omega) r4 r6)
  ·exact zbo3 O hn r1 (by omega) (by omega) r5
 ·have:i=j:=by omega
  subst this;exact O.rf _
theorem zbu8 (O:Ord lt) (hn:0<n) {p:Array Nat}(h:Pm n p):KW lt n (fun x=>Pm n x.2/\1<=x.1/\x.1<=n/\Up lt x.2 x.1) (kas_count n p):=by
 have u1:Up lt p 1:=fun i j h1 h2=>by
  have:i=j:=by omega
  subst this;exact O.rf _
 refine KW.bd (KW.mono (fun r hr=>?_) (zbi3 O hn h (n - 1) 1 (zcq9 _) u1))
 obtain⟨r1,r2,r3,r4⟩:=hr
 by_cases c:(r==n)=true
 ·rw[if_pos c]
  exact⟨h,r1,by omega,r3⟩
 ·rw[if_neg c]
  have rn:r<n:=by
   have:r≠n:=fun z=>c (by rw[z];exact beq_self_eq_true n)
   omega
  by_cases c2:r>1
  ·rw[if_pos c2]
   refine⟨h.low hn _,h.low hn _,?_⟩
   dsimp only
   cases e:lt (p.getD 0 0) (p.getD (r - 1) 0) with
   | true=>rw[if_pos rfl];exact⟨h,r1,by omega,r3⟩
   | false=>
    rw[if_neg (by decide)]
    have hz:r<=p.size:=by rw[Pm.size h];omega
    have st:=r4 (by omega)
    refine zbk9 O hn (h.rev 0 r) (by omega) (Dn.snoc O (fun i j hij hj=>?_) (by omega) ?_)
    ·rw[zu9 hz,zu9 hz,if_pos (by omega),if_pos (by omega)]
     exact r3 _ _ (by omega) (by omega)
    ·rw[zu9 hz,zu9 hz,if_pos (by omega),if_neg (by omega),show 0+r - 1 - (r - 1)=0 by omega]
     exact O.tr _ _ _ (O.as _ _ st) e
  ·rw[if_neg c2]
   have r0:r=1:=by omega
   subst r0
   have st:=r4 (by omega)
   exact zbk9 O hn h (by omega) (Dn.snoc O (fun i j hij hj=>by
    have:i=j:=by omega
    subst this;exact O.rf _) (zcq9 _) (O.as _ _ st))
theorem zak9 (O:Ord lt) (hn:0<n) {p:Array Nat}(h:Pm n p) (k:Nat) (u:Up lt p k):∀ f l r,l<=r->r<=k->r<=l+f->(∀ i,i<l->lt (gp p k) (gp p i)=false)->(∀ i,r<=i->i<k->lt (gp p k) (gp p i)=true) ->
  KW lt n (fun x=>x<=k/\(∀ i,i<x->lt (gp p k) (gp p i)=false)/\∀ i,x<=i->i<k->lt (gp p k) (gp p i)=true) (kas_place p k f l r)
 | 0,l,r,h1,h2,h3,a,b=>by
  have:r=l:=by omega
  subst this
  exact⟨h2,a,b⟩
 | f+1,l,r,h1,h2,h3,a,b=>by
  unfold kas_place
  by_cases c:l≥r
  ·rw[if_pos c]
   have:r=l:=by omega
   subst this
   exact⟨h2,a,b⟩
  ·rw[if_neg c]
   refine⟨h.low hn _,h.low hn _,?_⟩
   dsimp only
   cases e:lt (p.getD k 0) (p.getD ((l+r) / 2) 0) with
   | true=>
    rw[if_pos rfl]
    refine zak9 O hn h k u f l ((l+r) / 2) (by omega) (by omega) (by omega) a fun i hi hk=>?_
    cases e2:lt (gp p k) (gp p i) with
    | true=>rfl
    | false=>
     have:=O.tr _ _ _ (u ((l+r) / 2) i hi hk) (show lt (gp p k) (gp p i)=false from e2)
     rw[show lt (gp p k) (gp p ((l+r) / 2))=true from e] at this
     cases this
   | false=>
    rw[if_neg (by decide)]
    refine zak9 O hn h k u f ((l+r) / 2+1) r (by omega) h2 (by omega) (fun i hi=>?_) b
    exact O.tr _ _ _ (u i ((l+r) / 2) (by omega) (by omega)) e
theorem up_bub (O:Ord lt) {p:Array Nat}{k l:Nat}(hk:k<p.size) (u:Up lt p k) (hl:l<=k) (a:∀ i,i<l->lt (gp p k) (gp p i)=false) (b:∀ i,l<=i->i<k->lt (gp p k) (gp p i)=true):Up lt (bubble p k (k - l)) (k+1):=fun i j hij hj=>by
 rw[zbz2 hk hl,zbz2 hk hl]
 by_cases ci:i=l
 ·rw[if_pos ci]
  by_cases cj:j=l
  ·rw[if_pos cj];exact O.rf _
  ·rw[if_neg cj,if_pos (by omega)]
   exact O.as _ _ (b (j - 1) (by omega) (by omega))
 ·rw[if_neg ci]
  by_cases cj:j=l
  ·rw[if_pos cj,if_neg (by omega)]
   exact a i (by omega)
  ·rw[if_neg cj]
   by_cases di:l<i/\i<=k
   ·rw[if_pos di,if_pos (by omega)]
    exact u _ _ (by omega) (by omega)
   ·rw[if_neg di]
    by_cases dj:l<j/\j<=k
    ·rw[if_pos dj]
     exact u _ _ (by omega) (by omega)
    ·rw[if_neg dj]
     exact u _ _ hij (by omega)
theorem zby0 (O:Ord lt) (hn:0<n):∀ f (p:Array Nat) k,Pm n p->k+f=n->Up lt p k->KW lt n (fun p'=>Pm n p'/\Up lt p' n) (kas_bin f p k)
 | 0,p,k,h,e,u=>by
  have:k=n:=by omega
  subst this
  exact⟨h,u⟩
 | f+1,p,k,h,e,u=>by
  refine KW.bd (KW.mono (fun l hl=>?_) (zak9 O hn h k u k 0 k (zct3 _) (zcq9 _) (by omega) (fun i hi=>absurd hi (Nat.not_lt_zero _)) fun i h1 h2=>absurd h2 (by omega)))
  exact zby0 O hn f _ (k+1) (h.bub _ _) (by omega) (up_bub O (by rw[Pm.size h];omega) u hl.1 hl.2.1 hl.2.2)
theorem zcf7 (O:Ord lt) (hn:0<n):KW lt n (fun p=>Pm n p/\Up lt p n) (kas_sort n):=by
 have h0:Pm n (List.toArray (List.range n)):=List.Perm.refl _
 refine KW.bd (KW.mono (fun r hr=>?_) (zbu8 O hn h0))
 obtain⟨r1,r2,r3,r4⟩:=hr
 by_cases c:r.1<n
 ·rw[if_pos c,show max r.1 1=r.1 by omega]
  exact zby0 O hn _ _ _ r1 (by omega) r4
 ·rw[if_neg c]
  have e:r.1=n:=by omega
  exact⟨r1,e▸r4⟩
end
end L2
set_option maxHeartbeats 2000000
namespace L2
open PySem PySem.Spec PyProof.Rows PySem.W
theorem zak3 {x y:Int×Int}:ltP x y=true↔x.1<y.1∨(x.1=y.1/\x.2<y.2):=by
 unfold ltP
 by_cases e:x.1=y.1
 ·rw[if_pos (beq_iff_eq.mpr e)]
  by_cases e2:x.2=y.2
  ·rw[if_pos (beq_iff_eq.mpr e2)]
   exact⟨(fun h=>by cases h),fun h=>by omega⟩
  ·rw[if_neg (fun h=>e2 (beq_iff_eq.mp h)),decide_eq_true_iff]
   exact⟨fun h=>.inr ⟨e,h⟩,fun h=>by omega⟩
 ·rw[if_neg (fun h=>e (beq_iff_eq.mp h)),decide_eq_true_iff]
  exact⟨fun h=>.inl h,fun h=>by omega⟩
theorem zae3 {x y:Int×Int}:ltP x y=false↔¬ (x.1<y.1∨(x.1=y.1/\x.2<y.2)):=by
 rw[← zak3]
 cases ltP x y<;>simp
theorem ord_P (xs:Nat->Int×Int):Ord (fun i j=>ltP (xs i) (xs j)) where
 as:=fun i j h=>by
  have h:=zak3.mp h
  exact zae3.mpr (by omega)
 tr:=fun i j k h1 h2=>by
  have h1:=zae3.mp h1
  have h2:=zae3.mp h2
  exact zae3.mpr (by omega)
section
variable {prog:Program}{w:World}{A:Around}{E:Value->Shared->Prop}{s:Shared}
theorem zbp8 {D:Addr}{vs:List Value}{xs:Nat->Int×Int}{P:PySem.Fin->Shared->Prop}(ho:s.heap.get? D=some (seqObj "list" vs.toArray 0)) (h64:vs.length<64)
  (H:∀ i,i<vs.length->TupI s.heap (vs.getD i Value.none) (xs i))
  (h:∀ (p:List Nat) (c:Nat) (hF:Heap),p.Perm (List.range vs.length)->p.Pairwise (fun i j=>ltP (xs j) (xs i)=false)->(∀ b o,b≠D->s.heap.get? b=some o->hF.get? b=some o)->hF.get? D=some (seqObj "list" (List.toArray (p.map fun i=>vs.getD i Value.none)) c)->P (.done (.ret .none)) { s with heap:=hF }) :
  wpAny (model prog w) A (Builtin.«list.sort» ⟨[.ref D],[]⟩) P E s:=by
 by_cases h2:vs.length<2
 ·refine zbv6 ho h2 ?_
  obtain⟨c,hc⟩:=zaq4 (vs:=vs) (out:=vs.toArray) ho
  refine h (List.range vs.length) c _ (List.Perm.refl _) ?_ (fun b o ne e=>zai4 ne e) ?_
  ·have:vs.length=0∨vs.length=1:=by omega
   rcases this with e|e<;>rw[e]
   ·exact List.Pairwise.nil
   ·exact List.pairwise_singleton _ _
  ·rw[hc]
   have e:(List.range vs.length).map (fun i=>vs.getD i Value.none)=vs:=by
    apply zcx4 (by simp)
    intro i h1 h2
    simp at h1 h2
    simp[h2]
   rw[e]
 ·have old:∀ v,v∈vs->∃ i,i<vs.length/\vs.getD i Value.none=v:=fun v hv=>by
   obtain⟨i,hi,e⟩:=List.mem_iff_getElem.mp hv
   exact⟨i,hi,by simp[hi,e]⟩
  have nD:∀ {v:Value}{x:Int×Int},TupI s.heap v x->TupI (midH s.heap D vs) v x:=fun {v x} z=>by
   obtain⟨a,o,t,u,n,e,e1,e2,e3⟩:=z
   refine⟨a,o,t,u,n,e,zbj5 (fun q=>?_) e1,e2,e3⟩
   rw[q,ho] at e1
   cases e1
   have e2':Value.type "list"=Value.type "tuple":=e2
   exact absurd e2' (by decide)
  refine zca9 (κ:=tuples' true) (lt:=fun i j=>ltP (xs i) (xs j)) ho (by omega) h64 (fun Q q=>zbm8 (s:={ s with heap:=midH s.heap D vs }) (fun v hv=>?_) (by omega) q) (fun i j C li lj q=>zcg9 (s:={ s with heap:=midH s.heap D vs }) (nD (H i li)) (nD (H j lj)) q) (zcf7 (ord_P xs) (by omega)) fun p pz pR=>?_
  ·obtain⟨i,hi,rfl⟩:=old v hv
   exact⟨_,nD (H i hi)⟩
  ·obtain⟨c,hc⟩:=zaq4 (vs:=vs) (out:=List.toArray (p.toList.map fun i=>vs.getD i Value.none)) ho
   refine h p.toList c _ pR.1 ?_ (fun b o ne e=>zai4 ne e) hc
   rw[List.pairwise_iff_getElem]
   intro i j hi hj hij
   rw[Array.length_toList] at hi hj
   have:=pR.2 i j (Nat.le_of_lt hij) (by omega)
   unfold gp at this
   simpa [Array.getD,hi,hj] using this
theorem zax6 {d:Addr}{es:Array DictEntry}{ep:Nat}{xs:Nat->Int×Int}{Q:Value->Shared->Prop}(lo:(d==sysModules)=false) (hh:A.handled=none) (x:RawD s.heap d es ep) (h64:es.size<64)
  (H:∀ i e,es[i]?=some e->TupI s.heap e.key (xs i))
  (h:∀ (h1 hF:Heap) (tk c:Nat) (p:List Nat) (vs:List Value),(∀ b o,s.heap.get? b=some o->h1.get? b=some o)->(∀ b o,h1.get? b=some o->hF.get? b=some o)->p.Perm (List.range es.size)->p.Pairwise (fun i j=>ltP (xs j) (xs i)=false)->vs=es.toList.map (·.key) ->
   hF.get? h1.objs.size=some (seqObj "list" (List.toArray (p.map fun i=>vs.getD i Value.none)) c)->Q (.ref h1.objs.size) { s with heap:=hF,toks:=tk }) :
  wpAny (model prog w) A (call (.builtin "sorted") [.ref d]) Q E s:=by
 have zl:es.size<=sizeLine:=by rw[sizeLine_eq];omega
 refine Calls.call_function_entry kind_sorted plain_sorted entry_sorted (args_sorted1 _) ?_
 unfold Builtin.«sorted»
 refine wpAny_bind (m:=checkCount "sorted" 1 1 _) (wpAny_pure (wpAny_bind (kdu_collect (A:=A.in1) (zch5 lo) hh x zl fun h1 tk acc k1 it=>?_)))
 have len:acc.toList.length=es.size:=by rw[Array.length_toList];exact it.1
 have ev:acc.toList=es.toList.map (·.key):=by
  apply zcx4 (by rw[len,zcp2,Array.length_toList])
  intro i a1 a2
  rw[Array.length_toList] at a1
  obtain⟨e,e1,e2⟩:=it.2 i acc[i] (by simp[a1])
  simp only[Array.getElem_toList,List.getElem_map]
  rw[e2]
  obtain⟨q1,q2⟩:=Array.getElem?_eq_some_iff.mp e1
  rw[← q2]
 refine wpAny_bind (wpAny_newList ?_ (by rw[len];exact zl))
 have hD:(h1.push (seqObj "list" acc.toList.toArray 0)).get? h1.objs.size=some (seqObj "list" acc.toList.toArray 0):=zcs3 _ rfl
 show wpAny (model prog w) _ _ _ _ { s with heap:=h1.push (seqObj "list" acc.toList.toArray 0),toks:=tk }
 refine wpAny_bind (wpAny_holding (wpAny_call_entry slot_list_sort ⟨_,hD,rfl⟩ entry_list_sort (zbp8 (xs:=xs) (s:={ s with heap:=h1.push (seqObj "list" acc.toList.toArray 0),toks:=tk }) hD (by rw[len];exact h64) (fun i hi=>?_) fun p c hF pp po kF eF=>⟨_,rfl,?_⟩) (args_list_sort _)))
 ·rw[len] at hi
  have z:=(H i es[i] (by simp[hi])).to k1
  have e:acc.toList.getD i Value.none=es[i].key:=by rw[ev];simp[hi]
  rw[e]
  exact z.to fun b o q=>zcp8 _ q
 ·refine wpAny_pure ⟨_,rfl,h h1 hF tk c p acc.toList k1 (fun b o e=>kF b o (zcs5 (zcq7 e)) (zcp8 _ e)) (by rw[← len];exact pp) po ev eF⟩
end
section
variable {X:Cx}{K:zcp3}
def OrdK (ks:List (Int×Int)):Prop:=ks.Nodup/\ks.Pairwise (fun x y=>ltP x y=true)
@[irreducible] def rSoO (a:Addr) (H:Hp) (Q:VK):Prop:=∃ kvs:List ((Int×Int)×V),H a=some (.dT (kvs.map fun z=>(pK z.1,z.2)))/\kvs.length<64 /\
 ∀ p H' (bs:List Addr) (ks:List (Int×Int)),H p=none->Same H H'->ks.Perm (kvs.map (·.1))->OrdK ks->Paired (fun b x=>H' b=some (.tup [.int x.1,.int x.2])) bs ks->H' p=some (.lst (bs.map V.ref))->Q (.ref p) H'
def rSoOM:List V->Hp->VK->Prop:=fun xs H Q=>match xs with
 | [.ref p]=>rSoO p H Q
 | _=>False
theorem soO_rd {a:Addr}{H:Hp}{Q:VK}{kvs:List ((Int×Int)×V)}(h:H a=some (.dT (kvs.map fun z=>(pK z.1,z.2)))) (hl:kvs.length<64)
  (q:∀ p H' (bs:List Addr) (ks:List (Int×Int)),H p=none->Same H H'->ks.Perm (kvs.map (·.1))->OrdK ks->Paired (fun b x=>H' b=some (.tup [.int x.1,.int x.2])) bs ks->H' p=some (.lst (bs.map V.ref))->Q (.ref p) H'):rSoO a H Q:=by unfold rSoO;exact⟨kvs,h,hl,q⟩
theorem zch2 {ks:List (Int×Int)}(nd:ks.Nodup) (h:ks.Pairwise (fun x y=>ltP y x=false)):OrdK ks:=by
 refine⟨nd,?_⟩
 refine List.Pairwise.imp (fun {x y} z=>?_) (List.Pairwise.and nd h)
 have z2:=zae3.mp z.2
 refine zak3.mpr ?_
 have ne:¬ (x.1=y.1/\x.2=y.2):=fun w=>z.1 (Prod.ext w.1 w.2)
 omega
theorem cSortO (hc:X.calm=true):zn5 X (.builtin "sorted") rSoOM:=fun pins s σ H xs us Q I r h=>by
 unfold rSoOM at h
 split at h
 ·rename_i p
  unfold rSoO at h
  obtain⟨kvs,h1,h2,h3⟩:=h
  obtain⟨u1,rfl,rx⟩:=zaa4 r
  cases rx
  obtain⟨zl,lo,ys,kt,o,es,ep,e1,e2,e3,e4,e5⟩:=dt_of I.hok h1
  have lk:ys.length=kvs.length:=by have:=Paired.length kt;rw[zcp2] at this;exact this.symm
  have le:es.size=kvs.length:=by rw[← Array.length_toList,e4,zcp2,lk]
  have at_:∀ i,(hi:i<kvs.length)->∃ b v,ys[i]?=some (pK kvs[i].1,b,v)/\H b=some (.tup [.int kvs[i].1.1,.int kvs[i].1.2]):=fun i hi=>by
   have hy:i<ys.length:=lk▸hi
   have z:=zar0 kt i (pK kvs[i].1,kvs[i].2) ys[i] (by simp[hi]) (by simp[hy])
   refine⟨ys[i].2.1,ys[i].2.2,?_,z.2.1⟩
   rw[zcp1 hy]
   have z1:pK kvs[i].1=ys[i].1:=z.1
   rw[z1]
  have ke:∀ i e,es[i]?=some e->∃ hi:i<kvs.length,∃ b v,ys[i]?=some (pK kvs[i].1,b,v)/\e.key=.ref b/\H b=some (.tup [.int kvs[i].1.1,.int kvs[i].1.2]):=fun i e q=>by
   obtain⟨q1,q2⟩:=Array.getElem?_eq_some_iff.mp q
   have hi:i<kvs.length:=le▸q1
   obtain⟨b,v,y1,y2⟩:=at_ i hi
   refine⟨hi,b,v,y1,?_,y2⟩
   rw[← Array.getElem?_toList,e4,zcp5,y1] at q
   simp only[Option.map_some,Option.some.injEq] at q
   rw[← q];rfl
  refine zax6 (xs:=fun i=>((kvs.map (·.1))[i]?).getD (0,0)) lo (I.ok.hd hc) (d:=p) (es:=es) (ep:=ep) ⟨o,e1,e2,e3⟩ (by omega) (fun i e q=>?_) fun h' hF tk c pm vs k1 kF pp po ev eF=>?_
  ·obtain⟨hi,b,v,_,q2,q3⟩:=ke i e q
   obtain⟨_,its,rv,ob,b1,b2,n,b3⟩:=(show zf3 X.prog X.w H s.heap b (.tup [.int kvs[i].1.1,.int kvs[i].1.2]) from I.hok b _ q3)
   obtain⟨v1,v2,rfl,w1,w2⟩:=zaq7 rv
   obtain⟨t1,rfl⟩:=w1
   obtain⟨t2,rfl⟩:=w2
   have ex:((kvs.map (·.1))[i]?).getD (0,0)=kvs[i].1:=by simp[hi]
   rw[ex,q2]
   exact⟨b,ob,t1,t2,n,rfl,b1,b2,b3⟩
  ·have hp:p<s.heap.objs.size:=zcq7 e1
   have I1:Inv X pins σ H { s with heap:=h',toks:=tk }:=I.kept k1
   have fr:H h'.objs.size=none:=I1.fresh
   let as:List Addr:=pm.map fun i=>((ys[i]?).map (·.2.1)).getD 0
   have mem:∀ i,i∈pm->i<kvs.length:=fun i hi=>by have:=zcu0.mp (pp.mem_iff.mp hi);omega
   have vals:(pm.map fun i=>vs.getD i Value.none)=as.map Value.ref:=by
    rw[zcs9]
    refine zcr2 fun i hi=>?_
    have hi':=mem i hi
    have hes:i<es.size:=by omega
    obtain⟨_,b,v,y1,y2,_⟩:=ke i es[i] (by simp[hes])
    rw[ev]
    simp[hes,y1,y2]
   have rl:Vals (as.map V.ref) (as.map Value.ref):=by
    generalize as=l
    induction l with
    | nil=>exact .nil
    | cons a l ih=>exact .cons rfl ih
   have lz:as.length<=sizeLine:=by
    show (pm.map _).length<=_
    rw[zcp2,pp.length_eq,zcr3,sizeLine_eq];omega
   refine⟨.ref _,_,I1.laid (h':=hF) (t':=tk) (o:=.lst (as.map V.ref)) kF (zcq9 _) ?_,rfl,h3 _ _ as (pm.map fun i=>((kvs.map (·.1))[i]?).getD (0,0)) fr (Same.upd fr) ?_ (zch2 ?_ ?_) ?_ zc2⟩
   ·exact⟨by rw[zcp2];exact lz,as.map Value.ref,c,rl,by rw[eF,vals]⟩
   ·have e:(List.range kvs.length).map (fun i=>((kvs.map (·.1))[i]?).getD (0,0))=kvs.map (·.1):=by
     apply zcx4 (by simp)
     intro i a1 a2
     simp at a1
     simp[a1]
    have q:=(show pm.Perm (List.range kvs.length) from le▸pp).map fun i=>((kvs.map (·.1))[i]?).getD (0,0)
    rw[e] at q
    exact q
   ·have e:(List.range kvs.length).map (fun i=>((kvs.map (·.1))[i]?).getD (0,0))=kvs.map (·.1):=by
     apply zcx4 (by simp)
     intro i a1 a2
     simp at a1
     simp[a1]
    have q:=(show pm.Perm (List.range kvs.length) from le▸pp).map fun i=>((kvs.map (·.1))[i]?).getD (0,0)
    rw[e] at q
    refine q.nodup_iff.mpr ?_
    have nk:((kvs.map fun z=>(pK z.1,z.2)).map (·.1)).Nodup:=by
     have:(kvs.map fun z=>(pK z.1,z.2)).map (·.1)=ys.map (·.1):=by
      apply zcx4 (by rw[zcp2,zcp2,zcp2,lk])
      intro i a1 a2
      rw[zcp2,zcp2] at a1
      obtain⟨b,v,y1,_⟩:=at_ i a1
      have hy:i<ys.length:=lk▸a1
      rw[zcp1 hy] at y1
      simp only[List.getElem_map]
      rw[Option.some.inj y1]
     rw[this];exact e5.2
    rw[zcs9] at nk
    have:(kvs.map (Prod.fst∘fun z=>(pK z.1,z.2)))=(kvs.map (·.1)).map pK:=by rw[zcs9];rfl
    rw[this] at nk
    exact List.Pairwise.of_map pK (fun a b h e=>h (by rw[e])) nk
   ·rw[List.pairwise_map]
    exact po
   ·refine zas1 (by rw[zcp2,zcp2]) fun i a x q1 q2=>?_
    rw[zcp5] at q1 q2
    obtain⟨j,j1,j2⟩:=zcp7.mp q1
    rw[j1] at q2
    have hj:=mem j (zcp9 j1)
    obtain⟨b,v,y1,y2⟩:=at_ j hj
    rw[y1] at j2
    have j3:b=a:=j2
    have ex:kvs[j].1=x:=by simpa [hj] using q2
    rw[← j3,← ex]
    exact (Same.upd fr) b _ y2
 ·exact h.elim
end
end L2
set_option maxHeartbeats 4000000
namespace L2
open PySem PySem.Spec PyProof.Rows
section
variable {X:Cx}{K:zcp3}{H:Hp}{Q:VK}
def ExA (H:Hp) (e D:Addr):Prop:=H e=some (excO e (.ref D) none)∨∃ d fs,H e=some (excO e (.ref D) (some d))/\H d=some (.xd fs)
theorem ExA.same {H H':Hp}{e D:Addr}(x:ExA H e D) (s:Same H H'):ExA H' e D:=by
 rcases x with x|⟨d,fs,x,y⟩
 ·exact .inl (s _ _ x)
 ·exact .inr ⟨d,fs,s _ _ x,s _ _ y⟩
@[irreducible] def rIsiC (K:zcp3) (x c:V) (H:Hp) (Q:VK):Prop:=∃ (ea D p:Addr) (cs:List Addr) (b:Bool),x=.ref ea/\c=.ref p/\H p=some (.tup (cs.map V.ref))/\ExA H ea D/\ExcK K D/\(zct5 K D).isSome=true/\PySem.W.kitAny K (.ref D) (cs.map Value.ref)=some b/\Q (.bl b) H
def zbx5 (K:zcp3):List V->Hp->VK->Prop:=fun xs H Q=>match xs with
 | [x,c]=>rIsiC K x c H Q
 | _=>False
theorem zbb6:∀ {ns:List Addr}{us:List Value},Vals (ns.map V.ref) us->us=ns.map Value.ref
 | [],_,.nil=>rfl
 | n :: ns,_,.cons r t=>by rw[show _=Value.ref n from r,zbb6 t];rfl
theorem cIsiC (hK:X.K=K):zn5 X (.builtin "isinstance") (zbx5 K):=by
 subst hK
 intro pins s σ H xs us Q I r h
 unfold zbx5 at h
 split at h
 ·unfold rIsiC at h
  obtain⟨ea,D,p,cs,b,rfl,rfl,h1,h2,h3,h4,h5,h6⟩:=h
  obtain⟨u,w,rfl,r1,r2⟩:=zaq7 r
  cases r1
  cases r2
  obtain⟨_,its,r3,o,e1,e2,n,e3⟩:=(show zf3 X.prog X.w H s.heap p (.tup (cs.map V.ref)) from I.hok p _ h1)
  have ei:=zbb6 r3
  subst ei
  obtain⟨oc,od,odt,osl⟩:=o
  cases e2
  cases e3
  rcases h2 with h2|⟨d,fs,h2,h0⟩
  ·obtain⟨q,_⟩:=I.hok ea _ h2
   exact PySem.W.kia_tup (zba4 h3 h4) I.kIn q e1 h5 (fun z=>nomatch z) fun tk=>⟨.bl b,H,I.tok _,rfl,h6⟩
  ·obtain⟨q,_⟩:=I.hok ea _ h2
   obtain⟨_,⟨od',_,_,e0,_⟩,_⟩:=(show zf3 X.prog X.w H s.heap d (.xd fs) from I.hok d _ h0)
   exact PySem.W.kia_tup (zau9 h3 h4) I.kIn ⟨q,od',e0⟩ e1 h5 (fun z=>nomatch z) fun tk=>⟨.bl b,H,I.tok _,rfl,h6⟩
 ·exact h.elim
theorem zap4 {t:Value}:∀ {cs:List Addr},(∀ c∈cs,zcr1 K t (.ref c)=some false)->PySem.W.kitAny K t (cs.map Value.ref)=some false
 | [],_=>rfl
 | c :: cs,h=>by
  rw[zcs0]
  unfold PySem.W.kitAny
  rw[h c (.head _)]
  exact zap4 fun x hx=>h x (.tail _ hx)
theorem zbp3 {ea D p:Addr}{cs:List Addr}(h1:H p=some (.tup (cs.map V.ref))) (h2:ExA H ea D) (h3:ExcK K D) (h4:(zct5 K D).isSome=true) (h5:∀ c∈cs,zcr1 K (.ref D) (.ref c)=some false) (q:Q (.bl false) H):rIsiC K (.ref ea) (.ref p) H Q:=by
 unfold rIsiC;exact⟨ea,D,p,cs,false,rfl,rfl,h1,h2,h3,h4,zap4 h5,q⟩
end
section
variable {X:Cx}{pins:List (Addr×Obj)}{σ:St}{H:Hp}{s:Shared}
end
end L2
set_option maxHeartbeats 4000000
namespace L2
open PySem PySem.Spec PyProof.Rows
mutual
inductive ShV (H:Hp):V->PyData->Prop
 | non:ShV H .non .none
 | bl (b:Bool):ShV H (.bl b) (.bool b)
 | int (i:Int):ShV H (.int i) (.int i)
 | str (x:Str):ShV H (.str x) (.str x)
 | lst {a:Addr}{xs:List V}{ds:List PyData}:H a=some (.lst xs)->ShL H xs ds->ShV H (.ref a) (.list ds)
 | tup {a:Addr}{xs:List V}{ds:List PyData}:H a=some (.tup xs)->ShL H xs ds->ShV H (.ref a) (.tuple ds)
inductive ShL (H:Hp):List V->List PyData->Prop
 | nil:ShL H [] []
 | cons {x:V}{d:PyData}{xs:List V}{ds:List PyData}:ShV H x d->ShL H xs ds->ShL H (x :: xs) (d :: ds)
end
section
variable {X:Cx}{pins:List (Addr×Obj)}{σ:St}{H H':Hp}{s:Shared}{Q:VK}
mutual
theorem ShV.same {v:V}{d:PyData}(h:ShV H v d) (k:Same H H'):ShV H' v d:=match h with
 | .non=>.non
 | .bl b=>.bl b
 | .int i=>.int i
 | .str x=>.str x
 | .lst e l=>.lst (k _ _ e) (l.same k)
 | .tup e l=>.tup (k _ _ e) (l.same k)
theorem ShL.same {xs:List V}{ds:List PyData}(h:ShL H xs ds) (k:Same H H'):ShL H' xs ds:=match h with
 | .nil=>.nil
 | .cons a b=>.cons (a.same k) (b.same k)
end
theorem ShL.len {xs:List V}{ds:List PyData}(h:ShL H xs ds):xs.length=ds.length:=match h with
 | .nil=>rfl
 | .cons _ b=>by rw[zcr8,zcr8,b.len]
mutual
theorem ShV.reads (I:Inv X pins σ H s) {v:V}{d:PyData}{u:Value}(h:ShV H v d) (r:RelV v u):∃ as,Reads s.heap u d as:=match h with
 | .non=>by cases (show u=Value.none from r);exact⟨_,.none⟩
 | .bl b=>by cases (show u=Value.bool b from r);exact⟨_,.bool b⟩
 | .int i=>by obtain⟨t,q⟩:=(show ∃ t,u=Value.int i t from r);cases q;exact⟨_,.int i t⟩
 | .str x=>by obtain⟨t,q⟩:=(show ∃ t,u=Value.str x t from r);cases q;exact⟨_,.str x t⟩
 | .lst (a:=a) (xs:=xs) e l=>by
  cases (show u=Value.ref a from r)
  obtain⟨_,us,n,rv,h1⟩:=(show zf3 X.prog X.w H s.heap a (.lst xs) from I.hok a _ e)
  obtain⟨as,ra⟩:=l.reads I rv
  exact⟨_,.list h1 rfl rfl (by simpa using ra)⟩
 | .tup (a:=a) (xs:=xs) e l=>by
  cases (show u=Value.ref a from r)
  obtain⟨_,us,rv,o,h1,h2,n,h3⟩:=(show zf3 X.prog X.w H s.heap a (.tup xs) from I.hok a _ e)
  obtain⟨as,ra⟩:=l.reads I rv
  exact⟨_,.tuple h1 h2 h3 (by simpa using ra)⟩
theorem ShL.reads (I:Inv X pins σ H s) {xs:List V}{ds:List PyData}{us:List Value}(h:ShL H xs ds) (r:Vals xs us):∃ as,ReadsAll s.heap us ds as:=match h,r with
 | .nil,.nil=>⟨_,.nil⟩
 | .cons a b,.cons r1 r2=>by
  obtain⟨as,ra⟩:=a.reads I r1
  obtain⟨bs,rb⟩:=b.reads I r2
  exact⟨_,.cons ra rb⟩
end
structure zr0 (d:PyData) (k m:Nat):Prop where
 ok:d.showable=true
 nd:d.hasDict=false
 dp:d.depth<=k
 ln:d.shown.length<=m
theorem zr0.up {d:PyData}{k m k' m':Nat}(h:zr0 d k m) (h1:k<=k') (h2:m<=m'):zr0 d k' m':=⟨h.ok,h.nd,zcu1 h.dp h1,zcu1 h.ln h2⟩
theorem zal6 {k m:Nat}:∀ {ds:List PyData},(∀ d∈ds,zr0 d k m)->PyData.showableAll ds=true/\PyData.hasDictAll ds=false/\PyData.depthAll ds<=k/\piled (PyData.shownAll ds)<=ds.length*(m+2)
 | [],_=>⟨rfl,rfl,zct3 _,by simp[PyData.shownAll,piled]⟩
 | d :: ds,h=>by
  have h0:=h d (.head _)
  obtain⟨a1,a2,a3,a4⟩:=zal6 (ds:=ds) fun x hx=>h x (.tail _ hx)
  refine⟨by simp[PyData.showableAll,h0.ok,a1],by simp[PyData.hasDictAll,h0.nd,a2],?_,?_⟩
  ·have:=h0.dp
   simp only[PyData.depthAll]
   omega
  ·have:=h0.ln
   simp only[PyData.shownAll,piled_cons,zcr8,Nat.succ_mul]
   omega
theorem zaf8:∀ (ts:List Str) (k:Nat) (acc:Str),(textFrom k acc ts).length<=acc.length+piled ts
 | [],_,acc=>by simp[textFrom,piled]
 | t :: ts,k,acc=>by
  have ih:=zaf8 ts (k+1) (acc++(if k>0 then ", " else "":String)++t)
  have e:(acc++(if k>0 then ", " else "":String)++t).length=acc.length+(if k>0 then 2 else 0)+t.length:=by
   rw[strLen_append,strLen_append]
   congr 2
   split<;>rfl
  rw[piled_cons]
  show (textFrom (k+1) _ ts).length<=_
  rw[e] at ih
  have e2:(if k>0 then 2 else 0)<=2:=by split<;>omega
  omega
theorem zr0.list {ds:List PyData}{k m:Nat}(h:∀ d∈ds,zr0 d k m):zr0 (.list ds) (k+1) (ds.length*(m+2)+2):=by
 obtain⟨a1,a2,a3,a4⟩:=zal6 h
 refine⟨by simpa [PyData.showable] using a1,by simpa [PyData.hasDict] using a2,by simp only[PyData.depth];omega,?_⟩
 have:=zaf8 (PyData.shownAll ds) 0 "["
 have e1:((("[":String):Str)).length=1:=rfl
 have e2:((("]":String):Str)).length=1:=rfl
 simp only[PyData.shown,listText,strLen_append]
 omega
theorem zr0.tuple {ds:List PyData}{k m:Nat}(h:∀ d∈ds,zr0 d k m):zr0 (.tuple ds) (k+1) (ds.length*(m+2)+4):=by
 obtain⟨a1,a2,a3,a4⟩:=zal6 h
 refine⟨by simpa [PyData.showable] using a1,by simpa [PyData.hasDict] using a2,by simp only[PyData.depth];omega,?_⟩
 have e1:((("(":String):Str)).length=1:=rfl
 have e3:((if (PyData.shownAll ds).length==1 then ",)" else ")":String):Str).length<=2:=by split<;>decide
 have e4:(Str.join ", " (PyData.shownAll ds)).length<=piled (PyData.shownAll ds):=by
  by_cases z:PyData.shownAll ds=[]
  ·rw[z];decide
  ·have:=join_length_add _ z;omega
 simp only[PyData.shown,tupleText,strLen_append]
 omega
theorem zr0.int {i:Int}(h:-(10 ^ 100)<=i) (h':i<=10 ^ 100):zr0 (.int i) 0 1921:=by
 have hl:i.natAbs.log2<1920:=by
  by_cases z:i.natAbs=0
  ·rw[z];decide
  ·rw[Nat.log2_lt z]
   have h1:i.natAbs<=10 ^ 100:=by omega
   exact Nat.lt_of_le_of_lt h1 (by decide +kernel)
 exact⟨by simpa [PyData.showable] using hl,rfl,by simp[PyData.depth],by simpa only [PyData.shown] using PyProof.Rows.int_text_len_1921 hl⟩
theorem zr0.non:zr0 .none 0 4:=⟨rfl,rfl,by simp[PyData.depth],by decide⟩
theorem ShL.of {xs:List V}(f:V->PyData) (h:∀ x∈xs,ShV H x (f x)):ShL H xs (xs.map f):=by
 induction xs with
 | nil=>exact .nil
 | cons x xs ih=>exact .cons (h x (.head _)) (ih fun y hy=>h y (.tail _ hy))
end
end L2
set_option maxHeartbeats 4000000
namespace L2
open PySem PySem.Spec PyProof.Rows
mutual
def sml:PyData->Bool
 | .none | .bool _ | .int _ | .str _=>true
 | .list xs | .tuple xs=>decide (xs.length<=1000)&&zaj4 xs
 | .dict _=>false
def zaj4:List PyData->Bool
 | []=>true
 | x :: xs=>sml x&&zaj4 xs
end
theorem zt3:∀ {ds:List PyData},(∀ d∈ds,sml d=true)->zaj4 ds=true
 | [],_=>rfl
 | d :: ds,h=>by simp[zaj4,h d (.head _),zt3 fun x hx=>h x (.tail _ hx)]
theorem zy2:∀ {ds:List PyData},zaj4 ds=true->∀ d∈ds,sml d=true
 | [],_,d,h=>by cases h
 | x :: ds,h,d,hd=>by
  simp only[zaj4,zcr6] at h
  rcases zcq6.mp hd with rfl|hd
  ·exact h.1
  ·exact zy2 h.2 d hd
section
variable {H H':Hp}{K:zcp3}{Q:VK}
theorem ShL.idx:∀ {xs:List V}{ds:List PyData},xs.length=ds.length->(∀ (i:Nat) x d,xs[i]?=some x->ds[i]?=some d->ShV H x d)->ShL H xs ds
 | [],[],_,_=>.nil
 | [],_ :: _,h,_=>by simp at h
 | _ :: _,[],h,_=>by simp at h
 | x :: xs,d :: ds,h,k=>.cons (k 0 x d rfl rfl) (ShL.idx (by simpa using h) fun i y e h1 h2=>k (i+1) y e (by simpa using h1) (by simpa using h2))
theorem ShL.get:∀ {xs:List V}{ds:List PyData}(_:ShL H xs ds) (i:Nat) (x:V),xs[i]?=some x->∃ d,ds[i]?=some d/\ShV H x d
 | _,_,.nil,i,x,e=>by simp at e
 | _,_,.cons a b,0,x,e=>by cases (show some _=some x from e);exact⟨_,rfl,a⟩
 | _,_,.cons a b,i+1,x,e=>by
  obtain⟨d,e1,e2⟩:=ShL.get b i x (by simpa using e)
  exact⟨d,by simpa using e1,e2⟩
theorem ShL.ex {P:PyData->Prop}:∀ {xs:List V},(∀ x∈xs,∃ d,ShV H x d/\P d)->∃ ds,ShL H xs ds/\∀ d∈ds,P d
 | [],_=>⟨[],.nil,fun _ h=>by cases h⟩
 | x :: xs,h=>by
  obtain⟨d,h1,h2⟩:=h x (.head _)
  obtain⟨ds,h3,h4⟩:=ShL.ex (xs:=xs) fun y hy=>h y (.tail _ hy)
  refine⟨d :: ds,.cons h1 h3,fun e he=>?_⟩
  rcases zcq6.mp he with rfl|he
  ·exact h2
  ·exact h4 e he
def Rda (H:Hp) (v:V) (k m:Nat):Prop:=∃ d,ShV H v d/\sml d=true/\zr0 d k m
theorem Rda.same {v:V}{k m:Nat}(h:Rda H v k m) (s:Same H H'):Rda H' v k m:=by obtain⟨d,h1,h2,h3⟩:=h;exact⟨d,h1.same s,h2,h3⟩
theorem Rda.up {v:V}{k m k' m':Nat}(h:Rda H v k m) (h1:k<=k':=by omega) (h2:m<=m':=by omega):Rda H v k' m':=by obtain⟨d,a,b,c⟩:=h;exact⟨d,a,b,c.up h1 h2⟩
theorem Rda.int {i:Int}(h:-(10 ^ 100)<=i) (h':i<=10 ^ 100):Rda H (.int i) 0 1921:=⟨_,.int i,rfl,zr0.int h h'⟩
theorem Rda.non:Rda H .non 0 1921:=⟨_,.non,rfl,zr0.non.up (by omega) (by omega)⟩
theorem Rda.lst {a:Addr}{xs:List V}{k m:Nat}(e:H a=some (.lst xs)) (l:xs.length<=1000) (h:∀ x∈xs,Rda H x k m):Rda H (.ref a) (k+1) (xs.length*(m+2)+4):=by
 obtain⟨ds,h1,h2⟩:=ShL.ex (P:=fun d=>sml d=true/\zr0 d k m) h
 have hl:=h1.len
 refine⟨.list ds,.lst e h1,?_,?_⟩
 ·simp only[sml,zcr6,decide_eq_true_eq]
  exact⟨by omega,zt3 fun d hd=>(h2 d hd).1⟩
 ·have:=zr0.list (ds:=ds) (k:=k) (m:=m) fun d hd=>(h2 d hd).2
  rw[hl]
  exact this.up (zcq9 _) (by omega)
theorem Rda.tup {a:Addr}{xs:List V}{k m:Nat}(e:H a=some (.tup xs)) (l:xs.length<=1000) (h:∀ x∈xs,Rda H x k m):Rda H (.ref a) (k+1) (xs.length*(m+2)+4):=by
 obtain⟨ds,h1,h2⟩:=ShL.ex (P:=fun d=>sml d=true/\zr0 d k m) h
 have hl:=h1.len
 refine⟨.tuple ds,.tup e h1,?_,?_⟩
 ·simp only[sml,zcr6,decide_eq_true_eq]
  exact⟨by omega,zt3 fun d hd=>(h2 d hd).1⟩
 ·have:=zr0.tuple (ds:=ds) (k:=k) (m:=m) fun d hd=>(h2 d hd).2
  rw[hl]
  exact this
def isD (n:String):PyData->Bool
 | .none=>false
 | .bool _=>n=="bool" || n=="int"
 | .int _=>n=="int"
 | .str _=>n=="str"
 | .list _=>n=="list"
 | .tuple _=>n=="tuple"
 | .dict _=>n=="dict"
theorem zu0 {v:V}{d:PyData}{n:String}(h:ShV H v d) (hn:n="int"∨n="bool"∨n="list"∨n="tuple") (q:Q (.bl (isD n d)) H):zu7 K v (.ty n) H Q:=by
 rcases hn with rfl|rfl|rfl|rfl<;>cases h
 all_goals first
  | exact zbm0 q (by rfl)
  | exact zan9 q (by rfl)
  | exact zan8 q (by rfl)
  | exact zbl2 q (by rfl)
  | (rename_i e l;exact zao3 e q (by rfl))
  | (rename_i e l;exact zad0 e q (by rfl))
end
end L2
set_option maxHeartbeats 4000000
namespace L2
open PySem PySem.Spec PyProof.Rows
section
variable {X:Cx}{K:zcp3}{H:Hp}{Q:VK}
@[irreducible] def rInA (K:zcp3) (neg:Bool) (x:V) (p:Addr) (H:Hp) (Q:VK):Prop:=∃ xs,(SqL K H p xs∨SqT K H p xs)/\zw1 x=true/\xs.all zw1=true/\Q (.bl (if neg then !inV x xs else inV x xs)) H
def rInM (K:zcp3) (neg:Bool):R2:=fun x y H Q=>match y with
 | .ref p=>rInA K neg x p H Q
 | _=>False
theorem zcf1 (hK:X.K=K):OpR X (compareOp .NotIn) (rInM K true):=by
 subst hK
 intro pins s σ H x y v u Q I rx ry h
 unfold rInM at h
 split at h
 ·unfold rInA at h
  obtain⟨xs,h1,h2,h3,h4⟩:=h
  exact zat3 pins s σ H _ _ v u Q I rx ry ⟨_,xs,rfl,h1,h2,h3,h4⟩
 ·exact h.elim
theorem zap2 {x:V}{p:Addr}{xs:List V}(h:SqT K H p xs) (h1:zw1 x=true) (h2:xs.all zw1=true) (q:Q (.bl (!inV x xs)) H):rInA K true x p H Q:=by unfold rInA;exact⟨xs,.inr h,h1,h2,q⟩
end
end L2
set_option maxHeartbeats 4000000
namespace L2
open PySem PySem.Spec PyProof.Rows PySem.W
section
variable {X:Cx}{K:zcp3}{H:Hp}{Q:VK}
@[irreducible] def rDNE (H:Hp) (Q:VK):Prop:=(∀ p H',H p=none->Same H H'->H' p=some (.dT [])->Q (.ref p) H')∨∀ p H',H p=none->Same H H'->H' p=some (.dK [])->Q (.ref p) H'
def tDNE:TE:=fun _ H Q=>rDNE H Q
theorem zbi9 {pos:Pos}:PE X (.Dict [] [] pos) tDNE:=fun pins s σ H Q I h=>by
 unfold tDNE rDNE at h
 rcases h with h|h
 ·exact zbs3 (pos:=pos) pins s σ H Q I fun p hp=>h p _ hp (Same.upd hp) zc2
 ·exact zbw2 (pos:=pos) pins s σ H Q I fun p hp=>h p _ hp (Same.upd hp) zc2
theorem zbz4 (q:∀ p H',H p=none->Same H H'->H' p=some (.dT [])->Q (.ref p) H'):rDNE H Q:=by unfold rDNE;exact .inl q
theorem dnK_rd (q:∀ p H',H p=none->Same H H'->H' p=some (.dK [])->Q (.ref p) H'):rDNE H Q:=by unfold rDNE;exact .inr q
theorem zcb7 {a:Addr}{P:Prop}{kvs:List (Key×V)}(e:H a=some (.dK kvs)) (p:P):rIsD a H P:=by unfold rIsD;exact⟨.inl ⟨kvs,.inl e⟩,p⟩
theorem zci4 {a:Addr}{i:Int}{z:V}{kvs:List (Key×V)}(e:H a=some (.dK kvs)) (q:Q ((valV kvs (.inl i)).getD z) H):rDG2 a (.int i) z H Q:=by
 unfold rDG2
 exact⟨_,DGet.k (k:=.inl i) e,q⟩
theorem dpK_rd {a:Addr}{i:Int}{v:V}{N:Hp->Prop}{kvs:List (Key×V)}(e:H a=some (.dK kvs)) (hl:kvs.length<sizeLine) (q:∀ H',Chg a H H'->H' a=some (.dK (putK kvs (.inl i) v))->N H'):rDP a (.int i) v H N:=by
 unfold rDP
 exact⟨_,DPut.k (k:=.inl i) e hl,q _ Chg.upd zc2⟩
def dI (kv:List (Int×Int)):List (Key×V):=kv.map fun z=>(.inl z.1,.int z.2)
def valI (kv:List (Int×Int)) (i:Int):Option Int:=(kv.find? fun z=>decide (z.1=i)).map (·.2)
theorem zbi7 (i:Int):∀ kv:List (Int×Int),valV (dI kv) (.inl i)=(valI kv i).map V.int
 | []=>rfl
 | z :: kv=>by
  by_cases e:z.1=i
  ·show valV (((.inl z.1:Key),V.int z.2) :: dI kv) (.inl i)=_
   rw[zx8 (by exact congrArg Sum.inl e)]
   unfold valI
   rw[zcv0,decide_eq_true e];rfl
  ·show valV (((.inl z.1:Key),V.int z.2) :: dI kv) (.inl i)=_
   rw[zx4 (by exact fun q=>e (Sum.inl.inj q)),zbi7 i kv]
   unfold valI
   rw[zcv0,decide_eq_false e]
def eqDI (ka kb:List (Int×Int)):Bool:=ka.length==kb.length&&ka.all fun z=>valI kb z.1==some z.2
theorem zaz3 {A:Around}{s:Shared}{kb:List (Int×Int)}{ws:List (Key×Value)}(rb:KV (dI kb) ws):∀ {ka:List (Int×Int)}{vs:List (Key×Value)},KV (dI ka) vs->KeqHits A s ws vs (ka.all fun z=>valI kb z.1==some z.2)
 | [],vs,r=>by
  unfold KV dI at r
  cases r
  exact .nil
 | z :: ka,vs,r=>by
  unfold KV dI at r
  rw[zcs0] at r
  cases r with
  | @cons p q ps qs h t=>
   obtain⟨h1,h2⟩:=h
   obtain⟨k,v⟩:=q
   cases (show (Sum.inl z.1:Key)=k from h1)
   have val:=rb.val (.inl z.1)
   rw[zbi7] at val
   rw[List.all_cons]
   cases e:valI kb z.1 with
   | none=>
    rw[e] at val
    have:valueAt ws (.inl z.1)=none:=by
     cases w:valueAt ws (.inl z.1) with
     | none=>rfl
     | some y=>rw[w] at val;exact val.elim
    have f:((none:Option Int)==some z.2)=false:=rfl
    rw[f,Bool.false_and]
    exact .miss this
   | some n=>
    rw[e] at val
    obtain⟨y,ey,ry⟩:∃ y,valueAt ws (.inl z.1)=some y/\RelV (.int n) y:=by
     cases w:valueAt ws (.inl z.1) with
     | none=>rw[w] at val;exact val.elim
     | some y=>rw[w] at val;exact⟨y,rfl,val⟩
    have q:=zbk6 (A:=A) (s:=s) (show RelV (.int z.2) v from h2) ry rfl rfl
    have e2:eqV (.int z.2) (.int n)=(some n==some z.2):=by
     by_cases d:z.2=n
     ·subst d;simp[eqV]
     ·have d':¬ n=z.2:=fun x=>d x.symm
      show (z.2==n)=(some n==some z.2)
      rw[beq_eq_false_iff_ne.mpr d]
      exact (beq_eq_false_iff_ne.mpr fun x=>d' (Option.some.inj x)).symm
    rw[e2] at q
    exact .hit ey q (zaz3 rb t)
@[irreducible] def rEqX (K:zcp3) (x y:V) (H:Hp) (Q:VK):Prop:=
 (∃ a b n c,x=.ref a/\y=.ref b/\n<=40/\EqR K H n (.ref a) (.ref b) c/\Q (.bl c) H) ∨
 (∃ a b ka kb,x=.ref a/\y=.ref b/\H a=some (.dK (dI ka))/\H b=some (.dK (dI kb))/\Q (.bl (eqDI ka kb)) H) ∨
 ∃ d e,ShV H x d/\ShV H y e/\d.canLay0=true/\e.canLay0=true/\d.depth<=40/\Q (.bl (PyData.eqv d e)) H
def zbp5 (K:zcp3):R2:=fun x y H Q=>match x,y with
 | .int i,.int j=>Q (.bl (decide (i=j))) H
 | .bl i,.bl j=>Q (.bl (decide (i=j))) H
 | .str i,.str j=>Q (.bl (decide (i=j))) H
 | x,y=>rEqX K x y H Q
def rNeXM (K:zcp3):R2:=fun x y H Q=>zbp5 K x y H fun v H'=>match v with
 | .bl b=>Q (.bl (!b)) H'
 | _=>False
theorem oEqX (hu:X.A.units+40<cLine):OpR X (compareOp .Eq) (zbp5 X.K):=by
 intro pins s σ H x y v u Q I rx ry h
 unfold zbp5 at h
 split at h
 ·exact zaz5 pins s σ H _ _ v u Q I rx ry ⟨rfl,by rw[zn7 (f:=V.int) fun a b e=>V.int.inj e];exact h⟩
 ·exact zaz5 pins s σ H _ _ v u Q I rx ry ⟨rfl,by rw[zn7 (f:=V.bl) fun a b e=>V.bl.inj e];exact h⟩
 ·exact zaz5 pins s σ H _ _ v u Q I rx ry ⟨rfl,by rw[zn7 (f:=V.str) fun a b e=>V.str.inj e];exact h⟩
 ·unfold rEqX at h
  rcases h with ⟨a,b,n,c,rfl,rfl,hn,h1,h2⟩|⟨a,b,ka,kb,rfl,rfl,ea,eb,h⟩|⟨d,e,hd,he,cd,ce,dd,h⟩
  ·cases rx
   cases ry
   exact EqR.rc I h1 (A:=X.A) (by omega) _ _ _ _ ⟨.bl c,H,I,rfl,h2⟩
  ·cases rx
   cases ry
   obtain⟨_,sa,vs,ra,da⟩:=zbj1 I.hok ea
   obtain⟨_,sb,ws,rb,db⟩:=zbj1 I.hok eb
   refine keq_eq sa sb da db (by omega) (fun _=>zaz3 rb ra) ⟨.bl (eqDI ka kb),H,I,?_,h⟩
   have la:vs.length=ka.length:=by rw[← ra.length];unfold dI;rw[zcp2]
   have lb:ws.length=kb.length:=by rw[← rb.length];unfold dI;rw[zcp2]
   rw[la,lb]
   rfl
  ·obtain⟨as,r1⟩:=hd.reads I rx
   obtain⟨bs,r2⟩:=he.reads I ry
   exact SeqAt.compareEq_reads r1 r2 cd ce (by have:=Nat.min_le_left d.depth e.depth;omega) ⟨.bl (PyData.eqv d e),H,I,rfl,h⟩
theorem oNeX (hu:X.A.units+40<cLine):OpR X (compareOp .NotEq) (rNeXM X.K):=by
 intro pins s σ H x y v u Q I rx ry h
 unfold rNeXM zbp5 at h
 split at h
 ·exact zav6 pins s σ H _ _ v u Q I rx ry ⟨rfl,by rw[zn7 (f:=V.int) fun a b e=>V.int.inj e];exact h⟩
 ·exact zav6 pins s σ H _ _ v u Q I rx ry ⟨rfl,by rw[zn7 (f:=V.bl) fun a b e=>V.bl.inj e];exact h⟩
 ·exact zav6 pins s σ H _ _ v u Q I rx ry ⟨rfl,by rw[zn7 (f:=V.str) fun a b e=>V.str.inj e];exact h⟩
 ·unfold rEqX at h
  rcases h with ⟨a,b,n,c,rfl,rfl,hn,h1,h2⟩|⟨a,b,ka,kb,rfl,rfl,ea,eb,h⟩|⟨d,e,hd,he,cd,ce,dd,h⟩
  ·cases rx
   cases ry
   exact EqR.rcNe I h1 (A:=X.A) (by omega) _ _ _ _ ⟨.bl (!c),H,I,rfl,h2⟩
  ·cases rx
   cases ry
   obtain⟨_,sa,vs,ra,da⟩:=zbj1 I.hok ea
   obtain⟨_,sb,ws,rb,db⟩:=zbj1 I.hok eb
   refine keq_ne sa sb da db (by omega) (fun _=>zaz3 rb ra) ⟨.bl (!eqDI ka kb),H,I,?_,h⟩
   have la:vs.length=ka.length:=by rw[← ra.length];unfold dI;rw[zcp2]
   have lb:ws.length=kb.length:=by rw[← rb.length];unfold dI;rw[zcp2]
   rw[la,lb]
   rfl
  ·obtain⟨as,r1⟩:=hd.reads I rx
   obtain⟨bs,r2⟩:=he.reads I ry
   exact SeqAt.compareNe_reads r1 r2 cd ce (by have:=Nat.min_le_left d.depth e.depth;omega) ⟨.bl (!PyData.eqv d e),H,I,rfl,h⟩
theorem zbx4 {a b:Addr}{n:Nat}{c:Bool}(h:EqR K H n (.ref a) (.ref b) c) (q:Q (.bl c) H) (hn:n<=40:=by decide):rEqX K (.ref a) (.ref b) H Q:=by unfold rEqX;exact .inl ⟨a,b,n,c,rfl,rfl,hn,h,q⟩
theorem eqD_rd {a b:Addr}{ka kb:List (Int×Int)}(ea:H a=some (.dK (dI ka))) (eb:H b=some (.dK (dI kb))) (q:Q (.bl (eqDI ka kb)) H):rEqX K (.ref a) (.ref b) H Q:=by unfold rEqX;exact .inr (.inl ⟨a,b,ka,kb,rfl,rfl,ea,eb,q⟩)
theorem zbi6 {x y:V}{d e:PyData}(hd:ShV H x d) (he:ShV H y e) (cd:d.canLay0=true) (ce:e.canLay0=true) (dd:d.depth<=40) (q:Q (.bl (PyData.eqv d e)) H):rEqX K x y H Q:=by unfold rEqX;exact .inr (.inr ⟨d,e,hd,he,cd,ce,dd,q⟩)
end
end L2
set_option maxHeartbeats 4000000
namespace L2
open PySem PySem.Spec PyProof.Rows PySem.W
theorem zbk7 (l b:Addr) (x y:Int×Int) (t u t' u':Tok) (n n2:Nat) (dd dd2:Option Addr) (sl sl2:Array (Option Value)) :
  Meets (Builtin.«tuple.__lt__» ⟨[.ref l,.ref b],[]⟩)
   (fun A R s=>s.heap.get? l=some { cls:=.type "tuple",dict:=dd,data:=.seq #[.int x.1 t,.int x.2 u] n,slots:=sl }/\s.heap.get? b=some { cls:=.type "tuple",dict:=dd2,data:=.seq #[.int y.1 t',.int y.2 u'] n2,slots:=sl2 } /\
    R (.ok (.ret (.bool (ltP x y)))) s):=
 .of_wp fun prog w A R s h=>by
  obtain⟨hp,g,d,tk,os⟩:=s;obtain⟨hl,hb,h⟩:=h
  have f2:=AutoSeq1.sub_tuple_tuple
  wp_walk using wpAny_loadPart' hl,wpAny_loadPart' hb,wpAny_forIn_list _ (fun rest b s'=>b.1=none/\s'=⟨hp,g,d,tk,os⟩/\(rest=[(.int x.1 t,.int y.1 t'),(.int x.2 u,.int y.2 u')]∨(x.1=y.1/\rest=[(.int x.2 u,.int y.2 u')])∨(x.1=y.1/\x.2=y.2/\rest=[]))) _
  case turn=>
   rintro⟨p,q⟩ rest b s' ⟨hb',rfl,hz⟩
   rcases hz with hz|⟨e0,hz⟩|⟨_,_,hz⟩
   ·cases hz
    refine wpAny_bind (wpAny_eqBool_int ?_)
    cases e:(x.1==y.1)
    ·have h':R (Except.ok (Flow.ret (Value.bool (decide (x.1<y.1))))) ⟨hp,g,d,tk,os⟩:=by
      unfold ltP at h
      rw[if_neg (by rw[e];exact zcq0)] at h
      exact h
     simp only[Bool.not_false,if_true]
     refine wpAny_bind (wpAny_rule ?_)
     refine wpAny_bind ((lt_int (Q:=_) ?_:wpAny _ _ (compareOp .Lt _ _) _ _ _))
     wp_walk
     exact⟨_,rfl,h'⟩
    ·wp_walk
     exact⟨rfl,rfl,.inr (.inl ⟨by simpa using e,rfl⟩)⟩
   ·cases hz
    refine wpAny_bind (wpAny_eqBool_int ?_)
    cases e:(x.2==y.2)
    ·have h':R (Except.ok (Flow.ret (Value.bool (decide (x.2<y.2))))) ⟨hp,g,d,tk,os⟩:=by
      unfold ltP at h
      rw[if_pos (by rw[e0];exact beq_self_eq_true _),if_neg (by rw[e];exact zcq0)] at h
      exact h
     simp only[Bool.not_false,if_true]
     refine wpAny_bind (wpAny_rule ?_)
     refine wpAny_bind ((lt_int (Q:=_) ?_:wpAny _ _ (compareOp .Lt _ _) _ _ _))
     wp_walk
     exact⟨_,rfl,h'⟩
    ·wp_walk
     exact⟨rfl,rfl,.inr (.inr ⟨e0,by simpa using e,rfl⟩)⟩
   ·cases hz
  case fin=>
   rintro⟨b1,b2⟩ s' ⟨hb',rfl,hz⟩
   simp only at hb'
   subst hb'
   rcases hz with hz|⟨e0,hz⟩|⟨e0,e1,hz⟩
   ·cases hz
   ·cases hz
   ·have h':R (Except.ok (Flow.ret (Value.bool false))) ⟨hp,g,d,tk,os⟩:=by
     unfold ltP at h
     rw[if_pos (by rw[e0];exact beq_self_eq_true _),if_pos (by rw[e1];exact beq_self_eq_true _)] at h
     exact h
    wp_walk
    exact⟨_,rfl,h'⟩
  exact⟨rfl,rfl,.inl rfl⟩
section
variable {prog:Program}{w:World}{A:Around}{E:Value->Shared->Prop}{s:Shared}
theorem zbt3 {v v':Value}{x y:Int×Int}{Q:Value->Shared->Prop}(ha:TupI s.heap v x) (hb:TupI s.heap v' y) (hu:A.units<cLine) (h:Q (.bool (ltP x y)) s):wpAny (model prog w) A (compareOp .Lt v v') Q E s:=by
 obtain⟨a,⟨cls,dd,data,sl⟩,t,u,n,rfl,ho,hc,hd⟩:=ha
 obtain⟨b,⟨cls2,dd2,data2,sl2⟩,t',u',n2,rfl,ho2,hc2,hd2⟩:=hb
 simp only at hc hd hc2 hd2
 subst hc hd hc2 hd2
 exact richCompare_meets_room (op:=.Lt) ⟨_,ho,rfl⟩ ⟨_,ho2,rfl⟩ F.slot_tuple_lt F.entry_tuple_lt (F.args_tuple_lt_2 _ _) (zbk7 a b x y t u t' u' n n2 dd dd2 sl sl2)
  ⟨ho,ho2,show Value.bool (ltP x y)≠Value.notImplemented/\Q (.bool (ltP x y)) s from ⟨(fun x=>nomatch x),h⟩⟩ hu
end
section
variable {X:Cx}{K:zcp3}{H:Hp}{Q:VK}
def pV (x:Int×Int):List V:=[.int x.1,.int x.2]
@[irreducible] def rLtA (a b:Addr) (H:Hp) (Q:VK):Prop:=∃ x y:Int×Int,H a=some (.tup (pV x))/\H b=some (.tup (pV y))/\Q (.bl (ltP x y)) H
def rLtXM:R2:=fun x y H Q=>match x,y with
 | .int i,.int j=>Q (.bl (decide (i<j))) H
 | .ref a,.ref b=>rLtA a b H Q
 | _,_=>False
theorem zbj8 {pins:List (Addr×Obj)}{σ:St}{H:Hp}{s:Shared}{a:Addr}{x:Int×Int}(I:Inv X pins σ H s) (h:H a=some (.tup (pV x))):TupI s.heap (.ref a) x:=by
 obtain⟨_,its,rv,o,h1,h2,n,h3⟩:=(show zf3 X.prog X.w H s.heap a (.tup (pV x)) from I.hok a _ h)
 unfold pV at rv
 cases rv with
 | cons r1 rv=>
  cases rv with
  | cons r2 rv=>
   cases rv
   obtain⟨t,rfl⟩:=r1
   obtain⟨u,rfl⟩:=r2
   exact⟨a,o,t,u,n,rfl,h1,h2,h3⟩
theorem oLtX (hu:X.A.units+40<cLine):OpR X (compareOp .Lt) rLtXM:=by
 intro pins s σ H x y v u Q I rx ry h
 unfold rLtXM at h
 split at h
 ·exact op_lt pins s σ H _ _ v u Q I rx ry ⟨_,_,rfl,rfl,h⟩
 ·unfold rLtA at h
  obtain⟨x,y,ea,eb,h⟩:=h
  cases rx
  cases ry
  exact zbt3 (zbj8 I ea) (zbj8 I eb) (by omega) ⟨.bl (ltP x y),H,I,rfl,h⟩
 ·exact h.elim
theorem ltP_rd {a b:Addr}{x y:Int×Int}(ha:H a=some (.tup (pV x))) (hb:H b=some (.tup (pV y))) (q:Q (.bl (ltP x y)) H):rLtA a b H Q:=by unfold rLtA;exact⟨x,y,ha,hb,q⟩
@[irreducible] def rSlX (K:zcp3) (a:Addr) (lo hi:Option Int) (H:Hp) (Q:VK):Prop:=(∃ xs,SqL K H a xs/\∀ p H',H p=none->Same H H'->H' p=some (.lst (cutV xs lo hi))->Q (.ref p) H') ∨
 ∃ xs,SqT K H a xs/\¬ (HT.sIx xs.length 0 lo=0/\HT.sIx xs.length xs.length hi=xs.length)/\∀ p H',H p=none->Same H H'->H' p=some (.tup (cutV xs lo hi))->Q (.ref p) H'
def rSlXM (K:zcp3):V->Option Int->Option Int->Hp->VK->Prop:=fun x lo hi H Q=>match x with
 | .ref a=>rSlX K a lo hi H Q
 | _=>False
theorem slX:SlR X (rSlXM X.K):=by
 intro pins s σ H x v vl vu lo hi sl Q I rx hs pl pu h
 unfold rSlXM at h
 split at h
 ·unfold rSlX at h
  rcases h with ⟨xs,h1,q⟩|⟨xs,h1,h2,q⟩
  ·exact zcg6 pins s σ H _ v vl vu lo hi sl Q I rx hs pl pu ⟨_,xs,rfl,h1,fun p hp=>q p _ hp (Same.upd hp) zc2⟩
  ·exact sl_tup pins s σ H _ v vl vu lo hi sl Q I rx hs pl pu ⟨_,xs,rfl,h1,h2,fun p hp=>q p _ hp (Same.upd hp) zc2⟩
 ·exact h.elim
theorem zai3 {a:Addr}{xs:List V}{lo hi:Option Int}(h:SqL K H a xs) (q:∀ p H',H p=none->Same H H'->H' p=some (.lst (cutV xs lo hi))->Q (.ref p) H'):rSlX K a lo hi H Q:=by unfold rSlX;exact .inl ⟨xs,h,q⟩
theorem zbx9 {a:Addr}{x y z:V}(h:H a=some (.tup [x,y,z])) (q:∀ p H',H p=none->Same H H'->H' p=some (.tup [x,y])->Q (.ref p) H'):rSlX K a none (some 2) H Q:=by
 unfold rSlX
 exact .inr ⟨[x,y,z],SqT.of h,(by decide:¬ (HT.sIx 3 0 none=0/\HT.sIx 3 3 (some 2)=3)),q⟩
theorem zak0 (hK:X.K=K) (hu:X.A.units+40<cLine):OpR X (compareOp .Eq) (zbp5 K):=by subst hK;exact oEqX hu
theorem zaw4 (hK:X.K=K) (hu:X.A.units+40<cLine):OpR X (compareOp .NotEq) (rNeXM K):=by subst hK;exact oNeX hu
theorem slXK (hK:X.K=K):SlR X (rSlXM K):=by subst hK;exact slX
def rIsXM:R2:=fun x y H Q=>match x,y with
 | .bl i,.bl j=>Q (.bl (decide (i=j))) H
 | x,.non=>Q (.bl (decide (x=.non))) H
 | _,_=>False
def zaz8:R2:=fun x y H Q=>match x,y with
 | .bl i,.bl j=>Q (.bl (!decide (i=j))) H
 | x,.non=>Q (.bl (!decide (x=.non))) H
 | _,_=>False
theorem zaj6 (i j:Bool):isSame (.bool i) (.bool j)=pure (decide (i=j)):=by cases i<;>cases j<;>rfl
theorem oIsX:OpR X (compareOp .Is) rIsXM:=by
 intro pins s σ H x y v u Q I rx ry h
 unfold rIsXM at h
 split at h
 ·rename_i i j
  cases (show v=Value.bool i from rx)
  cases (show u=Value.bool j from ry)
  show wpAny _ _ (isSame (.bool i) (.bool j) >>= fun b=>pure (Value.bool b)) _ _ s
  rw[zaj6]
  exact wpAny_bind (wpAny_pure (wpAny_pure ⟨.bl (decide (i=j)),H,I,rfl,h⟩))
 ·exact op_isN pins s σ H _ _ v u Q I rx ry ⟨rfl,h⟩
 ·exact h.elim
theorem zce7:OpR X (compareOp .IsNot) zaz8:=by
 intro pins s σ H x y v u Q I rx ry h
 unfold zaz8 at h
 split at h
 ·rename_i i j
  cases (show v=Value.bool i from rx)
  cases (show u=Value.bool j from ry)
  show wpAny _ _ (isSame (.bool i) (.bool j) >>= fun b=>pure (Value.bool (!b))) _ _ s
  rw[zaj6]
  exact wpAny_bind (wpAny_pure (wpAny_pure ⟨.bl (!decide (i=j)),H,I,rfl,h⟩))
 ·exact zcg5 pins s σ H _ _ v u Q I rx ry ⟨rfl,h⟩
 ·exact h.elim
theorem Wk.zipN {a b:Addr}{xs ys:List V}{n:Nat}{H1:Hp}(h:SqL K H1 a xs) (h':SqL K H1 b ys) (hx:n<=xs.length) (hy:n<=ys.length) (hn:xs.length=n∨ys.length=n):Wk (Itz K a b) n H1 fun i v H=>∃ p x y,v=.ref p/\H p=some (.tup [x,y])/\xs[i]?=some x/\ys[i]?=some y:=
 ⟨fun i H s hi=>⟨xs,ys,xs[i],ys[i],s.seq h,s.seq h',by simp,by simp⟩,fun H s=>⟨xs,ys,s.seq h,s.seq h',by omega⟩,fun i H v H' s _ y=>by
  obtain⟨p,x,y,rfl,y1,y2,y3,y4,y5⟩:=y
  exact⟨y2,p,x,y,rfl,y3,y4 xs (s.seq h),y5 ys (s.seq h')⟩⟩
end
end L2
set_option maxHeartbeats 4000000
namespace L2
open PySem PySem.Spec PyProof.Rows PySem.W
section
variable {X:Cx}
end
section
variable {X:Cx}{K:zcp3}{H:Hp}{Q:VK}
end
end L2
set_option maxHeartbeats 2000000
namespace L2
open PySem PySem.Spec PyProof.Rows
section
variable {X:Cx}{K:zcp3}
end
end L2
set_option maxHeartbeats 4000000
namespace L2
open PySem PySem.Spec PyProof.Rows PySem.W
section
variable {prog:Program}{w:World}{A:Around}{E:Value->Shared->Prop}{s:Shared}
end
section
variable {X:Cx}{K:zcp3}{H:Hp}{Q:VK}
end
end L2
namespace L2
end L2
set_option maxHeartbeats 2000000
namespace L2
open PySem PySem.Spec PyProof.Rows PySem.W
section
variable {X:Cx}{K:zcp3}
@[irreducible] def rMaxL (K:zcp3) (p:Addr) (H:Hp) (Q:VK):Prop:=∃ ns:List Int,SqL K H p (ns.map V.int)/\0<ns.length/\∀ M:Int,M∈ns->(∀ a∈ns,a<=M)->Q (.int M) H
def zbz0 (K:zcp3):List V->Hp->VK->Prop:=fun xs H Q=>match xs with
 | [.ref p]=>rMaxL K p H Q
 | [.int i,.int j]=>Q (.int (if j>i then j else i)) H
 | _=>False
theorem cMaxK (hK:X.K=K) (hc:X.calm=true):zn5 X (.builtin "max") (zbz0 K):=by
 subst hK
 intro pins s σ H xs us Q I r h
 unfold zbz0 at h
 split at h
 ·unfold rMaxL at h
  obtain⟨ns,h1,h2,h3⟩:=h
  obtain⟨u,rfl,rx⟩:=zaa4 r
  cases rx
  obtain⟨its,r',pl,hz⟩:=I.list h1
  have hi:=zz2 r'
  obtain⟨ys,hx⟩:=hi.allInts.items
  have e1:ns=ys.toList.map (·.1):=by
   rw[← nums_intItems,← hx]
   exact (show numsOf its.toArray.toList=ns from hi.numsOf).symm
  have hs:0<ys.size:=by
   have z:ns.length=ys.size:=by
    conv=>lhs;rw[e1]
    rw[zcp2,Array.length_toList]
   omega
  have hl':s.heap.IsList _ (intItems ys):=hx▸pl.isList
  refine max_intList (I.ok.hd hc) hl' hs fun v h' tk hv hk=>?_
  obtain⟨t,rfl⟩:=intItems_at hv
  have best:=argBest_gt (numAt ys) (ys.size - 1)
  refine⟨.int _,H,I.kept hk,⟨t,rfl⟩,h3 _ ?_ fun a ha=>?_⟩
  ·rw[e1,numAt_eq]
   exact getD_mem (by rw[zcp2,Array.length_toList];omega)
  ·rw[e1] at ha
   obtain⟨j,hj,rfl⟩:=mem_getD ha
   rw[zcp2,Array.length_toList] at hj
   rw[← numAt_eq]
   exact best.2 j (by omega)
 ·exact zbr7 hc pins s σ H _ us Q I r ⟨_,_,rfl,h⟩
 ·exact h.elim
theorem zcb5 {p:Addr}{H:Hp}{Q:VK}{ns:List Int}(h:SqL K H p (ns.map V.int)) (h0:0<ns.length) (q:∀ M:Int,M∈ns->(∀ a∈ns,a<=M)->Q (.int M) H):rMaxL K p H Q:=by unfold rMaxL;exact⟨ns,h,h0,q⟩
end
section
variable {prog:Program}{w:World}{A:Around}{E:Value->Shared->Prop}{s:Shared}
theorem zaf0:isSubtype (.type "range_iterator") (.type "reversed")=pure false:=by rw[isSubtype_type];kernel_rfl
abbrev revR (n:Int):Obj:={ cls:=.type "range_iterator",data:=.fields #[rawInt (n - 1),rawInt n,rawInt (-1)] }
theorem zbs0 (r:Addr) (n:Int) (t u v:Tok) (h0:0<=n) (h1:n<=10000) :
  Meets (Builtin.«range.__reversed__» ⟨[.ref r],[]⟩) (fun _ R s=>s.heap.get? r=some { cls:=.type "range",dict:=none,data:=.fields #[.int 0 t,.int n u,.int 1 v],slots:=#[] }/\R (.ok (.ret (Value.ref s.heap.objs.size))) { s with heap:=s.heap.push (revR n),toks:=s.toks }):=
 .of_wp fun prog w A R s h=>by
  obtain⟨hp,g,d,tk,os⟩:=s
  obtain⟨hl,h⟩:=h
  have e1:Builtin.Range.rangeSize 0 n 1=n:=by
   unfold Builtin.Range.rangeSize
   rw[if_pos (by decide)]
   split<;>omega
  have e2:(Builtin.Range.rangeFitsLong 0&&Builtin.Range.rangeFitsLong n&&Builtin.Range.rangeFitsLong 1&&Builtin.Range.rangeFitsLong (-1)&&Builtin.Range.rangeFitsLong (0 - 1)&&Builtin.Range.rangeFitsLong n)=true:=by
   simp only[Builtin.Range.rangeFitsLong,zcr6,decide_eq_true_eq]
   omega
  have hc0:¬ (!(Builtin.Range.rangeFitsLong 0&&Builtin.Range.rangeFitsLong n&&Builtin.Range.rangeFitsLong 1&&Builtin.Range.rangeFitsLong (-1)&&Builtin.Range.rangeFitsLong (0 - 1)&&Builtin.Range.rangeFitsLong (Builtin.Range.rangeSize 0 n 1)))=true:=by rw[e1,e2];decide
  have e3:revR n={ cls:=.type (if (Builtin.Range.rangeFitsLong 0&&Builtin.Range.rangeFitsLong n&&Builtin.Range.rangeFitsLong 1&&Builtin.Range.rangeFitsLong (-1)&&Builtin.Range.rangeFitsLong (0 - 1)&&Builtin.Range.rangeFitsLong (Builtin.Range.rangeSize 0 n 1))=true then "range_iterator" else "longrange_iterator"),data:=.fields #[rawInt (0+(Builtin.Range.rangeSize 0 n 1 - 1)*1),rawInt (Builtin.Range.rangeSize 0 n 1),rawInt (-1)] }:=by
   rw[e1,e2,if_pos rfl,show (0:Int)+(n - 1)*1=n - 1 by omega]
  rw[e3] at h
  wp_walk
  simp only[if_neg hc0]
  show wpAny (model prog w) A.in1 _ (fun fin s'=>∃ v,fin=Fin.done (Flow.ret v)/\R (Except.ok (Flow.ret v)) s') (fun e s'=>R (Except.error e) s') ⟨hp,g,d,tk,os⟩
  wp_walk
  exact⟨_,rfl,h⟩
theorem zag9 {r:Addr}{n:Int}{t u v:Tok}{Q₁:Value->Shared->Prop}(hr:IsRange s.heap r 0 n 1 t u v) (h0:0<=n) (h1:n<=10000) (h:Q₁ (.ref s.heap.objs.size) { s with heap:=s.heap.push (revR n) }) :
  codeAny (model prog w) A (.call (.builtin "reversed.__new__") ⟨[.type "reversed",.ref r],[]⟩) (wants Q₁ E) s:=by
 have hT:s.TypeIs (.ref r) "range":=⟨_,hr,rfl⟩
 refine codeAny_of_tree ?_
 show wpAny _ A.in1 (do checkBuiltinCall "reversed.__new__" ⟨[.type "reversed",.ref r],[]⟩;again (.builtin "reversed.__new__" ⟨[.type "reversed",.ref r],[]⟩)) _ _ s
 refine wpAny_bind (wpAny_of_eq (F.newCall_reversed_1 _) (wpAny_pure ⟨plainId_quiet F.plain_reversed_new _,codeAny_builtin F.entry_reversed_new ?_⟩))
 rw[Around.under_plainId F.plain_reversed_new _]
 unfold Builtin.«reversed.__new__»
 refine wpAny_bind (wpAny_of_eq (newClass_reversed _) ?_)
 try dsimp only
 refine wpAny_bind (wpAny_of_eq (a:=()) (by first|rfl|kernel_rfl) ?_)
 refine wpAny_bind (wpAny_of_eq (a:=()) (by first|rfl|kernel_rfl) ?_)
 try dsimp only
 refine wpAny_bind (wpAny_specialOf hT F.slot_range_reversed.lookup ?_)
 try dsimp only
 refine wpAny_bind (wpAny_of_eq (F.slot_range_reversed.bind _) ?_)
 try dsimp only
 first
  | rw[if_neg (show ¬ ((Value.builtin "range.__reversed__"==Value.none)=true) from zcq0)]
  | (show wpAny _ _ (if (Value.builtin "range.__reversed__"==Value.none)=true then _ else _) _ _ _;rw[if_neg (show ¬ ((Value.builtin "range.__reversed__"==Value.none)=true) from zcq0)])
 refine wpAny_bind (wpAny_rule ?_)
 refine wpAny_bind (m:=runValue (.call (.builtin "range.__reversed__") ⟨[.ref r],[]⟩)) (show wpAny _ _ (call (.builtin "range.__reversed__") [.ref r]) _ _ _ from call_meets F.slot_range_reversed hT F.entry_range_reversed (F.args_range_reversed_1 _) (zbs0 r n t u v h0 h1) ⟨hr,?_⟩)
 first
  | exact wpAny_pure h
  | exact wpAny_bind (wpAny_pure (wpAny_pure h))
theorem zai1 {r:Addr}{n:Int}{t u v:Tok}{Q:Value->Shared->Prop}(hr:IsRange s.heap r 0 n 1 t u v) (h0:0<=n) (h1:n<=10000) (h:Q (.ref s.heap.objs.size) { s with heap:=s.heap.push (revR n) }):wpAny (model prog w) A (call (.type "reversed") [.ref r]) Q E s:=by
 refine callType_other (U:="range_iterator") (Q₁:=fun obj s₁=>obj=.ref s.heap.objs.size/\s₁={ s with heap:=s.heap.push (revR n) }) (by decide +kernel) F.create_reversed ⟨_,_,F.mro_reversed⟩ F.made_reversed zaf0 (F.typeCall_reversed_1 _) (zag9 hr h0 h1 ⟨rfl,rfl⟩) ?_
 rintro obj s₁ ⟨rfl,rfl⟩
 exact⟨⟨_,zcs3 _ rfl,rfl⟩,h⟩
end
section
variable {X:Cx}{K:zcp3}{tg:Expr}
@[irreducible] def rRevR (n:Int) (H:Hp) (R:It->Hp->Prop):Prop:=0<=n/\n<=10000/\R (Itd (n - 1) n.toNat) H
def qiRevR (ta:TA):TI:=fun σ H R=>ta σ H fun vs H1=>match vs with
 | [.int n]=>rRevR n H1 R
 | _=>False
theorem piRevR {a:Expr}{ta:TA}{p p2 pos pos2:Pos}(hl:X.mg "reversed"=none) (hm:X.mg "range"=none) (ha:PA X [a] ta) (hg:Gl X "range":=by rfl) (hg2:Gl X "reversed":=by rfl) (hs:starEach [a] X.env=[(false,eval a X.env)]:=by rfl)
  (he:starEach [.Call (.Name "range" p2) [a] [] pos2] X.env=[(false,eval (.Call (.Name "range" p2) [a] [] pos2) X.env)]:=by rfl) :
  PI X tg (.Call (.Name "reversed" p) [.Call (.Name "range" p2) [a] [] pos2] [] pos) (qiRevR ta):=by
 intro pins s σ H R I h
 refine Call_ (zaa0 I hg2 hl boot_reversed ?_)
 refine PyProof.Rows.callWith_type1 ?_ (by rw[he];rfl) rfl
 rw[he]
 show wpAny _ _ (spliced ((false,eval (.Call (.Name "range" p2) [a] [] pos2) X.env) :: [])) _ _ s
 refine Calls.spliced_cons ?_
 refine Call_ (zaa0 I hg hm boot_range (PyProof.Rows.callWith_type1 (thn (ha pos2 pins s σ H _ I h) fun us s1 ⟨vs,H1,I1,r1,q1⟩=>?_) hs rfl))
 dsimp only at q1
 split at q1
 ·rename_i n
  unfold rRevR at q1
  obtain⟨j0,j1,q⟩:=q1
  obtain⟨u,rfl,rx⟩:=zaa4 r1
  obtain⟨t,rfl⟩:=rx
  refine call_range_1 (Calls.spliced_nil ?_)
  refine zai1 (IsRange.new ..) j0 j1 ?_
  have I2:Inv X pins σ H1 { s1 with heap:=s1.heap.push { cls:=.type "range",data:=.fields #[.int 0 s1.toks,.int n t,.int 1 (s1.toks+1)] },toks:=s1.toks+1+1 }:=I1.kept fun b o e=>zcp8 _ e
  have st:IsRangeIter ((s1.heap.push { cls:=.type "range",data:=.fields #[.int 0 s1.toks,.int n t,.int 1 (s1.toks+1)] }).push (revR n)) (s1.heap.push { cls:=.type "range",data:=.fields #[.int 0 s1.toks,.int n t,.int 1 (s1.toks+1)] }).objs.size (n - 1) n (-1):=zcs3 _ rfl
  refine wpAny_pyIter_rangeiter st ?_
  refine⟨_,[(s1.heap.push { cls:=.type "range",data:=.fields #[.int 0 s1.toks,.int n t,.int 1 (s1.toks+1)] }).objs.size],_,_,H1,rfl,
   I2.kept (t':=s1.toks+1+1) fun b o e=>zcp8 _ e,zaz6 _ (n - 1) n.toNat,?_,fun b hb=>?_,q⟩
  ·show IsRangeIter _ _ (n - 1+((0:Nat):Int)*(-1)) (((n.toNat:Nat):Int) - ((0:Nat):Int)) (-1)
   rw[show n - 1+((0:Nat):Int)*(-1)=n - 1 by omega,show ((n.toNat:Nat):Int) - ((0:Nat):Int)=n by omega]
   exact st
  ·have e:b=(s1.heap.push { cls:=.type "range",data:=.fields #[.int 0 s1.toks,.int n t,.int 1 (s1.toks+1)] }).objs.size:=by simpa using hb
   subst e
   exact I2.fpOk (zcq9 _) (I2.hok.fresh (zcq9 _))
 ·exact q1.elim
theorem zcb9 {n:Int}{H:Hp}{R:It->Hp->Prop}(h0:0<=n) (h1:n<=10000) (q:R (Itd (n - 1) n.toNat) H):rRevR n H R:=by unfold rRevR;exact⟨h0,h1,q⟩
end
end L2
set_option maxHeartbeats 1000000
namespace G
open PySem L2
def top (i:Nat):Stmt:=PySem.Challenge.pw_hostfields_k33_whole_two_papers_one_wort.main.body.getD i (.Pass ⟨0,0,0,0⟩)
abbrev zo9:Stmt:=top 10
theorem zaz4:zb4 ["thing"] ["thing"] (za3 zo9):=⟨rfl,rfl,rfl,by decide +kernel,rfl,by decide +kernel,by decide +kernel⟩
abbrev zr4:Stmt:=top 11
theorem zbf5:zb4 ["thing","least"] ["thing","least"] (za3 zr4):=⟨rfl,rfl,rfl,by decide +kernel,rfl,by decide +kernel,by decide +kernel⟩
abbrev zk9:Stmt:=top 12
theorem zan7:zb4 ["thing","least","most"] ["thing","least","most"] (za3 zk9):=⟨rfl,rfl,rfl,by decide +kernel,rfl,by decide +kernel,by decide +kernel⟩
abbrev zi5:Stmt:=top 16
theorem zq6:zb4 ["battle","number","field"] ["battle"] (za3 zi5):=⟨rfl,rfl,rfl,by decide +kernel,rfl,by decide +kernel,by decide +kernel⟩
abbrev zo3:Stmt:=top 17
theorem zax7:zb4 ["battle"] ["battle"] (za3 zo3):=⟨rfl,rfl,rfl,by decide +kernel,rfl,by decide +kernel,by decide +kernel⟩
abbrev zm1:Stmt:=top 18
theorem zap8:zb4 ["first","second"] ["first","second"] (za3 zm1):=⟨rfl,rfl,rfl,by decide +kernel,rfl,by decide +kernel,by decide +kernel⟩
abbrev zp0:Stmt:=top 19
theorem zay4:zb4 ["first","second","field"] ["first","second","field"] (za3 zp0):=⟨rfl,rfl,rfl,by decide +kernel,rfl,by decide +kernel,by decide +kernel⟩
abbrev zo6:Stmt:=top 20
theorem zav8:zb4 ["many_rows","many_numbers","rows"] ["many_rows","many_numbers","rows"] (za3 zo6):=⟨rfl,rfl,rfl,by decide +kernel,rfl,by decide +kernel,by decide +kernel⟩
abbrev zg5:Stmt:=top 21
theorem zab8:zb4 ["many_numbers","row"] ["many_numbers","row"] (za3 zg5):=⟨rfl,rfl,rfl,by decide +kernel,rfl,by decide +kernel,by decide +kernel⟩
abbrev zbg6:Stmt:=top 22
theorem sc_won:zb4 ["field","x","y"] ["field","x","y"] (za3 zbg6):=⟨rfl,rfl,rfl,by decide +kernel,rfl,by decide +kernel,by decide +kernel⟩
abbrev zm9:Stmt:=top 24
theorem zt0:zb4 ["hosts","fields","stream","comes_full","goes_empty"] ["hosts","fields","stream"] (za3 zm9):=⟨rfl,rfl,rfl,by decide +kernel,rfl,by decide +kernel,by decide +kernel⟩
abbrev zt7:Stmt:=top 25
theorem zbl8:zb4 ["stream"] ["stream"] (za3 zt7):=⟨rfl,rfl,rfl,by decide +kernel,rfl,by decide +kernel,by decide +kernel⟩
abbrev zt6:Stmt:=top 26
theorem zbr8:zb4 ["row"] ["row"] (za3 zt6):=⟨rfl,rfl,rfl,by decide +kernel,rfl,by decide +kernel,by decide +kernel⟩
abbrev zr2:Stmt:=top 27
theorem zbd9:zb4 ["thing"] ["thing"] (za3 zr2):=⟨rfl,rfl,rfl,by decide +kernel,rfl,by decide +kernel,by decide +kernel⟩
abbrev zz4:Stmt:=top 28
theorem zaz9:zb4 ["ahead","row","leaving"] ["ahead","row"] (za3 zz4):=⟨rfl,rfl,rfl,by decide +kernel,rfl,by decide +kernel,by decide +kernel⟩
abbrev zt9:Stmt:=top 29
theorem zx2:zb4 ["pairs","sums","key","amount"] ["pairs"] (za3 zt9):=⟨rfl,rfl,rfl,by decide +kernel,rfl,by decide +kernel,by decide +kernel⟩
abbrev zo7:Stmt:=top 30
theorem zax9:zb4 ["stream"] ["stream"] (za3 zo7):=⟨rfl,rfl,rfl,by decide +kernel,rfl,by decide +kernel,by decide +kernel⟩
abbrev zm2:Stmt:=top 32
theorem zat0:zb4 ["side"] ["side"] (za3 zm2):=⟨rfl,rfl,rfl,by decide +kernel,rfl,by decide +kernel,by decide +kernel⟩
abbrev zn0:Stmt:=top 33
theorem zap9:zb4 ["battle","side"] ["battle","side"] (za3 zn0):=⟨rfl,rfl,rfl,by decide +kernel,rfl,by decide +kernel,by decide +kernel⟩
abbrev zi7:Stmt:=top 34
theorem zag8:zb4 ["battle","side"] ["battle","side"] (za3 zi7):=⟨rfl,rfl,rfl,by decide +kernel,rfl,by decide +kernel,by decide +kernel⟩
abbrev zaj2:Stmt:=top 35
theorem zbm3:zb4 ["battle","side","stream","most"] ["battle","side","stream"] (za3 zaj2):=⟨rfl,rfl,rfl,by decide +kernel,rfl,by decide +kernel,by decide +kernel⟩
abbrev zo2:Stmt:=top 36
theorem zax5:zb4 ["field","side","row","most"] ["field","side","row","most"] (za3 zo2):=⟨rfl,rfl,rfl,by decide +kernel,rfl,by decide +kernel,by decide +kernel⟩
abbrev zbg9:Stmt:=top 37
theorem sc_due:zb4 ["field","side","row","count"] ["field","side","row","count"] (za3 zbg9):=⟨rfl,rfl,rfl,by decide +kernel,rfl,by decide +kernel,by decide +kernel⟩
abbrev zu3:Stmt:=top 38
theorem zbq0:zb4 ["field_dues","behind","count"] ["field_dues","behind","count"] (za3 zu3):=⟨rfl,rfl,rfl,by decide +kernel,rfl,by decide +kernel,by decide +kernel⟩
abbrev zu1:Stmt:=top 40
theorem zw5:zb4 ["battle","side","worth","paper","wrong"] ["battle","side","worth","paper"] (za3 zu1):=⟨rfl,rfl,rfl,by decide +kernel,rfl,by decide +kernel,by decide +kernel⟩
abbrev zk3:Stmt:=top 41
theorem zw6:zb4 ["battle","side","paper","fields"] ["battle","side","paper"] (za3 zk3):=⟨rfl,rfl,rfl,by decide +kernel,rfl,by decide +kernel,by decide +kernel⟩
abbrev zg8:Stmt:=top 42
theorem zd9:zb4 ["battle","side","paper","table","field","field_dues","behind","count","number"] ["battle","side","paper"] (za3 zg8):=⟨rfl,rfl,rfl,by decide +kernel,rfl,by decide +kernel,by decide +kernel⟩
abbrev zz0:Stmt:=top 43
theorem zbr9:zb4 ["side","number","bound"] ["side","number","bound"] (za3 zz0):=⟨rfl,rfl,rfl,by decide +kernel,rfl,by decide +kernel,by decide +kernel⟩
abbrev zi3:Stmt:=top 44
theorem zv7:zb4 ["battle","side","worth","paper","shown"] ["battle","side","worth","paper"] (za3 zi3):=⟨rfl,rfl,rfl,by decide +kernel,rfl,by decide +kernel,by decide +kernel⟩
abbrev zo5:Stmt:=top 46
theorem zac6:zb4 ["_law_number","_law_k","_law_mixed"] ["_law_number","_law_k"] (za3 zo5):=⟨rfl,rfl,rfl,by decide +kernel,rfl,by decide +kernel,by decide +kernel⟩
abbrev zg6:Stmt:=top 47
theorem zac5:zb4 ["_law_script","_law_k"] ["_law_script","_law_k"] (za3 zg6):=⟨rfl,rfl,rfl,by decide +kernel,rfl,by decide +kernel,by decide +kernel⟩
abbrev zm6:Stmt:=top 48
theorem zaa3:zb4 ["_law_script","_law_k","_law_cell"] ["_law_script","_law_k"] (za3 zm6):=⟨rfl,rfl,rfl,by decide +kernel,rfl,by decide +kernel,by decide +kernel⟩
abbrev zl8:Stmt:=top 49
theorem zs8:zb4 ["_law_left_here","_law_base","_law_mixed","_law_digit"] ["_law_left_here","_law_base"] (za3 zl8):=⟨rfl,rfl,rfl,by decide +kernel,rfl,by decide +kernel,by decide +kernel⟩
abbrev zl9:Stmt:=top 50
theorem zaa2:zb4 ["_law_left_here","_law_far"] ["_law_left_here"] (za3 zl9):=⟨rfl,rfl,rfl,by decide +kernel,rfl,by decide +kernel,by decide +kernel⟩
abbrev zm3:Stmt:=top 51
theorem zs3:zb4 ["_law_left_here","_law_first","_law_second","_law_kind","_law_worth"] ["_law_left_here","_law_first","_law_second"] (za3 zm3):=⟨rfl,rfl,rfl,by decide +kernel,rfl,by decide +kernel,by decide +kernel⟩
abbrev zi4:Stmt:=top 52
theorem zq5:zb4 ["_law_left_here","_law_most","_law_fields","_law_first","_law_second"] ["_law_left_here","_law_most","_law_fields"] (za3 zi4):=⟨rfl,rfl,rfl,by decide +kernel,rfl,by decide +kernel,by decide +kernel⟩
abbrev zm4:Stmt:=top 53
theorem zz9:zb4 ["_law_thing"] ["_law_thing"] (za3 zm4):=⟨rfl,rfl,rfl,by decide +kernel,rfl,by decide +kernel,by decide +kernel⟩
abbrev zm0:Stmt:=top 54
theorem zas4:zb4 ["_law_field","_law_x","_law_y"] ["_law_field","_law_x","_law_y"] (za3 zm0):=⟨rfl,rfl,rfl,by decide +kernel,rfl,by decide +kernel,by decide +kernel⟩
abbrev zl7:Stmt:=top 55
theorem zk4:zb4 ["_law_left_here","_law_hosts","_law_many","_law_plan_here","_law_rest","_law_k","_law_at"] ["_law_left_here","_law_hosts","_law_many"] (za3 zl7):=⟨rfl,rfl,rfl,by decide +kernel,rfl,by decide +kernel,by decide +kernel⟩
abbrev zl0:Stmt:=top 56
theorem zi8:zb4 ["_law_mix_here","_law_flows_here","_law_plan_here","_law_weight","_law_k","_law_spot"] ["_law_mix_here"] (za3 zl0):=⟨rfl,rfl,rfl,by decide +kernel,rfl,by decide +kernel,by decide +kernel⟩
abbrev zi2:Stmt:=top 57
theorem zq3:zb4 ["_law_left_here","_law_hosts","_law_many","_law_mix_here","_law_k"] ["_law_left_here","_law_hosts","_law_many"] (za3 zi2):=⟨rfl,rfl,rfl,by decide +kernel,rfl,by decide +kernel,by decide +kernel⟩
abbrev zj0:Stmt:=top 58
theorem zn1:zb4 ["_law_top","_law_bottom","_law_one","_law_other"] ["_law_top","_law_bottom"] (za3 zj0):=⟨rfl,rfl,rfl,by decide +kernel,rfl,by decide +kernel,by decide +kernel⟩
abbrev zm5:Stmt:=top 59
theorem zd0:zb4 ["_law_battle_here","_law_side","_law_stream_here","_law_found","_law_k","_law_some_here","_law_count","_law_total","_law_rest","_law_sent","_law_flow","_law_x","_law_y"] ["_law_battle_here","_law_side","_law_stream_here"] (za3 zm5):=⟨rfl,rfl,rfl,by decide +kernel,rfl,by decide +kernel,by decide +kernel⟩
abbrev zk6:Stmt:=top 60
theorem zal9:zb4 ["_law_owed","_law_table_here","_law_k","_law_rest"] ["_law_owed","_law_table_here","_law_k","_law_rest"] (za3 zk6):=⟨rfl,rfl,rfl,by decide +kernel,rfl,by decide +kernel,by decide +kernel⟩
abbrev zk8:Stmt:=top 61
theorem zi6:zb4 ["_law_battle_here","_law_side","_law_stream_here","_law_owed","_law_table_here","_law_k","_law_rest","_law_some_here"] ["_law_battle_here","_law_side","_law_stream_here"] (za3 zk8):=⟨rfl,rfl,rfl,by decide +kernel,rfl,by decide +kernel,by decide +kernel⟩
abbrev zg7:Stmt:=top 62
theorem zp5:zb4 ["_law_battle_here","_law_side","_law_paper","_law_caught","e"] ["_law_battle_here","_law_side","_law_paper"] (za3 zg7):=⟨rfl,rfl,rfl,by decide +kernel,rfl,by decide +kernel,by decide +kernel⟩
abbrev zan2:Stmt:=top 63
theorem zp8:zb4 ["_law_script","_law_cell","_law_left_here","_law_battle_here","_law_papers","_law_worths","_law_side","_law_stream_here","_law_word","_law_handed","_law_other","_law_told","_law_text"] ["_law_script"] (za3 zan2):=⟨rfl,rfl,rfl,by decide +kernel,rfl,by decide +kernel,by decide +kernel⟩
abbrev zk2:Stmt:=zcd3 (top 2) 0
theorem zan0:zb4 ["self","field"] ["self","field"] (za3 zk2):=⟨rfl,rfl,rfl,by decide +kernel,rfl,by decide +kernel,by decide +kernel⟩
theorem zz6 {P:Program}{w:World}{K:zcp3}{mg:Str->Option Value}{base:Heap}{C aH f:Addr}(F:IniF K "NoBattle.__init__" zk2 f "field") (Z:IniK K C aH f "field"):IniOk P w K mg base C f "field":=by
 obtain⟨fd,F,hb⟩:=F
 refine⟨_,fd,F.ok zan0 (fun vs H Q E h=>by unfold zy3 at h;obtain⟨_,_,rfl,_⟩:=h;rfl) (fun cdv A outer s H vs Q E hr h=>?_),hb⟩
 unfold zy3 at h
 obtain⟨e,v,rfl,he,q⟩:=h
 refine⟨_,(za5 (psFldX (K:=K) rfl Z (pq 0) (pq 1))),?_⟩
 (conv=>whnf)
 exact zcg4 he q
theorem nb_0:(["number"]:List Str).Nodup:=by decide +kernel
theorem nb_1:(["row","many_numbers"]:List Str).Nodup:=by decide +kernel
theorem nb_2:(["thing"]:List Str).Nodup:=by decide +kernel
theorem nb_3:(["one","other"]:List Str).Nodup:=by decide +kernel
theorem nb_4:(["left","sent","flow"]:List Str).Nodup:=by decide +kernel
theorem nb_5:(["row"]:List Str).Nodup:=by decide +kernel
theorem nb_6:(["left","sent","flow","hosts"]:List Str).Nodup:=by decide +kernel
theorem nb_7:(["left","sent","flow"]:List Str).Nodup:=by decide +kernel
theorem nb_8:(["ahead","row"]:List Str).Nodup:=by decide +kernel
theorem nb_9:(["left","sent","flow"]:List Str).Nodup:=by decide +kernel
theorem zbe6:(["left","sent","flow","field","count"]:List Str).Nodup:=by decide +kernel
theorem nb_11:(["count","field","side","row"]:List Str).Nodup:=by decide +kernel
theorem nb_12:(["field","row","side","most"]:List Str).Nodup:=by decide +kernel
theorem nb_13:(["sent","field_dues","behind","count"]:List Str).Nodup:=by decide +kernel
theorem nb_14:(["bound","side","number"]:List Str).Nodup:=by decide +kernel
theorem nb_15:(["_law_x","_law_second","_law_left_here"]:List Str).Nodup:=by decide +kernel
theorem nb_16:(["_law_y","_law_left_here"]:List Str).Nodup:=by decide +kernel
theorem nb_17:(["_law_k","_law_left_here","_law_first","_law_second"]:List Str).Nodup:=by decide +kernel
theorem nb_18:(["_law_part"]:List Str).Nodup:=by decide +kernel
theorem nb_19:(["_law_place"]:List Str).Nodup:=by decide +kernel
theorem nb_20:(["_law_flow"]:List Str).Nodup:=by decide +kernel
theorem nb_21:(["_law_rest","_law_sent","_law_flow"]:List Str).Nodup:=by decide +kernel
theorem nb_22:(["_law_sent","_law_owed","_law_k","_law_table_here","_law_rest"]:List Str).Nodup:=by decide +kernel
theorem nb_23:(["_law_row"]:List Str).Nodup:=by decide +kernel
theorem nb_24:(["_law_part"]:List Str).Nodup:=by decide +kernel
structure Cz (K:zcp3) (mg:Str->Option Value) (base:Heap) (zci9 zci6 zcj3 zcj7 zcj0 zci7 zcj2 zcj1 zcj6:Addr):Prop where
 g_HostError:mg "HostError"=some (.ref zci9)
 g_NoBattle:mg "NoBattle"=some (.ref zci6)
 g_NoPlan:mg "NoPlan"=some (.ref zcj3)
 g_NoMix:mg "NoMix"=some (.ref zcj7)
 g_NoStream:mg "NoStream"=some (.ref zcj0)
 g_NoSide:mg "NoSide"=some (.ref zci7)
 g_NoAlike:mg "NoAlike"=some (.ref zcj2)
 g_NoNumber:mg "NoNumber"=some (.ref zcj1)
 z_NoBattle:IniK K zci6 zci9 zcj6 "field"
 fi_NoBattle:IniF K "NoBattle.__init__" zk2 zcj6 "field"
 hd_NoBattle:PySem.W.hasDictIn K zci6=true
 k_NoBattle:ExcK K zci6
 c_NoBattle:(zct5 K zci6).isSome=true
 m_NoBattle:PySem.W.exmOne K (.ref zci6) (.ref zci9)=some true
 v_NoBattle:zcr1 K (.ref zci6) (.type "ValueError")=some true
 i_NoBattle_HostError:zcr1 K (.ref zci6) (.ref zci9)=some true
 i_NoBattle_NoBattle:zcr1 K (.ref zci6) (.ref zci6)=some true
 i_NoBattle_NoPlan:zcr1 K (.ref zci6) (.ref zcj3)=some false
 i_NoBattle_NoMix:zcr1 K (.ref zci6) (.ref zcj7)=some false
 i_NoBattle_NoStream:zcr1 K (.ref zci6) (.ref zcj0)=some false
 i_NoBattle_NoSide:zcr1 K (.ref zci6) (.ref zci7)=some false
 i_NoBattle_NoAlike:zcr1 K (.ref zci6) (.ref zcj2)=some false
 i_NoBattle_NoNumber:zcr1 K (.ref zci6) (.ref zcj1)=some false
 o_NoSide:PyProof.Rows.OwnCls "NoSide" zci7 bmV newV mg base
 k_NoSide:ExcK K zci7
 c_NoSide:(zct5 K zci7).isSome=true
 m_NoSide:PySem.W.exmOne K (.ref zci7) (.ref zci9)=some true
 v_NoSide:zcr1 K (.ref zci7) (.type "ValueError")=some true
 i_NoSide_HostError:zcr1 K (.ref zci7) (.ref zci9)=some true
 i_NoSide_NoBattle:zcr1 K (.ref zci7) (.ref zci6)=some false
 i_NoSide_NoPlan:zcr1 K (.ref zci7) (.ref zcj3)=some false
 i_NoSide_NoMix:zcr1 K (.ref zci7) (.ref zcj7)=some false
 i_NoSide_NoStream:zcr1 K (.ref zci7) (.ref zcj0)=some false
 i_NoSide_NoSide:zcr1 K (.ref zci7) (.ref zci7)=some true
 i_NoSide_NoAlike:zcr1 K (.ref zci7) (.ref zcj2)=some false
 i_NoSide_NoNumber:zcr1 K (.ref zci7) (.ref zcj1)=some false
 n_HostError:zcr1 K (.type "NoneType") (.ref zci9)=some false
 n_NoBattle:zcr1 K (.type "NoneType") (.ref zci6)=some false
 n_NoPlan:zcr1 K (.type "NoneType") (.ref zcj3)=some false
 n_NoMix:zcr1 K (.type "NoneType") (.ref zcj7)=some false
 n_NoStream:zcr1 K (.type "NoneType") (.ref zcj0)=some false
 n_NoSide:zcr1 K (.type "NoneType") (.ref zci7)=some false
 n_NoAlike:zcr1 K (.type "NoneType") (.ref zcj2)=some false
 n_NoNumber:zcr1 K (.type "NoneType") (.ref zcj1)=some false
structure Nm (mg:Str->Option Value):Prop where
 ValueError_:mg "ValueError"=none
 all_:mg "all"=none
 bool_:mg "bool"=none
 enumerate_:mg "enumerate"=none
 int_:mg "int"=none
 isinstance_:mg "isinstance"=none
 len_:mg "len"=none
 list_:mg "list"=none
 max_:mg "max"=none
 min_:mg "min"=none
 range_:mg "range"=none
 reversed_:mg "reversed"=none
 sorted_:mg "sorted"=none
 sum_:mg "sum"=none
 tuple_:mg "tuple"=none
 zip_:mg "zip"=none
local macro_rules | `(tactic| walk_at "hp")=>`(tactic| first|assumption|(refine Same.at (H:=?H) ?s ?e;(case s=>assumption);(case e=>walk_at "hp"))|(refine Chg.at (a:=?a) (H:=?H) ?c ?e ?n;(case c=>assumption);(case n=>walk_at "ne");(case e=>walk_at "hp"))|fail "hp")
local macro_rules | `(tactic| walk_at "ne")=>`(tactic| first|assumption|(apply Ne.symm;assumption)|fail "ne")
local macro_rules | `(tactic| walk_at "wh")=>`(tactic| (conv=>whnf))
local macro_rules | `(tactic| walk_at "st")=>`(tactic| (conv=>whnf);first
 | refine zci0 (by omega) (by omega) ?_
 | refine zae9 (by omega) (by omega) ?_
 | refine zad7 (by omega) (fun r h0 h1=>?_)
 | refine div_rd (by omega) (by omega) ?_
 | (refine zca6 ⟨by decide,by decide,by decide⟩ ?_;simp only[Int.reduceToNat,Int.reducePow])
 | (refine zb1 (xs:=?xs) (v:=?v) ?hp ?ev ?_;(case hp=>walk_at "hp");(case ev=>rfl))
 | (refine zb0 (xs:=?xs) (v:=?v) ?hp ?ev ?_;(case hp=>walk_at "hp");(case ev=>rfl))
 | refine zd6 (fun p H' hf hs ha=>?_)
 | refine zc4 (fun p H' hf hs ha=>?_)
 | refine zan8 ?_
 | (refine zad0 (xs:=?xs) ?hp ?_;(case hp=>walk_at "hp"))
 | (refine zao3 (xs:=?xs) ?hp ?_;(case hp=>walk_at "hp"))
 | (refine zp4 (xs:=?xs) ?hp ?_;(case hp=>walk_at "hp"))
 | (refine zh3 (xs:=?xs) ?hp ?_;(case hp=>walk_at "hp"))
 | refine zan9 ?_
 | refine br_T ?_
 | refine br_F ?_
 | refine zr3 (by omega) ?_
 | refine zq7 (by omega) ?_
 | fail "st")
def g0 (f t:Nat):Int:=if f=0/\t=0 then 1 else 0
def pl (ns:List Nat):List V:=ns.map fun (n:Nat)=>V.int (n:Int)
def il (ns:List Nat):List Int:=ns.map fun (n:Nat)=>(n:Int)
local macro_rules | `(tactic| walk_at "om")=>`(tactic| first|decide|omega)
section
variable {P:Program}{w:World}{K:zcp3}{mg:Str->Option Value}{base:Heap}{zci9:Addr}{zci6:Addr}{zcj3:Addr}{zcj7:Addr}{zcj0:Addr}{zci7:Addr}{zcj2:Addr}{zcj1:Addr}{zcj6:Addr}
def isW:PyData->Bool
 | .int _=>true
 | _=>false
def zaa8 (l:Int):PyData->Bool
 | .int i=>decide (l<=i)
 | _=>false
def zan3 (l m:Int):PyData->Bool
 | .int i=>decide (l<=i/\i<=m)
 | _=>false
theorem zaa9 {p q:Prop}[Decidable p] [Decidable q] (h:p):decide (p/\q)=decide q:=by simp[h]
theorem zab4 {p q:Prop}[Decidable p] [Decidable q] (h:¬ p):decide (p/\q)=false:=by simp[h]
@[irreducible] def ze9:Sp:=fun vs H Q _=>∃ (v:V) (d:PyData),vs=[v]/\ShV H v d/\Q (.bl (isW d)) H
theorem zbj9 {H:Hp}{v:V}{d:PyData}{Q:VK}{E:XK}(h:ShV H v d) (q:Q (.bl (isW d)) H):ze9 [v] H Q E:=by unfold ze9;exact⟨v,d,rfl,h,q⟩
theorem zbx3 {H:Hp}{i:Int}{Q:VK}{E:XK}(q:Q (.bl true) H):ze9 [.int i] H Q E:=zbj9 (.int i) q
theorem zax0 {f:Addr}{fd:FuncData}(F:Fun K "is_whole" "is_whole" zo9 f fd) (N:Nm mg):FnOk P w K mg base CX0 1 f fd ["thing"] ze9:=by
 refine F.ok zaz4 (fun vs H Q E h=>by unfold ze9 at h;obtain⟨_,_,rfl,_⟩:=h;rfl) (fun cdv A outer s H vs Q E hr h=>?_)
 unfold ze9 at h
 obtain⟨v,d,rfl,h,q⟩:=h
 refine⟨_,(za5 (za9 (zu8 (pB (zaf1 (K:=K) rfl) N.isinstance_ zb9 (za0 (pq 0) (za0 (pTy N.int_ zaf4) za1))) (zs2 (peNot (pB (zaf1 (K:=K) rfl) N.isinstance_ zb9 (za0 (pq 0) (za0 (pTy N.bool_ zcf4) za1)))))))),?_⟩
 refine zu0 h (.inl rfl) ?_
 cases h
 case int i=>
  refine br_T ?_
  refine zan8 ?_
  walk_at "wh"
  exact q
 case bl b=>
  refine br_T ?_
  refine zan9 ?_
  walk_at "wh"
  exact q
 all_goals (walk_at "wh";refine br_F ?_;walk_at "wh";exact q)
@[irreducible] def zg4:Sp:=fun vs H Q _=>∃ (v:V) (d:PyData) (l:Int),vs=[v,.int l]/\ShV H v d/\Q (.bl (zaa8 l d)) H
theorem zak7 {H:Hp}{v:V}{d:PyData}{l:Int}{Q:VK}{E:XK}(h:ShV H v d) (q:Q (.bl (zaa8 l d)) H):zg4 [v,.int l] H Q E:=by unfold zg4;exact⟨v,d,l,rfl,h,q⟩
theorem zbz9 {H:Hp}{i l:Int}{Q:VK}{E:XK}(q:Q (.bl (decide (l<=i))) H):zg4 [.int i,.int l] H Q E:=zak7 (.int i) q
theorem zbf6 {f:Addr}{fd:FuncData}(F:Fun K "is_from" "is_from" zr4 f fd) (N:Nm mg) (zcj9:Def P w K mg base CX0 1 "is_whole" ["thing"] ze9):FnOk P w K mg base CX0 2 f fd ["thing","least"] zg4:=by
 refine F.ok zbf5 (fun vs H Q E h=>by unfold zg4 at h;obtain⟨_,_,_,rfl,_⟩:=h;rfl) (fun cdv A outer s H vs Q E hr h=>?_)
 unfold zg4 at h
 obtain⟨v,d,l,rfl,h,q⟩:=h
 refine⟨_,(za5 (za9 (zu8 (pD zcj9 hr zb7 (za0 (pq 0) za1)) (zs2 (peC oLe (pq 1) (pq 0)))))),?_⟩
 refine zbj9 h ?_
 cases h
 case int i=>
  refine br_T ?_
  walk_at "wh"
  exact q
 all_goals (walk_at "wh";refine br_F ?_;walk_at "wh";exact q)
@[irreducible] def zd4:Sp:=fun vs H Q _=>∃ (v:V) (d:PyData) (l m:Int),vs=[v,.int l,.int m]/\ShV H v d/\Q (.bl (zan3 l m d)) H
theorem zbj6 {H:Hp}{v:V}{d:PyData}{l m:Int}{Q:VK}{E:XK}(h:ShV H v d) (q:Q (.bl (zan3 l m d)) H):zd4 [v,.int l,.int m] H Q E:=by unfold zd4;exact⟨v,d,l,m,rfl,h,q⟩
theorem zbh4 {H:Hp}{i l m:Int}{Q:VK}{E:XK}(q:Q (.bl (decide (l<=i/\i<=m))) H):zd4 [.int i,.int l,.int m] H Q E:=zbj6 (.int i) q
theorem zan1 {f:Addr}{fd:FuncData}(F:Fun K "is_between" "is_between" zk9 f fd) (N:Nm mg) (zcj8:Def P w K mg base CX0 2 "is_from" ["thing","least"] zg4):FnOk P w K mg base CX0 3 f fd ["thing","least","most"] zd4:=by
 refine F.ok zan7 (fun vs H Q E h=>by unfold zd4 at h;obtain⟨_,_,_,_,rfl,_⟩:=h;rfl) (fun cdv A outer s H vs Q E hr h=>?_)
 unfold zd4 at h
 obtain⟨v,d,l,m,rfl,h,q⟩:=h
 refine⟨_,(za5 (za9 (zu8 (pD zcj8 hr zb7 (za0 (pq 0) (za0 (pq 1) za1))) (zs2 (peC oLe (pq 0) (pq 2)))))),?_⟩
 refine zak7 h ?_
 cases h
 case int i=>
  have q:Q (.bl (decide (l<=i/\i<=m))) H:=q
  refine zf5 (fun h=>?_) (fun h=>?_)
  ·walk_at "wh"
   rw[zaa9 h] at q
   exact q
  ·walk_at "wh"
   rw[zab4 h] at q
   exact q
 all_goals (walk_at "wh";refine br_F ?_;walk_at "wh";exact q)
def zl3:PyData->List PyData
 | .list ds=>ds
 | _=>[]
def intD:PyData->Int
 | .int i=>i
 | _=>0
theorem zae6 {l:Int}{d:PyData}(h:zaa8 l d=true):∃ i:Int,d=.int i/\l<=i:=by
 cases d with
 | int i=>exact⟨i,rfl,of_decide_eq_true h⟩
 | _=>simp[zaa8] at h
theorem zw0 {ds:List PyData}(h:sml (.list ds)=true):ds.length<=1000/\∀ d∈ds,sml d=true:=by
 simp only[sml,zcr6,decide_eq_true_eq] at h
 exact⟨h.1,zy2 h.2⟩
theorem zbu5 {ds:List PyData}(h:sml (.tuple ds)=true):ds.length<=1000/\∀ d∈ds,sml d=true:=by
 simp only[sml,zcr6,decide_eq_true_eq] at h
 exact⟨h.1,zy2 h.2⟩
theorem zai5 {ds:List PyData}(g:PyData->Bool):(List.range ds.length).map (fun i=>V.bl (g (ds.getD i .none)))=(ds.map g).map V.bl:=by
 apply zcu7
 intro i
 rw[zcp5,zcp5,zcp5]
 by_cases h:i<ds.length
 ·rw[zct8 h,zcp1 h]
  simp[h]
 ·rw[zcs1 (by simp;omega),zcs1 (by walk_at "om")]
  rfl
theorem zbd0 {ds:List PyData}(g:PyData->Bool):(ds.map g).all id=ds.all g:=by rw[zcw4];rfl
theorem zce6 {H:Hp}{xs:List V}{ds:List PyData}(l:ShL H xs ds) (e:xs.length=2):∃ x y a b,xs=[x,y]/\ds=[a,b]/\ShV H x a/\ShV H y b:=by
 cases l with
 | nil=>simp at e
 | cons h1 l=>
  cases l with
  | nil=>simp at e
  | cons h2 l=>
   cases l with
   | nil=>exact⟨_,_,_,_,rfl,rfl,h1,h2⟩
   | cons _ _=>simp at e
theorem getD_some {ds:List PyData}{i:Nat}{d:PyData}(h:ds[i]?=some d):ds.getD i .none=d:=by rw[zcp6,h];rfl
structure zr1 (H:Hp) (m:Addr) (ts:List (Addr×Addr)) (ms:List (List Int×Int)):Prop where
 out:H m=some (.lst (ts.map fun t=>V.ref t.1))
 len:ts.length=ms.length
 part:∀ (i:Nat) t x,ts[i]?=some t->ms[i]?=some x->H t.1=some (.tup [.ref t.2,.int x.2])/\H t.2=some (.lst (x.1.map V.int))
theorem zr1.same {H H':Hp}{m:Addr}{ts:List (Addr×Addr)}{ms:List (List Int×Int)}(M:zr1 H m ts ms) (s:Same H H'):zr1 H' m ts ms:=⟨s _ _ M.out,M.len,fun i t x h1 h2=>⟨s _ _ (M.part i t x h1 h2).1,s _ _ (M.part i t x h1 h2).2⟩⟩
theorem zr1.get {H:Hp}{m:Addr}{ts:List (Addr×Addr)}{ms:List (List Int×Int)}(M:zr1 H m ts ms) {i:Nat}(hi:i<ms.length):∃ t x,ts[i]?=some t/\ms[i]?=some x/\H t.1=some (.tup [.ref t.2,.int x.2])/\H t.2=some (.lst (x.1.map V.int)):=
 ⟨_,_,zcp1 (by have:=M.len;omega),zcp1 hi,M.part i _ _ (zcp1 (by have:=M.len;omega)) (zcp1 hi)⟩
theorem zr1.elt {H:Hp}{m:Addr}{ts:List (Addr×Addr)}{ms:List (List Int×Int)}(M:zr1 H m ts ms) {i:Nat}{v:V}(e:(ts.map fun t=>V.ref t.1)[i]?=some v):∃ t x,v=.ref t.1/\ts[i]?=some t/\ms[i]?=some x/\H t.1=some (.tup [.ref t.2,.int x.2])/\H t.2=some (.lst (x.1.map V.int)):=by
 rw[zcp5] at e
 obtain⟨t,et,rfl⟩:=zcp7.mp e
 obtain⟨t',x,h1,h2,h3⟩:=M.get (i:=i) (by have:=(zcp4.mp et).1;have:=M.len;omega)
 rw[et] at h1
 cases h1
 exact⟨t,x,rfl,et,h2,h3⟩
theorem zr1.ix {H:Hp}{m:Addr}{ts:List (Addr×Addr)}{ms:List (List Int×Int)}(M:zr1 H m ts ms) {k:Nat}{x:List Int×Int}(e:ms[k]?=some x):∃ t,ts[k]?=some t/\atI (ts.map fun t=>V.ref t.1) (k:Int)=some (.ref t.1)/\H t.1=some (.tup [.ref t.2,.int x.2])/\H t.2=some (.lst (x.1.map V.int)):=by
 obtain⟨t,x',h1,h2,h3⟩:=M.get (i:=k) ((zcp4.mp e).1)
 rw[e] at h2
 cases h2
 exact⟨t,h1,zc5 (by rw[zcp5,h1];rfl),h3⟩
def rm (p:Addr) (H:Hp):Hp:=fun b=>if b=p then none else H b
def nw (H H':Hp):Hp:=fun b=>match H b with
 | none=>H' b
 | some _=>none
theorem zw9 {p b:Addr}{H:Hp}{o:HO}(n:b≠p) (h:H b=some o):rm p H b=some o:=by unfold rm;rw[if_neg n];exact h
theorem zt1 {p b:Addr}{H:Hp}{o:HO}(h:rm p H b=some o):b≠p/\H b=some o:=by
 unfold rm at h
 by_cases e:b=p
 ·rw[if_pos e] at h;cases h
 ·rw[if_neg e] at h;exact⟨e,h⟩
theorem zp7 {b:Addr}{H H':Hp}{o:HO}(n:H b=none) (h:H' b=some o):nw H H' b=some o:=by unfold nw;rw[n];exact h
theorem zy8 {b:Addr}{H H':Hp}{o:HO}(h:nw H H' b=some o):H b=none/\H' b=some o:=by
 unfold nw at h
 cases e:H b with
 | none=>rw[e] at h;exact⟨rfl,h⟩
 | some v=>rw[e] at h;cases h
theorem zae8 (p:Addr) (H:Hp):Same (rm p H) H:=fun b o h=>(zt1 h).2
theorem zav7 (H H':Hp):Same (nw H H') H':=fun b o h=>(zy8 h).2
theorem Same.rm {p:Addr}{H H':Hp}(s:Same H H'):Same (rm p H) (G.rm p H'):=fun b o h=>zw9 (zt1 h).1 (s _ _ (zt1 h).2)
theorem nw_up {H H' H'':Hp}(s:Same H' H''):Same (nw H H') (nw H H''):=fun b o h=>zp7 (zy8 h).1 (s _ _ (zy8 h).2)
theorem zcf8 {H0 H H':Hp}(s:Same H0 H):Same (nw H H') (nw H0 H'):=fun b o h=>zp7 (s.free (zy8 h).1) (zy8 h).2
theorem zbf3 {p:Addr}{o:HO}{H0 H H':Hp}(hp:H p=some o) (c:Chg p H0 H):Same (nw H H') (nw H0 H'):=fun b o' h=>by
 have hb:=zy8 h
 refine zp7 ?_ hb.2
 cases e:H0 b with
 | none=>rfl
 | some v=>
  have np:b≠p:=fun z=>by rw[z,hp] at hb;cases hb.1
  have:=c _ _ np e
  rw[hb.1] at this
  cases this
def zw3:PyData->Bool
 | .tuple [a,b,c]=>zaa8 0 a&&zan3 0 (intD a) b&&zaa8 1 c
 | _=>false
theorem zbc8 {ds:List PyData}(h:ds.length≠3):zw3 (.tuple ds)=false:=by
 match ds,h with
 | [],_=>rfl
 | [_],_=>rfl
 | [_,_],_=>rfl
 | [_,_,_],h=>simp at h
 | _ :: _ :: _ :: _ :: _,_=>rfl
theorem zat8 {H:Hp}{xs:List V}{ds:List PyData}(l:ShL H xs ds) (e:xs.length=3):∃ x y z a b c,xs=[x,y,z]/\ds=[a,b,c]/\ShV H x a/\ShV H y b/\ShV H z c:=by
 cases l with
 | nil=>simp at e
 | cons h1 l=>
  obtain⟨y,z,b,c,rfl,rfl,h2,h3⟩:=zce6 l (by simpa using e)
  exact⟨_,_,_,_,_,_,rfl,rfl,h1,h2,h3⟩
@[irreducible] def zm8:Sp:=fun vs H Q _=>∃ (v:V) (d:PyData),vs=[v]/\ShV H v d/\Q (.bl (zw3 d)) H
theorem zbv0 {H:Hp}{v:V}{d:PyData}{Q:VK}{E:XK}(h:ShV H v d) (q:Q (.bl (zw3 d)) H):zm8 [v] H Q E:=by unfold zm8;exact⟨v,d,rfl,h,q⟩
theorem zbg4 {f:Addr}{fd:FuncData}(F:Fun K "is_flow" "is_flow" zr2 f fd) (N:Nm mg) (zcj5:Def P w K mg base CX0 3 "is_between" ["thing","least","most"] zd4) (zcj8:Def P w K mg base CX0 2 "is_from" ["thing","least"] zg4):FnOk P w K mg base CX0 4 f fd ["thing"] zm8:=by
 refine F.ok zbd9 (fun vs H Q E h=>by unfold zm8 at h;obtain⟨_,_,rfl,_⟩:=h;rfl) (fun cdv A outer s H vs Q E hr h=>?_)
 unfold zm8 at h
 obtain⟨v,d,rfl,h,q⟩:=h
 have hu:=hu40 hr
 refine⟨_,(za4 (psIf (ptW (pwOr (zp9 (ptV (pB (zaf1 (K:=K) rfl) N.isinstance_ zb9 (za0 (pq 0) (za0 (pTy N.tuple_ zx1) za1))))) (zz7 (ptC (zaw4 (K:=K) rfl (by exact hu)) (pB (zq4 (K:=K) rfl) N.len_ zj5 (za0 (pq 0) za1)) za2)))) (za5 (za9 zab7)) zb8)
   (za5 (za9 (zu8 (pD zcj8 hr zb7 (za0 (za8 (K:=K) rfl (pq 0) za2) (za0 za2 za1))) (zu8 (pD zcj5 hr zb7 (za0 (za8 (K:=K) rfl (pq 0) za2) (za0 za2 (za0 (za8 (K:=K) rfl (pq 0) za2) za1)))) (zs2 (pD zcj8 hr zb7 (za0 (za8 (K:=K) rfl (pq 0) za2) (za0 za2 za1))))))))),?_⟩
 refine zu0 h (.inr (.inr (.inr rfl))) ?_
 cases h
 case tup t xs ds e l=>
  have ll:=l.len
  refine zd2 (br_T ?_)
  refine zp4 e ?_
  refine zd2 (zf5 (fun h3=>?_) (fun h3=>?_))
  ·obtain⟨x,y,z,a,b,c,rfl,rfl,ha,hb,hc⟩:=zat8 l (by walk_at "om")
   have q:Q (.bl (zaa8 0 a&&zan3 0 (intD a) b&&zaa8 1 c)) H:=q
   refine zb1 (v:=x) e rfl ?_
   refine zak7 ha ?_
   cases e1:zaa8 0 a
   ·rw[e1] at q
    refine br_F ?_
    walk_at "wh"
    exact q
   ·rw[e1,zcu8] at q
    obtain⟨i,rfl,hi⟩:=zae6 e1
    cases ha
    refine br_T ?_
    refine zb1 (v:=y) e rfl ?_
    refine zb1 (v:=.int i) e rfl ?_
    refine zbj6 hb ?_
    have q:Q (.bl (zan3 0 i b&&zaa8 1 c)) H:=q
    cases e2:zan3 0 i b
    ·rw[e2] at q
     refine br_F ?_
     walk_at "wh"
     exact q
    ·rw[e2,zcu8] at q
     refine br_T ?_
     refine zb1 (v:=z) e rfl ?_
     refine zak7 hc ?_
     walk_at "wh"
     exact q
  ·rw[zbc8 (by walk_at "om")] at q
   walk_at "wh"
   exact q
 all_goals (walk_at "wh";refine zd2 (br_F ?_);walk_at "wh";refine br_T ?_;walk_at "wh";exact q)
theorem zbn1 {l m:Int}{d:PyData}(h:zan3 l m d=true):∃ i,d=.int i/\l<=i/\i<=m:=by
 cases d with
 | int i=>have:=of_decide_eq_true h;exact⟨i,rfl,this⟩
 | _=>simp[zan3] at h
theorem zaw9 {H:Hp}{v:V}{d:PyData}(h:ShV H v d) (e:zw3 d=true):∃ (t:Addr) (i j w:Int),v=.ref t/\H t=some (.tup [.int i,.int j,.int w])/\d=.tuple [.int i,.int j,.int w]/\0<=j/\j<=i/\1<=w:=by
 cases h
 case tup t xs ds e1 l=>
  have l3:ds.length=3:=Classical.byContradiction fun z=>by rw[zbc8 z] at e;cases e
  obtain⟨x,y,z,a,b,c,rfl,rfl,ha,hb,hc⟩:=zat8 l (by rw[l.len];exact l3)
  have e:(zaa8 0 a&&zan3 0 (intD a) b&&zaa8 1 c)=true:=e
  rw[zcr6,zcr6] at e
  obtain⟨i,rfl,hi⟩:=zae6 e.1.1
  obtain⟨j,rfl,hj1,hj2⟩:=zbn1 e.1.2
  obtain⟨w,rfl,hw⟩:=zae6 e.2
  cases ha
  cases hb
  cases hc
  exact⟨t,i,j,w,rfl,e1,rfl,hj1,hj2,hw⟩
 all_goals simp[zw3] at e
def keyD:PyData->Int×Int
 | .tuple (a :: b :: _)=>(intD a,intD b)
 | _=>(0,0)
def incD (ds:List PyData):Bool:=(List.range (ds.length - 1)).all fun i=>ltP (keyD (ds.getD i .none)) (keyD (ds.getD (i+1) .none))
def rowD:PyData->Bool
 | .list ds=>ds.all zw3&&incD ds
 | _=>false
@[irreducible] def zn4:Sp:=fun vs H Q _=>∃ (v:V) (d:PyData),vs=[v]/\ShV H v d/\sml d=true/\∀ H',Same H H'->Q (.bl (rowD d)) H'
theorem zbq3 {H:Hp}{v:V}{d:PyData}{Q:VK}{E:XK}(h:ShV H v d) (hs:sml d=true) (q:∀ H',Same H H'->Q (.bl (rowD d)) H'):zn4 [v] H Q E:=by unfold zn4;exact⟨v,d,rfl,h,hs,q⟩
theorem zbr5 {f:Addr}{fd:FuncData}(F:Fun K "is_row" "is_row" zt6 f fd) (N:Nm mg) (zcn6:Def P w K mg base CX0 4 "is_flow" ["thing"] zm8):FnOk P w K mg base CX0 5 f fd ["row"] zn4:=by
 refine F.ok zbr8 (fun vs H Q E h=>by unfold zn4 at h;obtain⟨_,_,rfl,_⟩:=h;rfl) (fun cdv A outer s H vs Q E hr h=>?_)
 unfold zn4 at h
 obtain⟨v,d,rfl,h,hs,q⟩:=h
 have hu:=hu40 hr
 refine⟨_,(za4 (psIf (ptW (pwOr (zp9 (ptV (pB (zaf1 (K:=K) rfl) N.isinstance_ zb9 (za0 (pq 0) (za0 (pTy N.list_ zac1) za1))))) (zz7 (zp9 (ptV (pB (zam9 (K:=K) rfl rfl) N.all_ zx0 (za0 (zf4 (N:=["thing"]) (ks:=[none]) (zi0 (K:=K) rfl (pq 0)) (fun cl C s3 H3 fp=>(za7 (i:=0) nb_2 rfl (by first|exact Or.inl rfl|exact Or.inr rfl))) (fun cl C s3 H3 fp=>zc7) (fun cl C s3 H3 fp=>(pD zcn6 hr zb7 (za0 (pq 0) za1))) (.skip .nil)) za1))))))) (za5 (za9 zab7)) zb8)
   (za5 (za9 (pB (zam9 (K:=K) rfl rfl) N.all_ zx0 (za0 (zf4 (N:=["one","other"]) (ks:=[none,none]) (zbn0 (K:=K) rfl N.zip_ (za0 (pq 0) (za0 (zq2 (slXK (K:=K) rfl) (pq 0) (zz8 za2) zt4) za1))) (fun cl C s3 H3 fp=>(zl5 (K:=K) (n:=2) rfl rfl (zb6 (za7 (i:=0) nb_3 rfl (by first|exact Or.inl rfl|exact Or.inr rfl)) (zb6 (za7 (i:=1) nb_3 rfl (by first|exact Or.inl rfl|exact Or.inr rfl)) zl6)))) (fun cl C s3 H3 fp=>zc7) (fun cl C s3 H3 fp=>(peC (oLtX (by exact hu)) (zq2 (slXK (K:=K) rfl) (pq 0) zt4 (zz8 za2)) (zq2 (slXK (K:=K) rfl) (pq 1) zt4 (zz8 za2)))) (.skip (.skip .nil))) za1))))),?_⟩
 refine zu0 h (.inr (.inr (.inl rfl))) ?_
 cases h
 case lst a xs ds e l=>
  have ll:=l.len
  obtain⟨dl,dm⟩:=zw0 hs
  refine zd2 (br_T ?_)
  refine zc6 e ?_
  refine zn6 (Wk.list (SqL.of e)) (by rw[sizeLine_eq];omega) (fun i=>.bl (zw3 (ds.getD i .none))) (fun _=>true) (fun j σ=>∃ t:Option V,σ=[t]) ⟨none,rfl⟩ ?_ ?_
  ·rintro j x σ H1 R S hj s1 hx ⟨t,rfl⟩ k _
   obtain⟨d,ed,hd⟩:=l.get j x hx
   refine br_T ?_
   refine zbv0 (hd.same s1) ?_
   walk_at "wh"
   rw[← getD_some ed]
   exact k rfl _ _ (Same.refl _) ⟨_,rfl⟩
  intro acc H1 f1 s1 h1
  rw[ze4,ll,zai5 zw3] at h1
  refine zv5 h1 ?_
  rw[zbd0]
  cases ea:ds.all zw3
  ·walk_at "wh"
   refine zd2 (br_F ?_)
   walk_at "wh"
   have q:Q (.bl (ds.all zw3&&incD ds)) H1:=q _ s1
   rw[ea] at q
   exact q
  have ea':∀ d∈ds,zw3 d=true:=zcs6.mp ea
  refine zd2 (br_T ?_)
  have e1:=s1 _ _ e
  refine zai3 (SqL.of e1) (fun p2 H2 f2 s2 h2=>?_)
  rw[zab0 (by walk_at "om")] at h2
  refine zbm9 (SqL.of (s2 _ _ e1)) (SqL.of h2) ?_
  refine zn6 (Wk.zipN (n:=ds.length - 1) (SqL.of (s2 _ _ e1)) (SqL.of h2) (by walk_at "om") (by rw[zcv2];show _<=_ - 1;omega) (.inr (by rw[zcv2,ll];rfl))) (by rw[sizeLine_eq];omega) (fun i=>.bl (ltP (keyD (ds.getD i .none)) (keyD (ds.getD (i+1) .none)))) (fun _=>true) (fun j σ=>∃ t u:Option V,σ=[t,u]) ⟨none,none,rfl⟩ ?_ ?_
  ·rintro j v σ H3 R S hj s3 ⟨p,x,y,rfl,hp,hx,hy⟩ ⟨t,u,rfl⟩ k _
   rw[List.getElem?_drop,show (1:Int).toNat+j=j+1 by show 1+j=j+1;omega] at hy
   obtain⟨d,ed,hd⟩:=l.get j x hx
   obtain⟨d',ed',hd'⟩:=l.get (j+1) y hy
   have s03:=(s1.trans s2).trans s3
   obtain⟨t1,i1,j1,w1,rfl,ht1,rfl,_⟩:=zaw9 (hd.same s03) (ea' d (zcp9 ed))
   obtain⟨t2,i2,j2,w2,rfl,ht2,rfl,_⟩:=zaw9 (hd'.same s03) (ea' d' (zcp9 ed'))
   rw[getD_some ed,getD_some ed'] at k
   refine ze3 hp ?_
   refine br_T ?_
   refine zbx9 ht1 (fun p4 H4 f4 s4 h4=>?_)
   refine zbx9 (s4 _ _ ht2) (fun p5 H5 f5 s5 h5=>?_)
   refine ltP_rd (x:=(i1,j1)) (y:=(i2,j2)) (s5 _ _ h4) h5 ?_
   walk_at "wh"
   exact k rfl _ _ (s4.trans s5) ⟨_,_,rfl⟩
  intro acc2 H3 f3 s3 h3
  rw[ze4] at h3
  have h3:H3 acc2=some (.lst (((List.range (ds.length - 1)).map fun i=>ltP (keyD (ds.getD i .none)) (keyD (ds.getD (i+1) .none))).map V.bl)):=by rw[h3,zcs9];rfl
  refine zv5 h3 ?_
  have q:Q (.bl (ds.all zw3&&incD ds)) H3:=q _ ((s1.trans s2).trans s3)
  rw[ea,zcu8] at q
  rw[zcw4]
  exact q
 all_goals (walk_at "wh";refine zd2 (br_F ?_);walk_at "wh";refine br_T ?_;walk_at "wh";exact q _ (Same.refl _))
def valG {κ:Type}[DecidableEq κ] (kv:List (κ×Int)) (k:κ):Option Int:=(kv.find? fun z=>decide (z.1=k)).map (·.2)
def putG {κ:Type}[DecidableEq κ] (kv:List (κ×Int)) (k:κ) (n:Int):List (κ×Int):=if (kv.any fun z=>decide (z.1=k))=true then kv.map (fun z=>if z.1=k then (z.1,n) else z) else kv++[(k,n)]
def addG {κ:Type}[DecidableEq κ] (s:List (κ×Int)) (z:κ×Int):List (κ×Int):=putG s z.1 ((valG s z.1).getD 0+z.2)
def sumG {κ:Type}[DecidableEq κ] (zs:List (κ×Int)):List (κ×Int):=zs.foldl addG []
def dF {κ κ':Type}(f:κ->κ') (kv:List (κ×Int)):List (κ'×V):=kv.map fun z=>(f z.1,V.int z.2)
section
variable {κ κ':Type}[DecidableEq κ] [DecidableEq κ']
theorem zo0 {z:κ×Int}{kv:List (κ×Int)}{k:κ}(e:z.1=k):valG (z :: kv) k=some z.2:=by unfold valG;rw[zcv0,decide_eq_true e];rfl
theorem zo1 {z:κ×Int}{kv:List (κ×Int)}{k:κ}(e:¬ z.1=k):valG (z :: kv) k=valG kv k:=by unfold valG;rw[zcv0,decide_eq_false e]
theorem zad4 {f:κ->κ'}(hf:∀ a b,f a=f b->a=b) (k:κ):∀ kv:List (κ×Int),valV (dF f kv) (f k)=(valG kv k).map V.int
 | []=>rfl
 | z :: kv=>by
  show valV ((f z.1,V.int z.2) :: dF f kv) (f k)=_
  by_cases e:z.1=k
  ·rw[zx8 (p:=(f z.1,V.int z.2)) (congrArg f e),zo0 e];rfl
  ·rw[zx4 (p:=(f z.1,V.int z.2)) (fun q=>e (hf _ _ q)),zad4 hf k kv,zo1 e]
theorem zav5 {f:κ->κ'}(hf:∀ a b,f a=f b->a=b) (kv:List (κ×Int)) (k:κ) (n:Int):putK (dF f kv) (f k) (.int n)=dF f (putG kv k n):=by
 unfold putK putG dF
 have e1:((kv.map fun z=>(f z.1,V.int z.2)).any fun kv=>decide (kv.1=f k))=kv.any fun z=>decide (z.1=k):=by
  rw[List.any_map]
  congr 1;funext z
  exact decide_eq_decide.mpr ⟨hf _ _,congrArg f⟩
 rw[e1]
 split
 ·rw[zcs9,zcs9]
  refine zcr2 fun z _=>?_
  show (if f z.1=f k then (f z.1,V.int n) else (f z.1,V.int z.2))=(f (if z.1=k then (z.1,n) else z).1,V.int (if z.1=k then (z.1,n) else z).2)
  by_cases e:z.1=k
  ·rw[if_pos (congrArg f e),if_pos e]
  ·rw[if_neg (fun q=>e (hf _ _ q)),if_neg e]
 ·rw[zcr5];rfl
theorem zbv2 (kv:List (κ×Int)) (k:κ) (n:Int):(putG kv k n).length<=kv.length+1:=by
 unfold putG
 split
 ·rw[zcp2];omega
 ·rw[zcr0];exact zcq9 _
theorem zw7 (zs:List (κ×Int)) (z:κ×Int):sumG (zs++[z])=addG (sumG zs) z:=by unfold sumG;rw[List.foldl_append];rfl
theorem zak5 (zs:List (κ×Int)):(sumG zs).length<=zs.length:=by
 have:∀ (zs s:List (κ×Int)),(zs.foldl addG s).length<=s.length+zs.length:=fun zs=>by
  induction zs with
  | nil=>exact fun s=>zcq9 _
  | cons z zs ih=>
   intro s
   have h1:=ih (addG s z)
   have h2:(addG s z).length<=s.length+1:=zbv2 _ _ _
   rw[List.foldl_cons,zcr8]
   omega
 have:=this zs []
 unfold sumG
 simpa using this
theorem zap1 {zs:List (κ×Int)}{i:Nat}{z:κ×Int}(h:zs[i]?=some z):sumG (zs.take (i+1))=addG (sumG (zs.take i)) z:=by
 rw[List.take_succ,h];exact zw7 _ _
end
theorem zbd8 (a b:Int) (h:(Sum.inl a:Key)=Sum.inl b):a=b:=Sum.inl.inj h
theorem zaf3 (a b:Int×Int) (h:pK a=pK b):a=b:=by
 unfold pK at h
 simp only[List.cons.injEq,Sum.inl.injEq,and_true] at h
 exact Prod.ext h.1 h.2
@[irreducible] def zp3:Sp:=fun vs H Q _=>
 (∃ (p:Addr) (ts:List Addr) (zs:List (Int×Int)),vs=[.ref p]/\H p=some (.lst (ts.map V.ref))/\ts.length=zs.length/\zs.length<=2000/\(∀ (i:Nat) t z,ts[i]?=some t->zs[i]?=some z->H t=some (.tup [.int z.1,.int z.2]))/\∀ r H',H r=none->Same H H'->H' r=some (.dK (dF Sum.inl (sumG zs)))->Q (.ref r) H') ∨
 ∃ (p:Addr) (ts:List (Addr×Addr)) (zs:List ((Int×Int)×Int)),vs=[.ref p]/\H p=some (.lst (ts.map fun t=>V.ref t.1))/\ts.length=zs.length/\zs.length<=2000/\(∀ (i:Nat) t z,ts[i]?=some t->zs[i]?=some z->H t.1=some (.tup [.ref t.2,.int z.2])/\H t.2=some (.tup (pV z.1)))/\∀ r H',H r=none->Same H H'->H' r=some (.dT (dF pK (sumG zs)))->Q (.ref r) H'
theorem zaj7 {H:Hp}{p:Addr}{ts:List Addr}{zs:List (Int×Int)}{Q:VK}{E:XK}(hp:H p=some (.lst (ts.map V.ref))) (hl:ts.length=zs.length) (hz:zs.length<=2000) (ht:∀ (i:Nat) t z,ts[i]?=some t->zs[i]?=some z->H t=some (.tup [.int z.1,.int z.2])) (q:∀ r H',H r=none->Same H H'->H' r=some (.dK (dF Sum.inl (sumG zs)))->Q (.ref r) H'):zp3 [.ref p] H Q E:=by
 unfold zp3;exact .inl ⟨p,ts,zs,rfl,hp,hl,hz,ht,q⟩
theorem zbo5 {f:Addr}{fd:FuncData}(F:Fun K "summed" "summed" zt9 f fd) (N:Nm mg):FnOk P w K mg base CX0 1 f fd ["pairs"] zp3:=by
 refine F.ok zx2 (fun vs H Q E h=>by unfold zp3 at h;rcases h with ⟨_,_,_,rfl,_⟩|⟨_,_,_,rfl,_⟩<;>rfl) (fun cdv A outer s H vs Q E hr h=>?_)
 unfold zp3 at h
 have hu:=hu40 hr
 refine⟨_,(za4 (psS (i:=1) zx2.nd zbi9)
   (za4 (zu5 PassesOwn.never rfl (zi0 (K:=K) rfl (pq 0)) (zl5 (K:=K) (n:=2) rfl rfl (zb6 (za7 (i:=2) zx2.nd rfl (by first|exact Or.inl rfl|exact Or.inr rfl)) (zb6 (za7 (i:=3) zx2.nd rfl (by first|exact Or.inl rfl|exact Or.inr rfl)) zl6))) (za5 (zby4 (by exact hu) (pq 1) (pq 2) (zb5 oAdd (zbc9 (by exact hu) (pq 1) (pq 2) za2) (pq 3)))))
   (za5 (za9 (pq 1))))),?_⟩
 rcases h with ⟨p,ts,zs,rfl,hp,hl,hz,ht,q⟩|⟨p,ts,zs,rfl,hp,hl,hz,ht,q⟩
 ·walk_at "wh"
  refine dnK_rd (fun r H1 f1 s1 h1=>?_)
  have npr:p≠r:=za6 hp f1
  refine zc6 (s1 _ _ hp) ?_
  refine zs6 (xs:=ts.map V.ref) (fun i σ I=>∃ t u:Option V,σ=[some (.ref p),some (.ref r),t,u]/\Chg r H1 I/\I r=some (.dK (dF Sum.inl (sumG (zs.take i))))) ?_ ?_ ?_ ?_
  ·exact⟨_,_,rfl,Chg.refl _ _,h1⟩
  ·rintro i σ I _ ⟨_,_,_,c,_⟩
   exact SqL.of (c _ _ npr (s1 _ _ hp))
  ·rintro i v σ I hi ⟨t',u',rfl,c,hr'⟩
   rw[zcp5] at hi
   obtain⟨t,et,rfl⟩:=zcp7.mp hi
   obtain⟨z,ez⟩:∃ z,zs[i]?=some z:=⟨_,zcp1 (by have:=(zcp4.mp et).1;omega)⟩
   have e0:=ht i t z et ez
   have e1:=c _ _ (za6 e0 f1) (s1 _ _ e0)
   refine ze3 e1 ?_
   refine zcb7 hr' ?_
   refine zci4 hr' ?_
   have ev:(valV (dF Sum.inl (sumG (zs.take i))) (Sum.inl z.1:Key)).getD (V.int 0)=.int ((valG (sumG (zs.take i)) z.1).getD 0):=by
    rw[zad4 zbd8]
    cases valG (sumG (zs.take i)) z.1<;>rfl
   rw[ev]
   refine dpK_rd hr' (by unfold dF;rw[zcp2,sizeLine_eq];have:=zak5 (zs.take i);rw[zcv1] at this;omega) (fun I2 c2 h2=>?_)
   rw[zav5 zbd8] at h2
   walk_at "wh"
   exact⟨_,_,rfl,c.trans c2,by rw[zap1 ez];exact h2⟩
  ·rintro σ I ⟨t',u',rfl,c,hr'⟩
   rw[zcp2,hl,zcw9] at hr'
   walk_at "wh"
   exact q r I f1 (s1.chg f1 c) hr'
 ·walk_at "wh"
  refine zbz4 (fun r H1 f1 s1 h1=>?_)
  have npr:p≠r:=za6 hp f1
  refine zc6 (s1 _ _ hp) ?_
  refine zs6 (xs:=ts.map fun t=>V.ref t.1) (fun i σ I=>∃ t u:Option V,σ=[some (.ref p),some (.ref r),t,u]/\Chg r H1 I/\I r=some (.dT (dF pK (sumG (zs.take i))))) ?_ ?_ ?_ ?_
  ·exact⟨_,_,rfl,Chg.refl _ _,h1⟩
  ·rintro i σ I _ ⟨_,_,_,c,_⟩
   exact SqL.of (c _ _ npr (s1 _ _ hp))
  ·rintro i v σ I hi ⟨t',u',rfl,c,hr'⟩
   rw[zcp5] at hi
   obtain⟨t,et,rfl⟩:=zcp7.mp hi
   obtain⟨z,ez⟩:∃ z,zs[i]?=some z:=⟨_,zcp1 (by have:=(zcp4.mp et).1;omega)⟩
   obtain⟨e0,e0'⟩:=ht i t z et ez
   have e1:=c _ _ (za6 e0 f1) (s1 _ _ e0)
   have e2:=c _ _ (za6 e0' f1) (s1 _ _ e0')
   refine ze3 e1 ?_
   refine zbq9 hr' ?_
   refine zbq7 hr' (k:=pK z.1) e2 ?_
   have ev:(valV (dF pK (sumG (zs.take i))) (pK z.1)).getD (V.int 0)=.int ((valG (sumG (zs.take i)) z.1).getD 0):=by
    rw[zad4 zaf3]
    cases valG (sumG (zs.take i)) z.1<;>rfl
   rw[ev]
   refine zbz5 hr' (k:=pK z.1) e2 (by unfold dF;rw[zcp2,sizeLine_eq];have:=zak5 (zs.take i);rw[zcv1] at this;omega) (fun I2 c2 h2=>?_)
   rw[zav5 zaf3] at h2
   walk_at "wh"
   exact⟨_,_,rfl,c.trans c2,by rw[zap1 ez];exact h2⟩
  ·rintro σ I ⟨t',u',rfl,c,hr'⟩
   rw[zcp2,hl,zcw9] at hr'
   walk_at "wh"
   exact q r I f1 (s1.chg f1 c) hr'
def triD:PyData->Int×Int×Int
 | .tuple [a,b,c]=>(intD a,intD b,intD c)
 | _=>(0,0,0)
def rowF (d:PyData):List (Int×Int×Int):=(zl3 d).map triD
def zy9:PyData->Bool
 | .list ds=>decide (0<ds.length)&&rowD (ds.getD 0 .none)&&decide (0<(zl3 (ds.getD 0 .none)).length)
 | _=>false
theorem zat6 {H:Hp}{v:V}{d:PyData}(h:ShV H v d) (e:rowD d=true):∃ (a:Addr) (ts:List Addr) (ds:List PyData),v=.ref a/\d=.list ds/\H a=some (.lst (ts.map V.ref))/\ts.length=ds.length/\(∀ (i:Nat) t x,ts[i]?=some t->(rowF d)[i]?=some x->H t=some (.tup [.int x.1,.int x.2.1,.int x.2.2]))/\∀ x∈rowF d,0<=x.2.1/\x.2.1<=x.1/\1<=x.2.2:=by
 cases h
 case lst a xs ds e1 l=>
  have e:(ds.all zw3&&incD ds)=true:=e
  have ea:=zcs6.mp (Bool.and_eq_true_iff.mp e).1
  have key:∀ {xs:List V}{ds:List PyData},ShL H xs ds->(∀ d∈ds,zw3 d=true)->∃ ts:List Addr,xs=ts.map V.ref/\(∀ (i:Nat) t x,ts[i]?=some t->(ds.map triD)[i]?=some x->H t=some (.tup [.int x.1,.int x.2.1,.int x.2.2]))/\∀ x∈ds.map triD,0<=x.2.1/\x.2.1<=x.1/\1<=x.2.2:=fun {xs ds} l ea=>by
   induction ds generalizing xs with
   | nil=>cases l;exact⟨[],rfl,fun i t x h=>by simp at h,fun x h=>by cases h⟩
   | cons d ds ih=>
    cases l with
    | cons h1 l=>
     obtain⟨ts,rfl,k1,k2⟩:=ih l fun d hd=>ea d (.tail _ hd)
     obtain⟨t,i,j,w,rfl,ht,rfl,hj1,hj2,hw⟩:=zaw9 h1 (ea _ (.head _))
     refine⟨t :: ts,rfl,fun n t' x g1 g2=>?_,fun x hx=>?_⟩
     ·match n with
      | 0=>cases g1;cases g2;exact ht
      | n+1=>exact k1 n t' x g1 g2
     ·rcases zcq6.mp hx with rfl|hx
      ·exact⟨hj1,hj2,hw⟩
      ·exact k2 x hx
  obtain⟨ts,rfl,k1,k2⟩:=key l ea
  exact⟨a,ts,ds,rfl,rfl,e1,by have:=l.len;rwa [zcp2] at this,k1,k2⟩
 all_goals simp[rowD] at e
theorem zn3 (ds:List PyData):(rowF (.list ds)).length=ds.length:=by unfold rowF;rw[zcp2];rfl
@[irreducible] def zp1:Sp:=fun vs H Q _=>∃ (v:V) (d:PyData),vs=[v]/\ShV H v d/\sml d=true/\∀ H',Same H H'->Q (.bl (zy9 d)) H'
theorem zbf9 {H:Hp}{v:V}{d:PyData}{Q:VK}{E:XK}(h:ShV H v d) (hs:sml d=true) (q:∀ H',Same H H'->Q (.bl (zy9 d)) H'):zp1 [v] H Q E:=by unfold zp1;exact⟨v,d,rfl,h,hs,q⟩
theorem zbq2 {f:Addr}{fd:FuncData}(F:Fun K "begins" "begins" zt7 f fd) (N:Nm mg) (zcl8:Def P w K mg base CX0 5 "is_row" ["row"] zn4):FnOk P w K mg base CX0 6 f fd ["stream"] zp1:=by
 refine F.ok zbl8 (fun vs H Q E h=>by unfold zp1 at h;obtain⟨_,_,rfl,_⟩:=h;rfl) (fun cdv A outer s H vs Q E hr h=>?_)
 unfold zp1 at h
 obtain⟨v,d,rfl,h,hs,q⟩:=h
 have hu:=hu40 hr
 refine⟨_,(za5 (za9 (zu8 (pB (zaf1 (K:=K) rfl) N.isinstance_ zb9 (za0 (pq 0) (za0 (pTy N.list_ zac1) za1))) (zu8 (peC oGt (pB (zq4 (K:=K) rfl) N.len_ zj5 (za0 (pq 0) za1)) za2) (zu8 (pD zcl8 hr zb7 (za0 (za8 (K:=K) rfl (pq 0) za2) za1)) (zs2 (peC oGt (pB (zq4 (K:=K) rfl) N.len_ zj5 (za0 (za8 (K:=K) rfl (pq 0) za2) za1)) za2))))))),?_⟩
 refine zu0 h (.inr (.inr (.inl rfl))) ?_
 cases h
 case lst a xs ds e l=>
  have ll:=l.len
  obtain⟨dl,dm⟩:=zw0 hs
  have q:∀ H',Same H H'->Q (.bl (decide (0<ds.length)&&rowD (ds.getD 0 .none)&&decide (0<(zl3 (ds.getD 0 .none)).length))) H':=q
  refine br_T ?_
  refine zh3 e ?_
  rw[ll]
  refine zf5 (fun h0=>?_) (fun h0=>?_)
  ·rw[decide_eq_true (show 0<ds.length by walk_at "om"),zcu8] at q
   obtain⟨x0,ex0⟩:∃ x,xs[0]?=some x:=⟨_,zcp1 (by walk_at "om")⟩
   obtain⟨d0,ed0,hd0⟩:=l.get 0 x0 ex0
   rw[getD_some ed0] at q
   have at0:atI xs 0=some x0:=zc5 (j:=0) ex0
   refine zb0 (v:=x0) e at0 ?_
   refine zbq3 hd0 (dm d0 (zcp9 ed0)) (fun H1 s1=>?_)
   cases er:rowD d0
   ·have q:=q _ s1
    rw[er] at q
    refine br_F ?_
    walk_at "wh"
    exact q
   ·have q:=q _ s1
    rw[er,zcu8] at q
    obtain⟨b,ts,es,rfl,rfl,hb,hl,_⟩:=zat6 hd0 er
    refine br_T ?_
    refine zb0 (v:=.ref b) (s1 _ _ e) at0 ?_
    refine zh3 (s1 _ _ hb) ?_
    rw[zcp2,hl]
    walk_at "wh"
    have ed:decide ((es.length:Int)>0)=decide (0<(zl3 (.list es)).length):=decide_eq_decide.mpr (by show (es.length:Int)>0↔0<es.length;omega)
    first|(rw[← ed] at q;exact q)|exact q
  ·have q:=q _ (Same.refl _)
   rw[decide_eq_false (show ¬ 0<ds.length by walk_at "om")] at q
   walk_at "wh"
   exact q
 all_goals (walk_at "wh";refine br_F ?_;walk_at "wh";exact q _ (Same.refl _))
def zac8 (a b:PyData):Bool:=eqDI (sumG ((rowF a).map fun z=>(z.1 - z.2.1,z.2.2))) (sumG ((rowF b).map fun z=>(z.1,z.2.2)))
@[irreducible] def zr6:Sp:=fun vs H Q _=>∃ (v u:V) (d e:PyData),vs=[v,u]/\ShV H v d/\ShV H u e/\rowD d=true/\rowD e=true/\(zl3 d).length<=1000/\(zl3 e).length<=1000/\∀ H',Same H H'->Q (.bl (zac8 d e)) H'
theorem zbi4 {H:Hp}{v u:V}{d e:PyData}{Q:VK}{E:XK}(hv:ShV H v d) (hu:ShV H u e) (rd:rowD d=true) (re:rowD e=true) (ld:(zl3 d).length<=1000) (le:(zl3 e).length<=1000) (q:∀ H',Same H H'->Q (.bl (zac8 d e)) H'):zr6 [v,u] H Q E:=by unfold zr6;exact⟨v,u,d,e,rfl,hv,hu,rd,re,ld,le,q⟩
theorem zbt8 {f:Addr}{fd:FuncData}(F:Fun K "meets" "meets" zz4 f fd) (N:Nm mg) (zcn5:Def P w K mg base CX0 1 "summed" ["pairs"] zp3):FnOk P w K mg base CX0 2 f fd ["ahead","row"] zr6:=by
 refine F.ok zaz9 (fun vs H Q E h=>by unfold zr6 at h;obtain⟨_,_,_,_,rfl,_⟩:=h;rfl) (fun cdv A outer s H vs Q E hr h=>?_)
 unfold zr6 at h
 obtain⟨v,u,d,e,rfl,hv,hu',rd,re,ld,le,q⟩:=h
 have hu:=hu40 hr
 obtain⟨a,ts,ds,rfl,rfl,ha,hl,hp,_⟩:=zat6 hv rd
 obtain⟨b,us,es,rfl,rfl,hb,hl',hp',_⟩:=zat6 hu' re
 have ld:ds.length<=1000:=ld
 have le:es.length<=1000:=le
 refine⟨_,(za4 (psS (i:=2) zaz9.nd (pD zcn5 hr zb7 (za0 (zf4 (N:=["left","sent","flow"]) (ks:=[none,none,none]) (zi0 (K:=K) rfl (pq 0)) (fun cl C s3 H3 fp=>(zl5 (K:=K) (n:=3) rfl rfl (zb6 (za7 (i:=0) nb_4 rfl (by first|exact Or.inl rfl|exact Or.inr rfl)) (zb6 (za7 (i:=1) nb_4 rfl (by first|exact Or.inl rfl|exact Or.inr rfl)) (zb6 (za7 (i:=2) nb_4 rfl (by first|exact Or.inl rfl|exact Or.inr rfl)) zl6))))) (fun cl C s3 H3 fp=>zc7) (fun cl C s3 H3 fp=>(zn8 (za0 (zb5 oSub (pq 0) (pq 1)) (za0 (pq 2) za1)))) (.skip (.skip (.skip .nil)))) za1)))
   (za5 (za9 (peC (zak0 (K:=K) rfl (by exact hu)) (pq 2) (pD zcn5 hr zb7 (za0 (zf4 (N:=["left","sent","flow"]) (ks:=[none,none,none]) (zi0 (K:=K) rfl (pq 1)) (fun cl C s3 H3 fp=>(zl5 (K:=K) (n:=3) rfl rfl (zb6 (za7 (i:=0) nb_4 rfl (by first|exact Or.inl rfl|exact Or.inr rfl)) (zb6 (za7 (i:=1) nb_4 rfl (by first|exact Or.inl rfl|exact Or.inr rfl)) (zb6 (za7 (i:=2) nb_4 rfl (by first|exact Or.inl rfl|exact Or.inr rfl)) zl6))))) (fun cl C s3 H3 fp=>zc7) (fun cl C s3 H3 fp=>(zn8 (za0 (pq 0) (za0 (pq 2) za1)))) (.skip (.skip (.skip .nil)))) za1)))))),?_⟩
 refine zc6 ha ?_
 refine zaj0 (Wk.list (SqL.of ha)) (by rw[zcp2,sizeLine_eq];omega) (fun i=>.tup [.int (((rowF (.list ds)).getD i (0,0,0)).1 - ((rowF (.list ds)).getD i (0,0,0)).2.1),.int ((rowF (.list ds)).getD i (0,0,0)).2.2]) (fun j σ=>∃ t u w:Option V,σ=[t,u,w]) ⟨none,none,none,rfl⟩ ?_ ?_
 ·rintro i x σ I R S hi s1 hx ⟨_,_,_,rfl⟩ k
  rw[zcp2] at hi
  rw[zcp5] at hx
  obtain⟨t,et,rfl⟩:=zcp7.mp hx
  obtain⟨z,ez⟩:∃ z,(rowF (.list ds))[i]?=some z:=⟨_,zcp1 (by rw[zn3];omega)⟩
  rw[show (rowF (.list ds)).getD i (0,0,0)=z by rw[zcp6,ez];rfl] at k
  refine ze3 (s1 _ _ (hp i t z et ez)) ?_
  refine br_T ?_
  refine zd6 (fun p I1 f1 r1 k1=>?_)
  walk_at "wh"
  exact k _ _ _ f1 r1 k1 ⟨_,_,_,rfl⟩
 rintro l1 ps1 H1 F1
 rw[zcp2] at F1
 refine zaj7 (zs:=(rowF (.list ds)).map fun z=>(z.1 - z.2.1,z.2.2)) F1.out (by rw[F1.len,zcp2,zn3];exact hl) (by rw[zcp2,zn3];omega) (fun i t z g1 g2=>?_) (fun r2 H2 f2 s2 h2=>?_)
 ·rw[zcp5] at g2
  obtain⟨y,ey,rfl⟩:=zcp7.mp g2
  have:=(F1.row i t g1).2
  rw[show (rowF (.list ds)).getD i (0,0,0)=y by rw[zcp6,ey];rfl] at this
  exact this
 have hb2:=s2 _ _ (F1.same _ _ hb)
 refine zc6 hb2 ?_
 refine zaj0 (Wk.list (SqL.of hb2)) (by rw[zcp2,sizeLine_eq];omega) (fun i=>.tup [.int ((rowF (.list es)).getD i (0,0,0)).1,.int ((rowF (.list es)).getD i (0,0,0)).2.2]) (fun j σ=>∃ t u w:Option V,σ=[t,u,w]) ⟨none,none,none,rfl⟩ ?_ ?_
 ·rintro i x σ I R S hi s1 hx ⟨_,_,_,rfl⟩ k
  rw[zcp2] at hi
  rw[zcp5] at hx
  obtain⟨t,et,rfl⟩:=zcp7.mp hx
  obtain⟨z,ez⟩:∃ z,(rowF (.list es))[i]?=some z:=⟨_,zcp1 (by rw[zn3];omega)⟩
  rw[show (rowF (.list es)).getD i (0,0,0)=z by rw[zcp6,ez];rfl] at k
  refine ze3 (s1 _ _ (s2 _ _ (F1.same _ _ (hp' i t z et ez)))) ?_
  refine br_T ?_
  refine zd6 (fun p I1 f1 r1 k1=>?_)
  walk_at "wh"
  exact k _ _ _ f1 r1 k1 ⟨_,_,_,rfl⟩
 rintro l3 ps3 H3 F3
 rw[zcp2] at F3
 refine zaj7 (zs:=(rowF (.list es)).map fun z=>(z.1,z.2.2)) F3.out (by rw[F3.len,zcp2,zn3];exact hl') (by rw[zcp2,zn3];omega) (fun i t z g1 g2=>?_) (fun r4 H4 f4 s4 h4=>?_)
 ·rw[zcp5] at g2
  obtain⟨y,ey,rfl⟩:=zcp7.mp g2
  have:=(F3.row i t g1).2
  rw[show (rowF (.list es)).getD i (0,0,0)=y by rw[zcp6,ey];rfl] at this
  exact this
 refine eqD_rd (s4 _ _ (F3.same _ _ h2)) h4 ?_
 walk_at "wh"
 exact q _ (((F1.same.trans s2).trans F3.same).trans s4)
def fullD (h:Int) (d:PyData):Bool:=(rowF d).all fun z=>decide (z.1=h)
def goneD (d:PyData):Bool:=(rowF d).all fun z=>decide (z.1=z.2.1)
def zag2 (ds:List PyData):Bool:=(List.range (ds.length - 1)).all fun i=>zac8 (ds.getD i .none) (ds.getD (i+1) .none)
def zr9 (h f:Int) (d:PyData):Bool:=zy9 d&&(decide (((zl3 d).length:Int)=f)&&((zl3 d).all rowD&&(fullD h ((zl3 d).getD 0 .none)&&(goneD ((zl3 d).getD ((zl3 d).length - 1) .none)&&zag2 (zl3 d)))))
theorem zbc4 {α:Type}(g:α->Bool) (xs:List α):(xs.map g).all id=xs.all g:=by rw[zcw4];rfl
theorem zav1 {xs:List (Int×Int×Int)}(g:Int×Int×Int->Bool):(List.range xs.length).map (fun i=>V.bl (g (xs.getD i (0,0,0))))=(xs.map g).map V.bl:=by
 apply zcu7
 intro i
 rw[zcp5,zcp5,zcp5]
 by_cases h:i<xs.length
 ·rw[zct8 h,zcp1 h]
  simp[h]
 ·rw[zcs1 (by simp;omega),zcs1 (by walk_at "om")]
  rfl
@[irreducible] def zh8:Sp:=fun vs H Q _=>∃ (h f:Int) (v:V) (d:PyData),vs=[.int h,.int f,v]/\ShV H v d/\sml d=true/\∀ H',Same H H'->Q (.bl (zr9 h f d)) H'
theorem zbg7 {H:Hp}{h f:Int}{v:V}{d:PyData}{Q:VK}{E:XK}(hv:ShV H v d) (hs:sml d=true) (q:∀ H',Same H H'->Q (.bl (zr9 h f d)) H'):zh8 [.int h,.int f,v] H Q E:=by unfold zh8;exact⟨h,f,v,d,rfl,hv,hs,q⟩
set_option maxHeartbeats 0 in
theorem zap7 {f:Addr}{fd:FuncData}(F:Fun K "is_stream" "is_stream" zm9 f fd) (N:Nm mg) (zcn7:Def P w K mg base CX0 6 "begins" ["stream"] zp1) (zcl8:Def P w K mg base CX0 5 "is_row" ["row"] zn4) (zco2:Def P w K mg base CX0 2 "meets" ["ahead","row"] zr6):FnOk P w K mg base CX0 7 f fd ["hosts","fields","stream"] zh8:=by
 refine F.ok zt0 (fun vs H Q E h=>by unfold zh8 at h;obtain⟨_,_,_,_,rfl,_⟩:=h;rfl) (fun cdv A outer s H vs Q E hr h=>?_)
 unfold zh8 at h
 obtain⟨h,f,v,d,rfl,hv,hs,q⟩:=h
 have hu:=hu40 hr
 refine⟨_,(za4 (psIf (ptW (pwOr (zp9 (ptV (pD zcn7 hr zb7 (za0 (pq 2) za1)))) (pwOr (ptC (zaw4 (K:=K) rfl (by exact hu)) (pB (zq4 (K:=K) rfl) N.len_ zj5 (za0 (pq 2) za1)) (pq 1)) (zz7 (zp9 (ptV (pB (zam9 (K:=K) rfl rfl) N.all_ zx0 (za0 (zf4 (N:=["row"]) (ks:=[none]) (zi0 (K:=K) rfl (pq 2)) (fun cl C s3 H3 fp=>(za7 (i:=0) nb_5 rfl (by first|exact Or.inl rfl|exact Or.inr rfl))) (fun cl C s3 H3 fp=>zc7) (fun cl C s3 H3 fp=>(pD zcl8 hr zb7 (za0 (pq 0) za1))) (.skip .nil)) za1)))))))) (za5 (za9 zab7)) zb8)
   (za4 (psS (i:=3) zt0.nd (pB (zam9 (K:=K) rfl rfl) N.all_ zx0 (za0 (zf4 (N:=["left","sent","flow","hosts"]) (ks:=[none,none,none,some 0]) (zi0 (K:=K) rfl (za8 (K:=K) rfl (pq 2) za2)) (fun cl C s3 H3 fp=>(zl5 (K:=K) (n:=3) rfl rfl (zb6 (za7 (i:=0) nb_6 rfl (by first|exact Or.inl rfl|exact Or.inr rfl)) (zb6 (za7 (i:=1) nb_6 rfl (by first|exact Or.inl rfl|exact Or.inr rfl)) (zb6 (za7 (i:=2) nb_6 rfl (by first|exact Or.inl rfl|exact Or.inr rfl)) zl6))))) (fun cl C s3 H3 fp=>zc7) (fun cl C s3 H3 fp=>(peC (zak0 (K:=K) rfl (by exact hu)) (pq 0) (pq 3))) (.skip (.skip (.skip (.take rfl rfl (by first|exact Or.inl rfl|exact Or.inr rfl) .nil))))) za1)))
   (za4 (psS (i:=4) zt0.nd (pB (zam9 (K:=K) rfl rfl) N.all_ zx0 (za0 (zf4 (N:=["left","sent","flow"]) (ks:=[none,none,none]) (zi0 (K:=K) rfl (za8 (K:=K) rfl (pq 2) (zap3 uNeg za2))) (fun cl C s3 H3 fp=>(zl5 (K:=K) (n:=3) rfl rfl (zb6 (za7 (i:=0) nb_7 rfl (by first|exact Or.inl rfl|exact Or.inr rfl)) (zb6 (za7 (i:=1) nb_7 rfl (by first|exact Or.inl rfl|exact Or.inr rfl)) (zb6 (za7 (i:=2) nb_7 rfl (by first|exact Or.inl rfl|exact Or.inr rfl)) zl6))))) (fun cl C s3 H3 fp=>zc7) (fun cl C s3 H3 fp=>(peC (zak0 (K:=K) rfl (by exact hu)) (pq 0) (pq 1))) (.skip (.skip (.skip .nil)))) za1)))
   (za5 (za9 (zu8 (pq 3) (zu8 (pq 4) (zs2 (pB (zam9 (K:=K) rfl rfl) N.all_ zx0 (za0 (zf4 (N:=["ahead","row"]) (ks:=[none,none]) (zbn0 (K:=K) rfl N.zip_ (za0 (pq 2) (za0 (zq2 (slXK (K:=K) rfl) (pq 2) (zz8 za2) zt4) za1))) (fun cl C s3 H3 fp=>(zl5 (K:=K) (n:=2) rfl rfl (zb6 (za7 (i:=0) nb_8 rfl (by first|exact Or.inl rfl|exact Or.inr rfl)) (zb6 (za7 (i:=1) nb_8 rfl (by first|exact Or.inl rfl|exact Or.inr rfl)) zl6)))) (fun cl C s3 H3 fp=>zc7) (fun cl C s3 H3 fp=>(pD zco2 hr zb7 (za0 (pq 0) (za0 (pq 1) za1)))) (.skip (.skip .nil))) za1)))))))))),?_⟩
 refine zbf9 hv hs (fun H1 s1=>?_)
 unfold zr9 at q
 cases eb:zy9 d
 ·have q:=q _ s1
  rw[eb] at q
  refine zd2 (br_F ?_)
  refine br_T ?_
  walk_at "wh"
  exact q
 cases hv
 case lst a xs ds e l=>
  have q:∀ H',Same H H'->Q (.bl (true&&(decide ((ds.length:Int)=f)&&(ds.all rowD&&(fullD h (ds.getD 0 .none)&&(goneD (ds.getD (ds.length - 1) .none)&&zag2 ds)))))) H':=fun H' s'=>by
   have q:=q H' s'
   rw[eb] at q
   exact q
  have ll:=l.len
  obtain⟨dl,dm⟩:=zw0 hs
  have d0:0<ds.length:=by
   have eb:(decide (0<ds.length)&&rowD (ds.getD 0 .none)&&decide (0<(zl3 (ds.getD 0 .none)).length))=true:=eb
   rw[zcr6,zcr6] at eb
   exact of_decide_eq_true eb.1.1
  have e1:=s1 _ _ e
  refine zd2 (br_T ?_)
  refine zh3 e1 ?_
  rw[ll]
  refine zd2 (zf5 (fun hf=>?_) (fun hf=>?_))
  ·rw[decide_eq_true hf,zcu8,zcu8] at q
   refine zc6 e1 ?_
   refine zn6 (Wk.list (SqL.of e1)) (by rw[sizeLine_eq];omega) (fun i=>.bl (rowD (ds.getD i .none))) (fun _=>true) (fun j σ=>∃ t:Option V,σ=[t]) ⟨none,rfl⟩ ?_ ?_
   ·rintro j x σ H2 R S hj s2 hx ⟨t,rfl⟩ k _
    obtain⟨d,ed,hd⟩:=l.get j x hx
    refine br_T ?_
    refine zbq3 (hd.same (s1.trans s2)) (dm d (zcp9 ed)) (fun H3 s3=>?_)
    walk_at "wh"
    rw[← getD_some ed]
    exact k rfl _ _ s3 ⟨_,rfl⟩
   intro acc H2 f2 s2 h2
   rw[ze4,ll,zai5 rowD] at h2
   have s02:=s1.trans s2
   refine zv5 h2 ?_
   rw[zbd0]
   cases ea:ds.all rowD
   ·have q:=q _ s02
    rw[ea] at q
    refine zd2 (br_F ?_)
    walk_at "wh"
    exact q
   have ea':∀ d∈ds,rowD d=true:=zcs6.mp ea
   rw[ea,zcu8] at q
   refine zd2 (br_T ?_)
   obtain⟨x0,ex0⟩:∃ x,xs[0]?=some x:=⟨_,zcp1 (by walk_at "om")⟩
   obtain⟨d0',ed0,hd0⟩:=l.get 0 x0 ex0
   have m0:=dm d0' (zcp9 ed0)
   obtain⟨r0,ts0,es0,rfl,rfl,hr0,hl0,hp0,_⟩:=zat6 hd0 (ea' d0' (zcp9 ed0))
   have b0:=(zw0 m0).1
   rw[getD_some ed0] at q
   have e2:=s2 _ _ e1
   refine zb0 (v:=.ref r0) e2 (zc5 (j:=0) ex0) ?_
   refine zc6 (s02 _ _ hr0) ?_
   refine zn6 (Wk.list (SqL.of (s02 _ _ hr0))) (by rw[zcp2,sizeLine_eq];omega) (fun i=>.bl (decide (((rowF (.list es0)).getD i (0,0,0)).1=h))) (fun _=>true) (fun j σ=>∃ t u w:Option V,σ=[t,u,w,some (.int h)]) ⟨none,none,none,rfl⟩ ?_ ?_
   ·rintro i x σ I R S hi s3 hx ⟨_,_,_,rfl⟩ k _
    rw[zcp2] at hi
    rw[zcp5] at hx
    obtain⟨t,et,rfl⟩:=zcp7.mp hx
    obtain⟨z,ez⟩:∃ z,(rowF (.list es0))[i]?=some z:=⟨_,zcp1 (by rw[zn3];omega)⟩
    rw[show (rowF (.list es0)).getD i (0,0,0)=z by rw[zcp6,ez];rfl] at k
    refine ze3 (s3 _ _ (s02 _ _ (hp0 i t z et ez))) ?_
    refine br_T ?_
    walk_at "wh"
    exact k rfl _ _ (Same.refl _) ⟨_,_,_,rfl⟩
   intro acc3 H3 f3 s3 h3
   rw[ze4,zcp2,hl0,← zn3 es0,zav1 fun z=>decide (z.1=h)] at h3
   refine zv5 h3 ?_
   rw[zbc4]
   obtain⟨x1,ex1⟩:∃ x,xs[ds.length - 1]?=some x:=⟨_,zcp1 (by walk_at "om")⟩
   obtain⟨d1',ed1,hd1⟩:=l.get _ x1 ex1
   have m1:=dm d1' (zcp9 ed1)
   obtain⟨r1,ts1,es1,rfl,rfl,hr1,hl1,hp1,_⟩:=zat6 hd1 (ea' d1' (zcp9 ed1))
   have b1:=(zw0 m1).1
   rw[getD_some ed1] at q
   have s03:=s02.trans s3
   have e3:=s3 _ _ e2
   refine zb0 (v:=.ref r1) e3 (zay8 (n:=ds.length - 1) (by walk_at "om") ex1) ?_
   refine zc6 (s03 _ _ hr1) ?_
   refine zn6 (Wk.list (SqL.of (s03 _ _ hr1))) (by rw[zcp2,sizeLine_eq];omega) (fun i=>.bl (decide (((rowF (.list es1)).getD i (0,0,0)).1=((rowF (.list es1)).getD i (0,0,0)).2.1))) (fun _=>true) (fun j σ=>∃ t u w:Option V,σ=[t,u,w]) ⟨none,none,none,rfl⟩ ?_ ?_
   ·rintro i x σ I R S hi s4 hx ⟨_,_,_,rfl⟩ k _
    rw[zcp2] at hi
    rw[zcp5] at hx
    obtain⟨t,et,rfl⟩:=zcp7.mp hx
    obtain⟨z,ez⟩:∃ z,(rowF (.list es1))[i]?=some z:=⟨_,zcp1 (by rw[zn3];omega)⟩
    rw[show (rowF (.list es1)).getD i (0,0,0)=z by rw[zcp6,ez];rfl] at k
    refine ze3 (s4 _ _ (s03 _ _ (hp1 i t z et ez))) ?_
    refine br_T ?_
    walk_at "wh"
    exact k rfl _ _ (Same.refl _) ⟨_,_,_,rfl⟩
   intro acc4 H4 f4 s4 h4
   rw[ze4,zcp2,hl1,← zn3 es1,zav1 fun z=>decide (z.1=z.2.1)] at h4
   refine zv5 h4 ?_
   rw[zbc4]
   have s04:=s03.trans s4
   have e4:=s4 _ _ e3
   have q:∀ H',Same H H'->Q (.bl ((rowF (.list es0)).all (fun z=>decide (z.1=h))&&((rowF (.list es1)).all (fun z=>decide (z.1=z.2.1))&&zag2 ds))) H':=q
   walk_at "wh"
   cases e5:(rowF (.list es0)).all (fun z=>decide (z.1=h))
   ·have q:=q _ s04
    rw[e5] at q
    refine br_F ?_
    walk_at "wh"
    exact q
   rw[e5,zcu8] at q
   refine br_T ?_
   walk_at "wh"
   cases e6:(rowF (.list es1)).all (fun z=>decide (z.1=z.2.1))
   ·have q:=q _ s04
    rw[e6] at q
    refine br_F ?_
    walk_at "wh"
    exact q
   rw[e6,zcu8] at q
   refine br_T ?_
   refine zai3 (SqL.of e4) (fun p5 H5 f5 s5 h5=>?_)
   rw[zab0 (by walk_at "om")] at h5
   have s05:=s04.trans s5
   refine zbm9 (SqL.of (s5 _ _ e4)) (SqL.of h5) ?_
   refine zn6 (Wk.zipN (n:=ds.length - 1) (SqL.of (s5 _ _ e4)) (SqL.of h5) (by walk_at "om") (by rw[zcv2];show _<=_ - 1;omega) (.inr (by rw[zcv2,ll];rfl))) (by rw[sizeLine_eq];omega) (fun i=>.bl (zac8 (ds.getD i .none) (ds.getD (i+1) .none))) (fun _=>true) (fun j σ=>∃ t u:Option V,σ=[t,u]) ⟨none,none,rfl⟩ ?_ ?_
   ·rintro j v σ H6 R S hj s6 ⟨p,x,y,rfl,hp,hx,hy⟩ ⟨t,u,rfl⟩ k _
    rw[List.getElem?_drop,show (1:Int).toNat+j=j+1 by show 1+j=j+1;omega] at hy
    obtain⟨d,ed,hd⟩:=l.get j x hx
    obtain⟨d',ed',hd'⟩:=l.get (j+1) y hy
    have s06:=s05.trans s6
    rw[getD_some ed,getD_some ed'] at k
    have il:∀ {d:PyData},sml d=true->rowD d=true->(zl3 d).length<=1000:=fun {d} m r=>by
     cases d with
     | list es=>exact (zw0 m).1
     | _=>simp[rowD] at r
    have rd:=ea' d (zcp9 ed)
    have rd':=ea' d' (zcp9 ed')
    refine ze3 hp ?_
    refine br_T ?_
    refine zbi4 (hd.same s06) (hd'.same s06) rd rd' (il (dm d (zcp9 ed)) rd) (il (dm d' (zcp9 ed')) rd') (fun H7 s7=>?_)
    walk_at "wh"
    exact k rfl _ _ s7 ⟨_,_,rfl⟩
   intro acc6 H6 f6 s6 h6
   rw[ze4] at h6
   have h6:H6 acc6=some (.lst (((List.range (ds.length - 1)).map fun i=>zac8 (ds.getD i .none) (ds.getD (i+1) .none)).map V.bl)):=by rw[h6,zcs9];rfl
   refine zv5 h6 ?_
   rw[zcw4]
   exact q _ (s05.trans s6)
  ·have q:=q _ s1
   rw[decide_eq_false hf] at q
   refine br_T ?_
   walk_at "wh"
   exact q
 all_goals simp[zy9] at eb
structure RwAt (H:Hp) (p:Addr) (bs:List Addr) (xs:List (Int×Int×Int)):Prop where
 out:H p=some (.lst (bs.map V.ref))
 len:bs.length=xs.length
 row:∀ (i:Nat) b x,bs[i]?=some b->xs[i]?=some x->H b=some (.tup [.int x.1,.int x.2.1,.int x.2.2])
theorem RwAt.same {H H':Hp}{p:Addr}{bs:List Addr}{xs:List (Int×Int×Int)}(R:RwAt H p bs xs) (s:Same H H'):RwAt H' p bs xs:=⟨s _ _ R.out,R.len,fun i b x e1 e2=>s _ _ (R.row i b x e1 e2)⟩
def flw (ms:List (List Int×Int)) (i:Nat):List ((Int×Int)×Int):=ms.map fun x=>(((x.1.drop i).sum,x.1.getD i 0),x.2)
def keyT (z:Int×Int×Int):Int×Int:=(z.1,z.2.1)
def zx3 (ms:List (List Int×Int)) (i:Nat) (xs:List (Int×Int×Int)):Prop:=OrdK (xs.map keyT)/\(∀ k,k∈xs.map keyT↔k∈(sumG (flw ms i)).map (·.1))/\∀ z∈xs,valG (sumG (flw ms i)) (keyT z)=some z.2.2
theorem zbc1 {κ:Type}[DecidableEq κ] {k:κ}:∀ {kv:List (κ×Int)},k∈kv.map (·.1)->∃ n,valG kv k=some n
 | [],h=>by cases h
 | z :: kv,h=>by
  by_cases e:z.1=k
  ·exact⟨z.2,zo0 e⟩
  ·rw[zo1 e]
   rw[zcs0] at h
   rcases zcq6.mp h with h|h
   ·exact absurd h.symm e
   ·exact zbc1 h
structure StAt (H:Hp) (p:Addr) (rs:List (Addr×List Addr)) (xss:List (List (Int×Int×Int))):Prop where
 out:H p=some (.lst (rs.map fun r=>V.ref r.1))
 len:rs.length=xss.length
 row:∀ (i:Nat) r xs,rs[i]?=some r->xss[i]?=some xs->RwAt (rm p H) r.1 r.2 xs
 nd:(rs.map (·.1)).Nodup
theorem StAt.same {H H':Hp}{p:Addr}{rs:List (Addr×List Addr)}{xss:List (List (Int×Int×Int))}(R:StAt H p rs xss) (s:Same H H'):StAt H' p rs xss:=⟨s _ _ R.out,R.len,fun i r xs e1 e2=>(R.row i r xs e1 e2).same (Same.rm s),R.nd⟩
def zaa5 (ms:List (List Int×Int)) (f:Nat) (xss:List (List (Int×Int×Int))):Prop:=xss.length=f/\∀ (i:Nat) xs,xss[i]?=some xs->zx3 ms i xs/\xs.length<=ms.length
theorem zj1 {α:Type}{as:List α}{a b:α}{i:Nat}(h:(as++[a])[i]?=some b):(i<as.length/\as[i]?=some b)∨(i=as.length/\b=a):=by
 by_cases hi:i<as.length
 ·rw[zct0 hi] at h
  exact .inl ⟨hi,h⟩
 ·rw[zct2 (by walk_at "om")] at h
  have:i - as.length=0:=by
   have:=(zcp4.mp h).1
   simp at this;omega
  rw[this] at h
  cases h
  exact .inr ⟨by walk_at "om",rfl⟩
theorem zcg0 {H1 I I1:Hp}{acc r:Addr}{rs:List (Addr×List Addr)}{xss:List (List (Int×Int×Int))}{bs:List Addr}(nd:(rs.map (·.1)).Nodup) (hl:rs.length=xss.length) (rp:∀ (i:Nat) r xs,rs[i]?=some r->xss[i]?=some xs->RwAt (rm acc (nw H1 I)) r.1 r.2 xs) (hr:I r=none):((rs++[(r,bs)]).map (·.1)).Nodup:=by
 rw[zcr5,List.nodup_append]
 refine⟨nd,by simp,fun a ha b hb=>?_⟩
 obtain⟨r',hr',rfl⟩:=zcr9.mp ha
 obtain⟨i,ei⟩:=zcu9 hr'
 obtain⟨xs,ex⟩:∃ xs,xss[i]?=some xs:=⟨_,zcp1 (by have:=(zcp4.mp ei).1;omega)⟩
 have o:=zav7 _ _ _ _ (zae8 _ _ _ _ (rp i r' xs ei ex).out)
 rw[show b=r by simpa using hb]
 exact za6 o hr
theorem zaw3 {H:Hp}:∀ {xs:List V}{ds:List PyData}{ys:List V}{es:List PyData},ShL H xs ds->ShL H ys es->ShL H (xs++ys) (ds++es)
 | _,_,_,_,.nil,b=>b
 | _,_,_,_,.cons h a,b=>.cons h (zaw3 a b)
theorem zs4 {d:PyData}:∀ {ds:List PyData},d∈ds->d.depth<=PyData.depthAll ds
 | [],h=>by cases h
 | e :: ds,h=>by
  rw[show PyData.depthAll (e :: ds)=max e.depth (PyData.depthAll ds) from rfl]
  rcases zcq6.mp h with rfl|h
  ·exact Nat.le_max_left _ _
  ·exact zcu1 (zs4 h) (Nat.le_max_right _ _)
def zam8:Nat->Sp
 | 0=>fun _ _ _ _=>False
 | n+1=>fun vs H Q _=>∃ (v:V) (d:PyData),vs=[v]/\ShV H v d/\sml d=true/\d.depth<=n/\∀ v' H',Same H H'->ShV (nw H H') v' d->Q v' H'
@[irreducible] def zk5:Sp:=zam8 9
theorem zba1 {H:Hp}{v:V}{d:PyData}{Q:VK}{E:XK}(h:ShV H v d) (hs:sml d=true) (hd:d.depth<=8) (q:∀ v' H',Same H H'->ShV (nw H H') v' d->Q v' H'):zk5 [v] H Q E:=by unfold zk5;exact⟨v,d,rfl,h,hs,hd,q⟩
set_option maxHeartbeats 0 in
theorem zar8 {f:Addr}{fd:FuncData}(F:Fun K "_law_deep" "_law_deep" zm4 f fd) (N:Nm mg) (hgR:mg "_law_deep"=some (.ref f)) (hkR:zcq3 K (.ref f)=true) (hbR:zah3 K fd ["_law_thing"] []):FnOk P w K mg base CX0 10 f fd ["_law_thing"] zk5:=by
 have key:∀ n,FnOk P w K mg base CX0 (n+1) f fd ["_law_thing"] (zam8 n):=by
  intro n
  induction n with
  | zero=>exact F.ok zz9 (fun vs H Q E h=>h.elim) (fun cdv A outer s H vs Q E hr h=>h.elim)
  | succ n ih=>
   have zck0:Def P w K mg base CX0 (n+1) "_law_deep" ["_law_thing"] (zam8 n):=⟨f,fd,ih,hgR,hkR,hbR⟩
   refine F.ok zz9 (fun vs H Q E h=>by obtain⟨_,_,rfl,_⟩:=h;rfl) (fun cdv A outer s H vs Q E hr h=>?_)
   refine⟨_,(za4 (psIf (ptV (pB (zaf1 (K:=K) rfl) N.isinstance_ zb9 (za0 (pq 0) (za0 (pTy N.list_ zac1) za1)))) (za5 (za9 (zf4 (N:=["_law_part"]) (ks:=[none]) (zi0 (K:=K) rfl (pq 0)) (fun cl C s3 H3 fp=>(za7 (i:=0) nb_18 rfl (by first|exact Or.inl rfl|exact Or.inr rfl))) (fun cl C s3 H3 fp=>zc7) (fun cl C s3 H3 fp=>(pD zck0 hr zb7 (za0 (pq 0) za1) (hk:=by walk_at "om"))) (.skip .nil)))) zb8)
   (za4 (psIf (ptV (pB (zaf1 (K:=K) rfl) N.isinstance_ zb9 (za0 (pq 0) (za0 (pTy N.tuple_ zx1) za1)))) (za5 (za9 (pT (cTupK (K:=K) rfl) N.tuple_ zx1 (za0 (zf4 (N:=["_law_part"]) (ks:=[none]) (zi0 (K:=K) rfl (pq 0)) (fun cl C s3 H3 fp=>(za7 (i:=0) nb_18 rfl (by first|exact Or.inl rfl|exact Or.inr rfl))) (fun cl C s3 H3 fp=>zc7) (fun cl C s3 H3 fp=>(pD zck0 hr zb7 (za0 (pq 0) za1) (hk:=by walk_at "om"))) (.skip .nil)) za1)))) zb8)
   (za5 (za9 (pq 0))))),?_⟩
   obtain⟨v,d,rfl,hv,hs,hd,q⟩:=h
   have inside:∀ {acc:Addr}{I I1 I2:Hp}{ys:List V},Same H I->I acc=some (.lst ys)->Same I I1->Chg acc I1 I2->Same (rm acc (nw H I)) (rm acc (nw H I2))/\Same (nw I I1) (rm acc (nw H I2)):=fun {acc I I1 I2 ys} s2 hacc s3 c2=>
    ⟨fun b o z=>by
     obtain⟨z1,z2⟩:=zt1 z
     obtain⟨z3,z4⟩:=zy8 z2
     exact zw9 z1 (zp7 z3 (c2 _ _ z1 (s3 _ _ z4))),
    fun b o z=>by
     obtain⟨z3,z4⟩:=zy8 z
     have nb:b≠acc:=fun w=>by rw[w,hacc] at z3;cases z3
     exact zw9 nb (zp7 (s2.free z3) (c2 _ _ nb z4))⟩
   refine zu0 hv (.inr (.inr (.inl rfl))) ?_
   cases hv
   case lst a xs ds e l=>
    have ll:=l.len
    obtain⟨dl,dm⟩:=zw0 hs
    have hd:PyData.depthAll ds+1<=n:=hd
    obtain⟨n',rfl⟩:∃ n',n=n'+1:=⟨n - 1,by walk_at "om"⟩
    refine br_T ?_
    refine zc6 e ?_
    refine zbm5 (Wk.list (SqL.of e)) (by rw[sizeLine_eq];omega) (fun acc j ys σ I=>∃ t:Option V,σ=[t]/\ShL (rm acc (nw H I)) ys (ds.take j)) ?_ ?_ ?_ ?_
    ·intro acc I f1 s2 h1
     exact⟨none,rfl,.nil⟩
    ·rintro acc j ys σ I I' s' ⟨t,r1,r2⟩
     exact⟨t,r1,r2.same (Same.rm (nw_up s'))⟩
    ·rintro acc j x ys σ I R S hj facc s1 hacc hx ⟨t,rfl,L⟩ kR _
     obtain⟨d,ed,hd'⟩:=l.get j x hx
     refine br_T ?_
     walk_at "wh"
     refine⟨x,d,rfl,hd'.same s1,dm d (zcp9 ed),by have:=zs4 (zcp9 ed);omega,fun v' I1 s2 S1=>?_⟩
     walk_at "wh"
     refine kR _ _ _ s2 (fun I2 c2=>⟨_,rfl,?_⟩)
     obtain⟨u1,u2⟩:=inside s1 hacc s2 c2
     rw[List.take_succ,ed]
     exact zaw3 (L.same u1) (.cons (S1.same u2) .nil)
    ·rintro acc ys σ I facc s1 hacc ⟨t,rfl,L⟩
     rw[ll,zcw9] at L
     walk_at "wh"
     exact q _ _ s1 (.lst (zp7 facc hacc) (L.same (zae8 _ _)))
   case tup a xs ds e l=>
    have ll:=l.len
    obtain⟨dl,dm⟩:=zbu5 hs
    have hd:PyData.depthAll ds+1<=n:=hd
    obtain⟨n',rfl⟩:∃ n',n=n'+1:=⟨n - 1,by walk_at "om"⟩
    refine br_F ?_
    refine zu0 (.tup e l) (.inr (.inr (.inr rfl))) ?_
    refine br_T ?_
    refine zbv1 e ?_
    refine zbm5 (Wk.tup e) (by rw[sizeLine_eq];omega) (fun acc j ys σ I=>∃ t:Option V,σ=[t]/\ShL (rm acc (nw H I)) ys (ds.take j)) ?_ ?_ ?_ ?_
    ·intro acc I f1 s2 h1
     exact⟨none,rfl,.nil⟩
    ·rintro acc j ys σ I I' s' ⟨t,r1,r2⟩
     exact⟨t,r1,r2.same (Same.rm (nw_up s'))⟩
    ·rintro acc j x ys σ I R S hj facc s1 hacc hx ⟨t,rfl,L⟩ kR _
     obtain⟨d,ed,hd'⟩:=l.get j x hx
     refine br_T ?_
     walk_at "wh"
     refine⟨x,d,rfl,hd'.same s1,dm d (zcp9 ed),by have:=zs4 (zcp9 ed);omega,fun v' I1 s2 S1=>?_⟩
     walk_at "wh"
     refine kR _ _ _ s2 (fun I2 c2=>⟨_,rfl,?_⟩)
     obtain⟨u1,u2⟩:=inside s1 hacc s2 c2
     rw[List.take_succ,ed]
     exact zaw3 (L.same u1) (.cons (S1.same u2) .nil)
    ·rintro acc ys σ I facc s1 hacc ⟨t,rfl,L⟩
     rw[ll,zcw9] at L
     refine zch6 (SqL.of hacc) (fun p2 I2 f2 s2 h2=>?_)
     walk_at "wh"
     exact q _ _ (s1.trans s2) (.tup (zp7 (s1.free f2) h2) ((L.same (zae8 _ _)).same (nw_up s2)))
   all_goals
    refine br_F ?_
    walk_at "wh"
    first
     | refine zbm0 ?_ (by rfl)
     | refine zan9 ?_ (by rfl)
     | refine zan8 ?_ (by rfl)
     | refine zbl2 ?_ (by rfl)
    refine br_F ?_
    walk_at "wh"
    exact q _ _ (Same.refl _) (by constructor)
 unfold zk5
 exact key 9
def okD (n:Nat) (d:PyData):Prop:=sml d=true/\d.canLay0=true/\d.depth<=n
def Rd (H:Hp) (v:V) (n:Nat):Prop:=∃ d,ShV H v d/\okD n d/\(zl3 d).length<60
theorem Rd.same {H H':Hp}{v:V}{n:Nat}(h:Rd H v n) (s:Same H H'):Rd H' v n:=by obtain⟨d,h1,h2⟩:=h;exact⟨d,h1.same s,h2⟩
theorem okD.up {n m:Nat}{d:PyData}(h:okD n d) (l:n<=m):okD m d:=⟨h.1,h.2.1,zcu1 h.2.2 l⟩
theorem Rd.up {H:Hp}{v:V}{n m:Nat}(h:Rd H v n) (l:n<=m:=by decide):Rd H v m:=by obtain⟨d,h1,h2⟩:=h;exact⟨d,h1,h2.1.up l,h2.2⟩
theorem Rd.int {H:Hp}(i:Int) (n:Nat):Rd H (.int i) n:=⟨.int i,.int i,⟨rfl,rfl,zct3 _⟩,by show (0:Nat)<60;decide⟩
theorem Rd.non {H:Hp}(n:Nat):Rd H .non n:=⟨.none,.non,⟨rfl,rfl,zct3 _⟩,by show (0:Nat)<60;decide⟩
theorem zbz1 {ds:List PyData}(h:∀ d∈ds,d.canLay0=true):PyData.canLayAll0 ds=true:=by
 induction ds with
 | nil=>rfl
 | cons d ds ih=>
  show (d.canLay0&&PyData.canLayAll0 ds)=true
  rw[h d (.head _),ih fun x hx=>h x (.tail _ hx)];rfl
theorem zy7:∀ {ds:List PyData},PyData.canLayAll0 ds=true->∀ d∈ds,d.canLay0=true
 | [],_,d,h=>by cases h
 | e :: ds,h,d,hd=>by
  have h:(e.canLay0&&PyData.canLayAll0 ds)=true:=h
  rw[zcr6] at h
  rcases zcq6.mp hd with rfl|hd
  ·exact h.1
  ·exact zy7 h.2 d hd
theorem zbz6 {ds:List PyData}{n:Nat}(h:∀ d∈ds,d.depth<=n):PyData.depthAll ds<=n:=by
 induction ds with
 | nil=>exact zct3 _
 | cons d ds ih=>
  rw[show PyData.depthAll (d :: ds)=max d.depth (PyData.depthAll ds) from rfl]
  exact Nat.max_le.mpr ⟨h d (.head _),ih fun x hx=>h x (.tail _ hx)⟩
theorem okD.list {n:Nat}{ds:List PyData}(l:ds.length<=1000) (h:∀ d∈ds,okD n d):okD (n+1) (.list ds):=
 ⟨by simp only[sml,zcr6,decide_eq_true_eq];exact⟨by walk_at "om",zt3 fun d hd=>(h d hd).1⟩,zbz1 fun d hd=>(h d hd).2.1,Nat.succ_le_succ (zbz6 fun d hd=>(h d hd).2.2)⟩
theorem okD.tuple {n:Nat}{ds:List PyData}(l:ds.length<=1000) (h:∀ d∈ds,okD n d):okD (n+1) (.tuple ds):=
 ⟨by simp only[sml,zcr6,decide_eq_true_eq];exact⟨by walk_at "om",zt3 fun d hd=>(h d hd).1⟩,zbz1 fun d hd=>(h d hd).2.1,Nat.succ_le_succ (zbz6 fun d hd=>(h d hd).2.2)⟩
theorem Rd.lst {H:Hp}{a:Addr}{xs:List V}{n:Nat}(e:H a=some (.lst xs)) (l:xs.length<60) (h:∀ x∈xs,Rd H x n):Rd H (.ref a) (n+1):=by
 obtain⟨ds,h1,h2⟩:=ShL.ex (P:=fun d=>okD n d) fun x hx=>by obtain⟨d,h1,h2,_⟩:=h x hx;exact⟨d,h1,h2⟩
 exact⟨.list ds,.lst e h1,okD.list (by rw[← h1.len];omega) h2,by show ds.length<60;rw[← h1.len];exact l⟩
theorem Rd.tup {H:Hp}{a:Addr}{xs:List V}{n:Nat}(e:H a=some (.tup xs)) (l:xs.length<60) (h:∀ x∈xs,Rd H x n):Rd H (.ref a) (n+1):=by
 obtain⟨ds,h1,h2⟩:=ShL.ex (P:=fun d=>okD n d) fun x hx=>by obtain⟨d,h1,h2,_⟩:=h x hx;exact⟨d,h1,h2⟩
 exact⟨.tuple ds,.tup e h1,okD.tuple (by rw[← h1.len];omega) h2,by show (0:Nat)<60;decide⟩
theorem zan4:∀ {n:Nat}{d:PyData},d.depth<=n->d.canLay0=true->d.eqv d=true
 | _,.none,_,_=>rfl
 | _,.bool b,_,_=>by show (b==b)=true;exact beq_self_eq_true _
 | _,.int i,_,_=>by show (i==i)=true;exact beq_self_eq_true _
 | _,.str x,_,_=>by show (x==x)=true;exact beq_self_eq_true _
 | 0,.list ds,h,_=>by have h:PyData.depthAll ds+1<=0:=h;omega
 | 0,.tuple ds,h,_=>by have h:PyData.depthAll ds+1<=0:=h;omega
 | n+1,.list ds,h,c=>by
  have h:PyData.depthAll ds+1<=n+1:=h
  have c:PyData.canLayAll0 ds=true:=c
  show PyData.eqvAll ds ds=true
  exact all ds (fun d hd=>zan4 (n:=n) (zcu1 (zs4 hd) (by walk_at "om")) (zy7 c d hd))
 | n+1,.tuple ds,h,c=>by
  have h:PyData.depthAll ds+1<=n+1:=h
  have c:PyData.canLayAll0 ds=true:=c
  show PyData.eqvAll ds ds=true
  exact all ds (fun d hd=>zan4 (n:=n) (zcu1 (zs4 hd) (by walk_at "om")) (zy7 c d hd))
 | _,.dict _,_,c=>by cases (show false=true from c)
where all:∀ ds:List PyData,(∀ d∈ds,d.eqv d=true)->PyData.eqvAll ds ds=true
 | [],_=>rfl
 | d :: ds,h=>by
  show (d.eqv d&&PyData.eqvAll ds ds)=true
  rw[h d (.head _),all ds fun x hx=>h x (.tail _ hx)];rfl
theorem okD.eqv {n:Nat}{d:PyData}(h:okD n d):d.eqv d=true:=zan4 h.2.2 h.2.1
theorem zp2:∀ {ns:List Int},(∀ x∈ns,0<=x)->(∀ x∈ns,x<=ns.sum)/\0<=ns.sum
 | [],_=>⟨fun x h=>by (cases h),Int.le_refl _⟩
 | n :: ns,h=>by
  have h0:=h n (.head _)
  obtain⟨i1,i2⟩:=zp2 (ns:=ns) fun y hy=>h y (.tail _ hy)
  rw[zct9]
  refine⟨fun x hx=>?_,by walk_at "om"⟩
  rcases zcq6.mp hx with rfl|hx
  ·omega
  ·have:=i1 x hx;omega
section
variable {κ μ:Type}[DecidableEq κ] [DecidableEq μ]
def atG (zs:List (κ×Int)) (k:κ):Int:=((zs.filter fun z=>decide (z.1=k)).map (·.2)).sum
theorem zbp6 {kv:List (κ×Int)}{k:κ}:k ∉ kv.map (·.1)->valG kv k=none:=by
 induction kv with
 | nil=>intro _;rfl
 | cons z kv ih=>
  intro h
  rw[zcs0,zcq6,not_or] at h
  rw[zo1 (fun e=>h.1 e.symm),ih h.2]
theorem zbw0 (kv:List (κ×Int)) (k j:κ) (n:Int):valG (kv.map fun z=>if z.1=k then (z.1,n) else z) j=if j=k then (if j∈kv.map (·.1) then some n else none) else valG kv j:=by
 induction kv with
 | nil=>by_cases e:j=k<;>simp[e,valG]
 | cons z kv ih=>
  rw[zcs0]
  by_cases ez:z.1=j
  ·subst ez
   by_cases ek:z.1=k
   ·rw[if_pos ek,if_pos ek,zo0 (z:=(z.1,n)) rfl,if_pos (by simp)]
   ·rw[if_neg ek,if_neg ek,zo0 rfl,zo0 rfl]
  ·have:¬ (if z.1=k then (z.1,n) else z).1=j:=by split<;>exact ez
   rw[zo1 this,ih,zo1 ez]
   by_cases ek:j=k
   ·rw[if_pos ek,if_pos ek]
    have:(j∈(z :: kv).map (·.1))↔j∈kv.map (·.1):=by
     rw[zcs0,zcq6]
     exact⟨fun h=>h.resolve_left fun e=>ez e.symm,.inr⟩
    by_cases h:j∈kv.map (·.1)
    ·rw[if_pos h,if_pos (this.mpr h)]
    ·rw[if_neg h,if_neg fun z=>h (this.mp z)]
   ·rw[if_neg ek,if_neg ek]
theorem zal7 (kv:List (κ×Int)) (k:κ):(kv.any fun z=>decide (z.1=k))=true↔k∈kv.map (·.1):=by
 rw[List.any_eq_true,zcr9]
 exact⟨fun ⟨z,h1,h2⟩=>⟨z,h1,of_decide_eq_true h2⟩,fun ⟨z,h1,h2⟩=>⟨z,h1,decide_eq_true h2⟩⟩
theorem zbt7 (kv:List (κ×Int)) (z:κ×Int) (j:κ):valG (kv++[z]) j=match valG kv j with|some n=>some n|none=>if z.1=j then some z.2 else none:=by
 induction kv with
 | nil=>
  by_cases e:z.1=j
  ·show valG [z] j=if z.1=j then some z.2 else none;rw[zo0 e,if_pos e]
  ·show valG [z] j=if z.1=j then some z.2 else none;rw[zo1 e,if_neg e];rfl
 | cons y kv ih=>
  rw[List.cons_append]
  by_cases e:y.1=j
  ·rw[zo0 e,zo0 e]
  ·rw[zo1 e,zo1 e,ih]
theorem zbs4 (kv:List (κ×Int)) (k j:κ) (n:Int):valG (putG kv k n) j=if j=k then some n else valG kv j:=by
 unfold putG
 by_cases h:(kv.any fun z=>decide (z.1=k))=true
 ·rw[if_pos h,zbw0]
  by_cases e:j=k
  ·rw[if_pos e,if_pos e,if_pos (by rw[e];exact (zal7 kv k).mp h)]
  ·rw[if_neg e,if_neg e]
 ·rw[if_neg h,zbt7]
  have hk:k ∉ kv.map (·.1):=fun z=>h ((zal7 kv k).mpr z)
  by_cases e:j=k
  ·subst e
   rw[zbp6 hk,if_pos rfl]
   first|done|exact if_pos rfl
  ·rw[if_neg e]
   cases valG kv j with
   | none=>exact if_neg fun z=>e z.symm
   | some m=>rfl
theorem zbs5 (zs:List (κ×Int)) (z:κ×Int) (k:κ):atG (zs++[z]) k=atG zs k+if z.1=k then z.2 else 0:=by
 unfold atG
 rw[List.filter_append,zcr5,List.sum_append]
 by_cases e:z.1=k
 ·rw[if_pos e,zcx0,if_pos (decide_eq_true e)];simp
 ·rw[if_neg e,zcx0,if_neg (by rw[decide_eq_false e];exact zcq0)];simp
theorem zal8 (zs:List (κ×Int)) (z:κ×Int) (k:κ):atG (z :: zs) k=(if z.1=k then z.2 else 0)+atG zs k:=by
 unfold atG
 by_cases e:z.1=k
 ·rw[if_pos e,zcx0,if_pos (decide_eq_true e)];simp
 ·rw[if_neg e,zcx0,if_neg (by rw[decide_eq_false e];exact zcq0)];simp
theorem zbb1 {α:Type}{P:List α->Prop}(h0:P []) (hs:∀ xs x,P xs->P (xs++[x])) (xs:List α):P xs:=by
 have:∀ n (xs:List α),xs.length=n->P xs:=fun n=>by
  induction n with
  | zero=>intro xs h;rw[List.length_eq_zero_iff.mp h];exact h0
  | succ n ih=>
   intro xs h
   have hn:xs≠[]:=fun z=>by rw[z] at h;simp at h
   rw[← List.dropLast_concat_getLast hn]
   exact hs _ _ (ih _ (by rw[List.length_dropLast];omega))
 exact this _ xs rfl
theorem zag1 (zs:List (κ×Int)) (k:κ):valG (sumG zs) k=if k∈zs.map (·.1) then some (atG zs k) else none:=by
 induction zs using zbb1 with
 | h0=>rfl
 | hs zs z ih=>
  rw[zw7]
  unfold addG
  rw[zbs4,zbs5]
  have mm:k∈(zs++[z]).map (·.1)↔(k∈zs.map (·.1)∨k∈[z].map (·.1)):=by rw[zcr5,zct7]
  by_cases e:k=z.1
  ·subst e
   rw[if_pos rfl,if_pos (mm.mpr (.inr (by simp))),if_pos rfl,ih]
   by_cases h:z.1∈zs.map (·.1)
   ·rw[if_pos h];rfl
   ·rw[if_neg h]
    have:atG zs z.1=0:=by
     unfold atG
     rw[List.filter_eq_nil_iff.mpr fun y hy hd=>h (zcr9.mpr ⟨y,hy,of_decide_eq_true hd⟩)];rfl
    rw[this];rfl
  ·have z0:(if z.1=k then z.2 else 0)=0:=if_neg fun q=>e q.symm
   rw[if_neg e,ih,z0,Int.add_zero]
   have:(k∈zs.map (·.1)∨k∈[z].map (·.1))↔k∈zs.map (·.1):=⟨fun h=>h.resolve_right fun q=>e (by simpa using q),.inl⟩
   by_cases h:k∈zs.map (·.1)
   ·rw[if_pos h,if_pos (mm.mpr (.inl h))]
   ·rw[if_neg h,if_neg fun q=>h (this.mp (mm.mp q))]
theorem zbt9 (kv:List (κ×Int)) (k:κ) (n:Int):(putG kv k n).map (·.1)=if k∈kv.map (·.1) then kv.map (·.1) else kv.map (·.1)++[k]:=by
 unfold putG
 by_cases h:(kv.any fun z=>decide (z.1=k))=true
 ·rw[if_pos h,if_pos ((zal7 kv k).mp h),zcs9]
  refine zcr2 fun z _=>?_
  show (if z.1=k then (z.1,n) else z).1=z.1
  split<;>rfl
 ·rw[if_neg h,if_neg fun z=>h ((zal7 kv k).mpr z),zcr5];rfl
theorem zn2 (zs:List (κ×Int)):((sumG zs).map (·.1)).Nodup/\∀ k,k∈(sumG zs).map (·.1)↔k∈zs.map (·.1):=by
 induction zs using zbb1 with
 | h0=>exact⟨List.nodup_nil,fun k=>Iff.rfl⟩
 | hs zs z ih=>
  rw[zw7]
  unfold addG
  rw[zbt9]
  by_cases h:z.1∈(sumG zs).map (·.1)
  ·rw[if_pos h]
   refine⟨ih.1,fun k=>?_⟩
   rw[ih.2,zcr5,zct7]
   exact⟨.inl,fun q=>q.elim id fun q=>by rw[show k=z.1 by simpa using q];exact (ih.2 _).mp h⟩
  ·rw[if_neg h]
   refine⟨?_,fun k=>?_⟩
   ·rw[List.nodup_append]
    refine⟨ih.1,by simp,fun a ha b hb=>?_⟩
    rw[show b=z.1 by simpa using hb]
    exact fun q=>h (q▸ha)
   ·rw[zct7,ih.2,zcr5,zct7];rfl
theorem zbu1 {kv:List (κ×Int)}(nd:(kv.map (·.1)).Nodup) {z:κ×Int}(h:z∈kv):valG kv z.1=some z.2:=by
 induction kv with
 | nil=>cases h
 | cons y kv ih=>
  rw[zcs0,zcx2] at nd
  rcases zcq6.mp h with rfl|h
  ·exact zo0 rfl
  ·rw[zo1 (fun e=>nd.1 (e▸zcr9.mpr ⟨z,h,rfl⟩))]
   exact ih nd.2 h
theorem atG_ge {zs:List (κ×Int)}(h1:∀ z∈zs,1<=z.2):∀ {k:κ},(0<=atG zs k)/\(k∈zs.map (·.1)->1<=atG zs k):=by
 induction zs with
 | nil=>exact fun {k}=>⟨Int.le_refl _,fun h=>by cases h⟩
 | cons z zs ih=>
  intro k
  obtain⟨i1,i2⟩:=ih (fun y hy=>h1 y (.tail _ hy)) (k:=k)
  have z1:=h1 z (.head _)
  rw[zal8]
  by_cases e:z.1=k
  ·rw[if_pos e]
   exact⟨by walk_at "om",fun _=>by walk_at "om"⟩
  ·rw[if_neg e]
   refine⟨by walk_at "om",fun h=>?_⟩
   rw[zcs0,zcq6] at h
   have:=i2 (h.resolve_left fun q=>e q.symm)
   omega
theorem zaw1 {p:κ->Bool}{a:κ}{c:Int}:∀ {ks:List κ},ks.Nodup->((ks.filter p).map fun k=>if a=k then c else 0).sum=if a∈ks/\p a=true then c else 0
 | [],_=>by simp
 | k :: ks,nd=>by
  rw[zcx2] at nd
  have ih:=zaw1 (p:=p) (a:=a) (c:=c) nd.2
  rw[zcx0]
  by_cases e:a=k
  ·subst e
   have:¬ (a∈ks/\p a=true):=fun h=>nd.1 h.1
   rw[if_neg this] at ih
   by_cases hp:p a=true
   ·rw[if_pos hp,zcs0,zct9,ih,if_pos rfl,if_pos ⟨.head _,hp⟩];omega
   ·rw[if_neg hp,ih,if_neg fun h=>hp h.2]
  ·have:(a∈k :: ks/\p a=true)↔(a∈ks/\p a=true):=by rw[zcq6];exact⟨fun h=>⟨h.1.resolve_left e,h.2⟩,fun h=>⟨.inr h.1,h.2⟩⟩
   have st:∀ b,(if b=true then k :: ks.filter p else ks.filter p).map (fun k=>if a=k then c else 0)=if b=true then 0 :: (ks.filter p).map (fun k=>if a=k then c else 0) else (ks.filter p).map fun k=>if a=k then c else 0:=fun b=>by
    cases b
    ·rfl
    ·show (if a=k then c else 0) :: _=_
     rw[if_neg e];rfl
   rw[st]
   have s0:(if p k=true then (0:Int) :: (ks.filter p).map (fun k=>if a=k then c else 0) else (ks.filter p).map fun k=>if a=k then c else 0).sum=((ks.filter p).map fun k=>if a=k then c else 0).sum:=by
    split
    ·rw[zct9,zcv6]
    ·rfl
   rw[s0,ih]
   by_cases h:a∈ks/\p a=true
   ·rw[if_pos h,if_pos (this.mpr h)]
   ·rw[if_neg h,if_neg fun q=>h (this.mp q)]
theorem zab2 {α:Type}(f g:α->Int):∀ xs:List α,(xs.map fun x=>f x+g x).sum=(xs.map f).sum+(xs.map g).sum
 | []=>rfl
 | x :: xs=>by
  have:=zab2 f g xs
  simp only[zcs0,zct9]
  omega
theorem zbl9 {p:κ->Bool}{ks:List κ}(nd:ks.Nodup):∀ {zs:List (κ×Int)},(∀ z∈zs,z.1∈ks)->((ks.filter p).map (atG zs)).sum=((zs.filter fun z=>p z.1).map (·.2)).sum
 | [],_=>by
  have:((ks.filter p).map (atG ([]:List (κ×Int)))).sum=0:=by
   induction (ks.filter p) with
   | nil=>rfl
   | cons k l ih=>rw[zcs0,zct9,ih];rfl
  rw[this];rfl
 | z :: zs,h=>by
  have ih:=zbl9 (p:=p) nd (zs:=zs) fun y hy=>h y (.tail _ hy)
  have e:(ks.filter p).map (atG (z :: zs))=(ks.filter p).map fun k=>(if z.1=k then z.2 else 0)+atG zs k:=zcr2 fun k _=>zal8 zs z k
  rw[e,zab2,zaw1 nd,ih,zcx0]
  by_cases hp:p z.1=true
  ·rw[if_pos ⟨h z (.head _),hp⟩,if_pos hp];rfl
  ·rw[if_neg fun q=>hp q.2,if_neg hp,zcv6]
end
theorem zcd2 {za zb:List (Int×Int)}(h:∀ k,valG (sumG za) k=valG (sumG zb) k):eqDI (sumG za) (sumG zb)=true:=by
 obtain⟨na,ma⟩:=zn2 za
 obtain⟨nb,mb⟩:=zn2 zb
 have keys:∀ k,k∈(sumG za).map (·.1)↔k∈(sumG zb).map (·.1):=fun k=>by
  rw[ma,mb]
  have:=h k
  rw[zag1,zag1] at this
  by_cases h1:k∈za.map (·.1)<;>by_cases h2:k∈zb.map (·.1)<;>simp[h1,h2] at this ⊢
 have len:=((List.perm_ext_iff_of_nodup na nb).mpr keys).length_eq
 rw[zcp2,zcp2] at len
 unfold eqDI
 rw[len,beq_self_eq_true,zcu8,zcs6]
 intro z hz
 have e:valI (sumG zb) z.1=valG (sumG zb) z.1:=rfl
 rw[e,← h,zbu1 na hz]
 exact beq_self_eq_true _
theorem zak3 {x y:Int×Int}:ltP x y=true↔x.1<y.1∨(x.1=y.1/\x.2<y.2):=by
 unfold ltP
 by_cases e:x.1=y.1
 ·rw[if_pos (by simpa using e)]
  by_cases e2:x.2=y.2
  ·rw[if_pos (by simpa using e2)]
   exact⟨fun h=>by (cases h),fun h=>by walk_at "om"⟩
  ·rw[if_neg (by simpa using e2),decide_eq_true_iff];omega
 ·rw[if_neg (by simpa using e),decide_eq_true_iff];omega
def zv6 (z:Int×Int×Int):PyData:=.tuple [.int z.1,.int z.2.1,.int z.2.2]
def zi1 (xs:List (Int×Int×Int)):PyData:=.list (xs.map zv6)
def stmD (xss:List (List (Int×Int×Int))):PyData:=.list (xss.map zi1)
theorem zab5 (xs:List (Int×Int×Int)):rowF (zi1 xs)=xs:=by
 unfold rowF zi1
 show (xs.map zv6).map triD=xs
 rw[zcs9]
 exact (zcr2 fun x _=>rfl).trans (List.map_id _)
theorem zw2 {ns:List Int}(nn:∀ n∈ns,0<=n) {i:Nat}(hi:i<ns.length):0<=ns.getD i 0/\ns.getD i 0<=(ns.drop i).sum/\(ns.drop i).sum - ns.getD i 0=(ns.drop (i+1)).sum:=by
 have e:ns.drop i=ns[i] :: ns.drop (i+1):=List.drop_eq_getElem_cons hi
 have g:ns.getD i 0=ns[i]:=by rw[zcp6,zcp1 hi];rfl
 have z:=(zp2 (ns:=ns.drop (i+1)) fun n hn=>nn n (List.mem_of_mem_drop hn)).2
 rw[g,e,zct9]
 exact⟨nn _ (zcw2 hi),by walk_at "om",by walk_at "om"⟩
structure OkS (ms:List (List Int×Int)) (h:Int) (f:Nat):Prop where
 ne:1<=ms.length
 f1:1<=f
 all:∀ x∈ms,(∀ n∈x.1,0<=n)/\x.1.length=f/\x.1.sum=h/\1<=x.2
theorem zao0 {ms:List (List Int×Int)}{i:Nat}{xs:List (Int×Int×Int)}(R:zx3 ms i xs) {z:Int×Int×Int}(hz:z∈xs):∃ x∈ms,z.1=(x.1.drop i).sum/\z.2.1=x.1.getD i 0:=by
 have:keyT z∈(sumG (flw ms i)).map (·.1):=(R.2.1 _).mp (zcr9.mpr ⟨z,hz,rfl⟩)
 rw[(zn2 _).2,zcr9] at this
 obtain⟨y,hy,ey⟩:=this
 unfold flw at hy
 obtain⟨x,hx,rfl⟩:=zcr9.mp hy
 have ey:((x.1.drop i).sum,x.1.getD i 0)=(z.1,z.2.1):=ey
 exact⟨x,hx,(congrArg Prod.fst ey).symm,(congrArg Prod.snd ey).symm⟩
theorem zr5 {ms:List (List Int×Int)}{h:Int}{f i:Nat}{xs:List (Int×Int×Int)}(O:OkS ms h f) (hi:i<f) (R:zx3 ms i xs) {z:Int×Int×Int}(hz:z∈xs):0<=z.2.1/\z.2.1<=z.1/\z.2.2=atG (flw ms i) (keyT z)/\1<=z.2.2:=by
 obtain⟨x,hx,e1,e2⟩:=zao0 R hz
 obtain⟨nn,xl,_,_⟩:=O.all x hx
 obtain⟨a,b,_⟩:=zw2 nn (i:=i) (by walk_at "om")
 have v:=R.2.2 z hz
 rw[zag1] at v
 have km:keyT z∈(flw ms i).map (·.1):=(zn2 _).2 _ |>.mp ((R.2.1 _).mp (zcr9.mpr ⟨z,hz,rfl⟩))
 rw[if_pos km] at v
 have v:=Option.some.inj v
 have w:∀ y∈flw ms i,1<=y.2:=fun y hy=>by
  unfold flw at hy
  obtain⟨x,hx,rfl⟩:=zcr9.mp hy
  exact (O.all x hx).2.2.2
 have g:=(atG_ge w (k:=keyT z)).2 km
 exact⟨by walk_at "om",by walk_at "om",v.symm,by walk_at "om"⟩
theorem zby5 {ms:List (List Int×Int)}{h:Int}{f i:Nat}{xs:List (Int×Int×Int)}(O:OkS ms h f) (hi:i<f) (R:zx3 ms i xs):rowD (zi1 xs)=true:=by
 show ((xs.map zv6).all zw3&&incD (xs.map zv6))=true
 rw[zcr6]
 constructor
 ·rw[zcw4,zcs6]
  intro z hz
  obtain⟨a,b,_,c⟩:=zr5 O hi R hz
  show (decide ((0:Int)<=z.1)&&decide ((0:Int)<=z.2.1/\z.2.1<=z.1)&&decide ((1:Int)<=z.2.2))=true
  rw[decide_eq_true (show (0:Int)<=z.1 by walk_at "om"),decide_eq_true (show (0:Int)<=z.2.1/\z.2.1<=z.1 from ⟨a,b⟩),decide_eq_true c];rfl
 ·unfold incD
  rw[zcp2,zcs6]
  intro j hj
  have hj:=zcu0.mp hj
  have p:=List.pairwise_iff_getElem.mp R.1.2 j (j+1) (by rw[zcp2];omega) (by rw[zcp2];omega) (by walk_at "om")
  have g:∀ (j:Nat) (hj:j<xs.length),keyD ((xs.map zv6).getD j .none)=(xs.map keyT)[j]'(by rw[zcp2];exact hj):=fun j hj=>by
   rw[zcp6,zcp5,zcp1 hj,List.getElem_map];rfl
  rw[g j (by walk_at "om"),g (j+1) (by walk_at "om")]
  exact p
theorem zav0 {ms:List (List Int×Int)}{i:Nat}{xs:List (Int×Int×Int)}(R:zx3 ms i xs) (hv:∀ z∈xs,z.2.2=atG (flw ms i) (keyT z)) (g:Int×Int->Int) (k:Int):valG (sumG (xs.map fun z=>(g (keyT z),z.2.2))) k=valG (sumG ((flw ms i).map fun z=>(g z.1,z.2))) k:=by
 rw[zag1,zag1]
 have mem:k∈(xs.map fun z=>(g (keyT z),z.2.2)).map (·.1)↔k∈((flw ms i).map fun z=>(g z.1,z.2)).map (·.1):=by
  rw[zcs9,zcs9,zcr9,zcr9]
  constructor
  ·rintro⟨z,hz,rfl⟩
   have:=(zn2 _).2 _ |>.mp ((R.2.1 _).mp (zcr9.mpr ⟨z,hz,rfl⟩))
   obtain⟨y,hy,ey⟩:=zcr9.mp this
   exact⟨y,hy,congrArg g ey⟩
  ·rintro⟨y,hy,rfl⟩
   have:y.1∈xs.map keyT:=(R.2.1 _).mpr ((zn2 _).2 _ |>.mpr (zcr9.mpr ⟨y,hy,rfl⟩))
   obtain⟨z,hz,ez⟩:=zcr9.mp this
   exact⟨z,hz,congrArg g ez⟩
 have at1:atG (xs.map fun z=>(g (keyT z),z.2.2)) k=(((xs.map keyT).filter fun q=>decide (g q=k)).map (atG (flw ms i))).sum:=by
  unfold atG
  rw[List.filter_map,List.filter_map,zcs9,zcs9]
  refine congrArg List.sum (zcr2 fun z hz=>?_)
  exact hv z (List.mem_filter.mp hz).1
 have at2:atG ((flw ms i).map fun z=>(g z.1,z.2)) k=(((flw ms i).filter fun z=>decide (g z.1=k)).map (·.2)).sum:=by
  unfold atG
  rw[List.filter_map,zcs9]
  rfl
 rw[at1,at2,zbl9 (p:=fun q=>decide (g q=k)) R.1.1 fun z hz=>(R.2.1 _).mpr ((zn2 _).2 _ |>.mpr (zcr9.mpr ⟨z,hz,rfl⟩))]
 by_cases h:k∈(xs.map fun z=>(g (keyT z),z.2.2)).map (·.1)
 ·rw[if_pos h,if_pos (mem.mp h)]
 ·rw[if_neg h,if_neg fun q=>h (mem.mpr q)]
theorem zbm7 {ms:List (List Int×Int)}{h:Int}{f i:Nat}{xs ys:List (Int×Int×Int)}(O:OkS ms h f) (hi:i+1<f) (R1:zx3 ms i xs) (R2:zx3 ms (i+1) ys):zac8 (zi1 xs) (zi1 ys)=true:=by
 unfold zac8
 rw[zab5,zab5]
 refine zcd2 fun k=>?_
 have a:=zav0 R1 (fun z hz=>(zr5 O (by walk_at "om") R1 hz).2.2.1) (fun q=>q.1 - q.2) k
 have b:=zav0 R2 (fun z hz=>(zr5 O hi R2 hz).2.2.1) (fun q=>q.1) k
 have e:((flw ms i).map fun z=>(z.1.1 - z.1.2,z.2))=(flw ms (i+1)).map fun z=>(z.1.1,z.2):=by
  unfold flw
  rw[zcs9,zcs9]
  refine zcr2 fun x hx=>?_
  obtain⟨nn,xl,_,_⟩:=O.all x hx
  obtain⟨_,_,c⟩:=zw2 nn (i:=i) (by walk_at "om")
  show ((x.1.drop i).sum - x.1.getD i 0,x.2)=((x.1.drop (i+1)).sum,x.2)
  rw[c]
 have a:valG (sumG (xs.map fun z=>(z.1 - z.2.1,z.2.2))) k=valG (sumG ((flw ms i).map fun z=>(z.1.1 - z.1.2,z.2))) k:=a
 have b:valG (sumG (ys.map fun z=>(z.1,z.2.2))) k=valG (sumG ((flw ms (i+1)).map fun z=>(z.1.1,z.2))) k:=b
 rw[a,e,b]
theorem stm_ok {ms:List (List Int×Int)}{h:Int}{f:Nat}{xss:List (List (Int×Int×Int))}(O:OkS ms h f) (S:zaa5 ms f xss):zr9 h f (stmD xss)=true:=by
 have f1:=O.f1
 have gd:∀ (i:Nat) (hi:i<xss.length),(xss.map zi1).getD i .none=zi1 xss[i]:=fun i hi=>by
  rw[zcp6,zcp5,zcp1 hi];rfl
 have ri:∀ (i:Nat) (hi:i<xss.length),zx3 ms i xss[i]:=fun i hi=>(S.2 i _ (zcp1 hi)).1
 have sl:=S.1
 have l0:0<xss.length:=by walk_at "om"
 have r0:=ri 0 l0
 obtain⟨x0,ex0⟩:∃ x,ms[0]?=some x:=⟨_,zcp1 (by have:=O.ne;omega)⟩
 have n0:0<(xss[0]).length:=by
  have:((x0.1.drop 0).sum,x0.1.getD 0 0)∈(xss[0]).map keyT:=(r0.2.1 _).mpr ((zn2 _).2 _ |>.mpr (by
   unfold flw
   rw[zcs9]
   exact zcr9.mpr ⟨x0,zcp9 ex0,rfl⟩))
  obtain⟨z,hz,_⟩:=zcr9.mp this
  exact List.length_pos_of_mem hz
 have items:zl3 (stmD xss)=xss.map zi1:=rfl
 unfold zr9
 rw[items]
 have b:zy9 (stmD xss)=true:=by
  show (decide (0<(xss.map zi1).length)&&rowD ((xss.map zi1).getD 0 .none)&&decide (0<(zl3 ((xss.map zi1).getD 0 .none)).length))=true
  rw[gd 0 l0,zcp2,decide_eq_true l0,zby5 O (by walk_at "om") r0]
  show (true&&true&&decide (0<((xss[0]).map zv6).length))=true
  rw[zcp2,decide_eq_true n0];rfl
 have c1:decide ((((xss.map zi1).length:Nat):Int)=(f:Int))=true:=decide_eq_true (by rw[zcp2,sl])
 have c2:(xss.map zi1).all rowD=true:=by
  rw[zcw4,zcs6]
  intro xs hx
  obtain⟨i,ei⟩:=zcu9 hx
  exact zby5 O (by have:=(zcp4.mp ei).1;omega) (S.2 i xs ei).1
 have c3:fullD h ((xss.map zi1).getD 0 .none)=true:=by
  rw[gd 0 l0]
  unfold fullD
  rw[zab5,zcs6]
  intro z hz
  obtain⟨x,hx,e1,_⟩:=zao0 r0 hz
  rw[e1,List.drop_zero]
  exact decide_eq_true (O.all x hx).2.2.1
 have c4:goneD ((xss.map zi1).getD ((xss.map zi1).length - 1) .none)=true:=by
  rw[zcp2,gd (xss.length - 1) (by walk_at "om")]
  unfold goneD
  rw[zab5,zcs6]
  intro z hz
  obtain⟨x,hx,e1,e2⟩:=zao0 (ri _ (by walk_at "om")) hz
  obtain⟨nn,xl,_,_⟩:=O.all x hx
  obtain⟨_,_,c⟩:=zw2 nn (i:=xss.length - 1) (by walk_at "om")
  rw[zcw7 (i:=xss.length - 1+1) (by walk_at "om")] at c
  have:([]:List Int).sum=0:=rfl
  rw[e1,e2]
  exact decide_eq_true (by walk_at "om")
 have c5:zag2 (xss.map zi1)=true:=by
  unfold zag2
  rw[zcp2,zcs6]
  intro i hi
  have hi:=zcu0.mp hi
  rw[gd i (by walk_at "om"),gd (i+1) (by walk_at "om")]
  exact zbm7 O (by walk_at "om") (ri i (by walk_at "om")) (ri (i+1) (by walk_at "om"))
 rw[b,c1,c2,c3,c4,c5];rfl
theorem RwAt.shL {H:Hp}{p:Addr}{bs:List Addr}{xs:List (Int×Int×Int)}(R:RwAt H p bs xs):ShL H (bs.map V.ref) (xs.map zv6):=ShL.idx (by rw[zcp2,zcp2,R.len]) fun i x d h1 h2=>by
 rw[zcp5] at h1 h2
 obtain⟨b,eb,rfl⟩:=zcp7.mp h1
 obtain⟨z,ez,rfl⟩:=zcp7.mp h2
 exact .tup (R.row i b z eb ez) (.cons (.int _) (.cons (.int _) (.cons (.int _) .nil)))
theorem RwAt.sh {H:Hp}{p:Addr}{bs:List Addr}{xs:List (Int×Int×Int)}(R:RwAt H p bs xs):ShV H (.ref p) (zi1 xs):=.lst R.out R.shL
def row7 (c:Bool) (xs:List (Int×Int×Int)):PyData:=.list (xs.map zv6++if c=true then [.int 7] else [])
theorem row7_F (xs:List (Int×Int×Int)):row7 false xs=zi1 xs:=by unfold row7 zi1;rw[if_neg zcq0,List.append_nil]
theorem tri_ok (z:Int×Int×Int):okD 1 (zv6 z):=okD.tuple (n:=0) (by show 3<=1000;decide) fun d hd=>by
 simp only[zcq6,zcs4,or_false] at hd
 rcases hd with rfl|rfl|rfl<;>exact⟨rfl,rfl,zct3 _⟩
theorem zcd8 {c:Bool}{xs:List (Int×Int×Int)}(h:xs.length<64):okD 2 (row7 c xs):=okD.list (n:=1) (by rw[zcr0,zcp2];split<;>simp<;>omega) fun d hd=>by
 rcases zct7.mp hd with hd|hd
 ·obtain⟨z,_,rfl⟩:=zcr9.mp hd;exact tri_ok z
 ·split at hd
  ·rw[zcx1.mp hd];exact⟨rfl,rfl,zct3 _⟩
  ·cases hd
theorem zbi0 {c:Bool}{xss:List (List (Int×Int×Int))}(hl:xss.length<64) (h:∀ xs∈xss,xs.length<64):okD 3 (.list (xss.map (row7 c))):=okD.list (n:=2) (by rw[zcp2];omega) fun d hd=>by
 obtain⟨xs,hx,rfl⟩:=zcr9.mp hd
 exact zcd8 (h xs hx)
theorem zba3 (xss:List (List (Int×Int×Int))):stmD xss=.list (xss.map (row7 false)):=by
 unfold stmD
 rw[zcr2 fun xs _=>(row7_F xs).symm]
theorem zcg3 (n:Nat):((List.range n).map fun _=>V.bl true)=((List.range n).map fun _=>true).map V.bl:=by rw[zcs9];rfl
theorem zbu3 (n:Nat):((List.range n).map fun _=>true).all id=true:=by rw[zcw4];exact zbv5 n
inductive Fd where
 | more (w t:Int)
 | lead (w l:Int)
 | tab (g:Nat->Nat->Int)
def Fd.won:Fd->Nat->Nat->Int
 | .more w t,x,y=>if x=y then t else if y<x then w else -w
 | .lead w l,x,y=>if l<=(x:Int) - y then w else -w
 | .tab g,x,y=>g x y
def Fd.Ok:Fd->Prop
 | .more w t=>1<=w/\-w<=t/\t<=w
 | .lead w _=>1<=w
 | .tab _=>True
def FdAt (H:Hp) (p:Addr) (a c:Nat):Fd->Prop
 | .more w t=>H p=some (.tup [.str "more",.int w,.int t])
 | .lead w l=>H p=some (.tup [.str "lead",.int w,.int l])
 | .tab g=>∃ q ps,H p=some (.tup [.str "table",.ref q])/\zf1 H q ps (a+1) (c+1) g
theorem FdAt.same {H H':Hp}{p:Addr}{a c:Nat}{f:Fd}(F:FdAt H p a c f) (s:Same H H'):FdAt H' p a c f:=by
 cases f with
 | more w t=>exact s _ _ F
 | lead w l=>exact s _ _ F
 | tab g=>
  obtain⟨q,ps,h1,h2⟩:=F
  exact⟨q,ps,s _ _ h1,h2.same s⟩
theorem FdAt.some {H:Hp}{p:Addr}{a c:Nat}{f:Fd}(F:FdAt H p a c f):∃ xs,H p=some (.tup xs):=by
 cases f with
 | more w t=>exact⟨_,F⟩
 | lead w l=>exact⟨_,F⟩
 | tab g=>
  obtain⟨q,ps,h1,h2⟩:=F
  exact⟨_,h1⟩
structure zi9 (H:Hp) (b l:Addr) (ps:List Addr) (a c:Nat) (fs:List Fd):Prop where
 out:H b=some (.tup [.int a,.int c,.ref l])
 lst:H l=some (.lst (ps.map V.ref))
 len:ps.length=fs.length
 fld:∀ (i:Nat) p f,ps[i]?=some p->fs[i]?=some f->FdAt H p a c f/\f.Ok
abbrev OkB (a c:Nat) (fs:List Fd):Prop:=(a<=10/\c<=10)/\1<=fs.length/\fs.length<=5
theorem zi9.same {H H':Hp}{b l:Addr}{ps:List Addr}{a c:Nat}{fs:List Fd}(B:zi9 H b l ps a c fs) (s:Same H H'):zi9 H' b l ps a c fs:=⟨s _ _ B.out,s _ _ B.lst,B.len,fun i p f h1 h2=>⟨(B.fld i p f h1 h2).1.same s,(B.fld i p f h1 h2).2⟩⟩
theorem zi9.elt {H:Hp}{b l:Addr}{ps:List Addr}{a c:Nat}{fs:List Fd}(B:zi9 H b l ps a c fs) {i:Nat}{v:V}(e:(ps.map V.ref)[i]?=some v):∃ p f,v=.ref p/\ps[i]?=some p/\fs[i]?=some f/\FdAt H p a c f/\f.Ok:=by
 rw[zcp5] at e
 obtain⟨p,ep,rfl⟩:=zcp7.mp e
 obtain⟨f,ef⟩:∃ f,fs[i]?=some f:=⟨_,zcp1 (by have:=(zcp4.mp ep).1;have:=B.len;omega)⟩
 exact⟨p,f,rfl,ep,ef,B.fld i p f ep ef⟩
@[irreducible] def zh7:Sp:=fun vs H Q _=>∃ x y:Int,vs=[.int x,.int y]/\Q (.bl (decide ((0<=x/\x<=10)/\0<=y/\y<=10))) H
theorem zat2 {H:Hp}{x y:Int}{Q:VK}{E:XK}(q:Q (.bl (decide ((0<=x/\x<=10)/\0<=y/\y<=10))) H):zh7 [.int x,.int y] H Q E:=by unfold zh7;exact⟨x,y,rfl,q⟩
theorem zas9 {f:Addr}{fd:FuncData}(F:Fun K "are_hosts" "are_hosts" zm1 f fd) (N:Nm mg) {zck7:Tok}(c_MOST_HOSTS:mg "MOST_HOSTS"=some (.int 10 zck7)) (zcj5:Def P w K mg base CX0 3 "is_between" ["thing","least","most"] zd4):FnOk P w K mg base CX0 4 f fd ["first","second"] zh7:=by
 refine F.ok zap8 (fun vs H Q E h=>by unfold zh7 at h;obtain⟨_,_,rfl,_⟩:=h;rfl) (fun cdv A outer s H vs Q E hr h=>?_)
 unfold zh7 at h
 obtain⟨x,y,rfl,q⟩:=h
 refine⟨_,(za5 (za9 (zu8 (pD zcj5 hr zb7 (za0 (pq 0) (za0 za2 (za0 (zq8 (v:=.int 10) rfl c_MOST_HOSTS ⟨_,rfl⟩) za1)))) (zs2 (pD zcj5 hr zb7 (za0 (pq 1) (za0 za2 (za0 (zq8 (v:=.int 10) rfl c_MOST_HOSTS ⟨_,rfl⟩) za1)))))))),?_⟩
 refine zbh4 ?_
 refine zf5 (fun h=>?_) (fun h=>?_)
 ·walk_at "wh"
  refine zbh4 ?_
  walk_at "wh"
  rw[zaa9 h] at q
  exact q
 ·walk_at "wh"
  rw[zab4 h] at q
  exact q
inductive Fx where
 | flat (w:Str) (zs:List Int)
 | tab (rows:List (List Int))
structure zv2 (H:Hp) (q:Addr) (ps:List Addr) (rows:List (List Int)):Prop where
 out:H q=some (.lst (ps.map V.ref))
 len:ps.length=rows.length
 row:∀ (i:Nat) p r,ps[i]?=some p->rows[i]?=some r->H p=some (.lst (r.map V.int))
theorem zv2.same {H H':Hp}{q:Addr}{ps:List Addr}{rows:List (List Int)}(R:zv2 H q ps rows) (s:Same H H'):zv2 H' q ps rows:=⟨s _ _ R.out,R.len,fun i p r h1 h2=>s _ _ (R.row i p r h1 h2)⟩
theorem zv2.elt {H:Hp}{q:Addr}{ps:List Addr}{rows:List (List Int)}(R:zv2 H q ps rows) {i:Nat}{v:V}(e:(ps.map V.ref)[i]?=some v):∃ p r,v=.ref p/\ps[i]?=some p/\rows[i]?=some r/\H p=some (.lst (r.map V.int)):=by
 rw[zcp5] at e
 obtain⟨p,ep,rfl⟩:=zcp7.mp e
 obtain⟨r,er⟩:∃ r,rows[i]?=some r:=⟨_,zcp1 (by have:=(zcp4.mp ep).1;have:=R.len;omega)⟩
 exact⟨p,r,rfl,ep,er,R.row i p r ep er⟩
def FxAt (H:Hp) (p:Addr):Fx->Prop
 | .flat w zs=>H p=some (.tup (.str w :: zs.map V.int))
 | .tab rows=>∃ q ps,H p=some (.tup [.str "table",.ref q])/\zv2 H q ps rows
def Fx.Gd:Fx->Prop
 | .flat w zs=>w≠"table"/\zs.length<=10
 | .tab rows=>rows.length<=100/\∀ r∈rows,r.length<=100
theorem FxAt.same {H H':Hp}{p:Addr}{f:Fx}(F:FxAt H p f) (s:Same H H'):FxAt H' p f:=by
 cases f with
 | flat w zs=>exact s _ _ F
 | tab rows=>
  obtain⟨q,ps,h1,h2⟩:=F
  exact⟨q,ps,s _ _ h1,h2.same s⟩
def isF (a c:Int):Fx->Bool
 | .flat w [x,y]=>if w="more" then decide (1<=x/\-x<=y/\y<=x) else if w="lead" then decide (1<=x) else false
 | .flat _ _=>false
 | .tab rows=>decide ((rows.length:Int)=a+1)&&rows.all fun r=>decide ((r.length:Int)=c+1)
structure BxAt (H:Hp) (b l:Addr) (ps:List Addr) (a c:Int) (fs:List Fx):Prop where
 out:H b=some (.tup [.int a,.int c,.ref l])
 lst:H l=some (.lst (ps.map V.ref))
 len:ps.length=fs.length
 fld:∀ (i:Nat) p f,ps[i]?=some p->fs[i]?=some f->FxAt H p f/\f.Gd
theorem BxAt.same {H H':Hp}{b l:Addr}{ps:List Addr}{a c:Int}{fs:List Fx}(B:BxAt H b l ps a c fs) (s:Same H H'):BxAt H' b l ps a c fs:=⟨s _ _ B.out,s _ _ B.lst,B.len,fun i p f h1 h2=>⟨(B.fld i p f h1 h2).1.same s,(B.fld i p f h1 h2).2⟩⟩
theorem BxAt.elt {H:Hp}{b l:Addr}{ps:List Addr}{a c:Int}{fs:List Fx}(B:BxAt H b l ps a c fs) {i:Nat}{v:V}(e:(ps.map V.ref)[i]?=some v):∃ p f,v=.ref p/\ps[i]?=some p/\fs[i]?=some f/\FxAt H p f/\f.Gd:=by
 rw[zcp5] at e
 obtain⟨p,ep,rfl⟩:=zcp7.mp e
 obtain⟨f,ef⟩:∃ f,fs[i]?=some f:=⟨_,zcp1 (by have:=(zcp4.mp ep).1;have:=B.len;omega)⟩
 exact⟨p,f,rfl,ep,ef,B.fld i p f ep ef⟩
abbrev Sz (a c:Int) (n:Nat):Prop:=((0<=a/\a<=10)/\0<=c/\c<=10)/\1<=n/\n<=5
def BadB (H:Hp) (b:Addr) (k:Int):Prop:=∃ l ps a c fs,BxAt H b l ps a c fs/\fs.length<=100 /\
 ((¬ Sz a c fs.length/\k=-1)∨(Sz a c fs.length/\∃ (j:Nat) (f:Fx),k=j/\fs[j]?=some f/\isF a c f=false/\∀ (i:Nat) g,i<j->fs[i]?=some g->isF a c g=true))
theorem BadB.same {H H':Hp}{b:Addr}{k:Int}(B:BadB H b k) (s:Same H H'):BadB H' b k:=by
 obtain⟨l,ps,a,c,fs,B,r⟩:=B
 exact⟨l,ps,a,c,fs,B.same s,r⟩
def toFx (a c:Nat):Fd->Fx
 | .more w t=>.flat "more" [w,t]
 | .lead w l=>.flat "lead" [w,l]
 | .tab g=>.tab ((List.range (a+1)).map fun x=>(List.range (c+1)).map (g x))
theorem zbq1 {H:Hp}{q:Addr}{ps:List Addr}{n m:Nat}{g:Nat->Nat->Int}(G:zf1 H q ps n m g):zv2 H q ps ((List.range n).map fun x=>(List.range m).map (g x)):=by
 refine⟨G.out,by rw[G.len,zcp2,zcr3],fun i p r h1 h2=>?_⟩
 have hi:i<n:=by have:=(zcp4.mp h1).1;have:=G.len;omega
 rw[zcp5,zct8 hi] at h2
 cases h2
 rw[← zar2]
 exact G.row i p h1
theorem zcb6 {H:Hp}{p:Addr}{a c:Nat}{f:Fd}(F:FdAt H p a c f) (ha:a<=10) (hc:c<=10):FxAt H p (toFx a c f)/\(toFx a c f).Gd:=by
 cases f with
 | more w t=>exact⟨F,by decide,by simp⟩
 | lead w l=>exact⟨F,by decide,by simp⟩
 | tab g=>
  obtain⟨q,ps,h1,h2⟩:=F
  refine⟨⟨q,ps,h1,zbq1 h2⟩,by rw[zcp2,zcr3];omega,fun r hr=>?_⟩
  obtain⟨x,_,rfl⟩:=zcr9.mp hr
  rw[zcp2,zcr3];omega
theorem zcb8 {a c:Nat}{f:Fd}(O:f.Ok):isF a c (toFx a c f)=true:=by
 cases f with
 | more w t=>exact decide_eq_true (show 1<=w/\-w<=t/\t<=w from O)
 | lead w l=>exact decide_eq_true (show 1<=w from O)
 | tab g=>
  show (decide _&&List.all _ _)=true
  rw[zcr6,zcs6]
  refine⟨decide_eq_true (by rw[zcp2,zcr3];rfl),fun r hr=>?_⟩
  obtain⟨x,_,rfl⟩:=zcr9.mp hr
  exact decide_eq_true (by rw[zcp2,zcr3];rfl)
theorem toBx {H:Hp}{b l:Addr}{ps:List Addr}{a c:Nat}{fs:List Fd}(B:zi9 H b l ps a c fs) (ha:a<=10) (hc:c<=10):BxAt H b l ps a c (fs.map (toFx a c)):=by
 refine⟨B.out,B.lst,by rw[B.len,zcp2],fun i p f h1 h2=>?_⟩
 rw[zcp5] at h2
 obtain⟨f',e,rfl⟩:=zcp7.mp h2
 exact zcb6 (B.fld i p f' h1 e).1 ha hc
@[irreducible] def ze1:Sp:=fun vs H Q _=>∃ (r:Addr) (n:Int) (zs:List Int),vs=[.int n,.ref r]/\H r=some (.lst (zs.map V.int))/\zs.length<=1000/\∀ H',Same H H'->Q (.bl (decide ((zs.length:Int)=n))) H'
theorem zae5 {H:Hp}{r:Addr}{n:Int}{zs:List Int}{Q:VK}{E:XK}(h:H r=some (.lst (zs.map V.int))) (hn:zs.length<=1000) (q:∀ H',Same H H'->Q (.bl (decide ((zs.length:Int)=n))) H'):ze1 [.int n,.ref r] H Q E:=by unfold ze1;exact⟨r,n,zs,rfl,h,hn,q⟩
theorem zae1 {f:Addr}{fd:FuncData}(F:Fun K "is_table_row" "is_table_row" zg5 f fd) (N:Nm mg) (zcj9:Def P w K mg base CX0 1 "is_whole" ["thing"] ze9):FnOk P w K mg base CX0 2 f fd ["many_numbers","row"] ze1:=by
 refine F.ok zab8 (fun vs H Q E h=>by unfold ze1 at h;obtain⟨_,_,_,rfl,_⟩:=h;rfl) (fun cdv A outer s H vs Q E hr h=>?_)
 unfold ze1 at h
 obtain⟨r,n,zs,rfl,h,hn,q⟩:=h
 have hu:=hu40 hr
 refine⟨_,(za5 (za9 (zu8 (pB (zaf1 (K:=K) rfl) N.isinstance_ zb9 (za0 (pq 1) (za0 (pTy N.list_ zac1) za1))) (zu8 (peC (oEqK (K:=K) rfl (by exact hu)) (pB (zq4 (K:=K) rfl) N.len_ zj5 (za0 (pq 1) za1)) (pq 0)) (zs2 (pB (zam9 (K:=K) rfl rfl) N.all_ zx0 (za0 (zf4 (N:=["number"]) (ks:=[none]) (zi0 (K:=K) rfl (pq 1)) (fun cl C s3 H3 fp=>(za7 (i:=0) nb_0 rfl (by first|exact Or.inl rfl|exact Or.inr rfl))) (fun cl C s3 H3 fp=>zc7) (fun cl C s3 H3 fp=>(pD zcj9 hr zb7 (za0 (pq 0) za1))) (.skip .nil)) za1))))))),?_⟩
 refine zao3 h ?_
 refine br_T ?_
 refine zh3 h ?_
 rw[zcp2]
 refine zf5 (fun en=>?_) (fun en=>?_)
 ·rw[decide_eq_true en] at q
  refine zc6 h ?_
  refine zn6 (Wk.list (SqL.of h)) (by rw[zcp2,sizeLine_eq];omega) (fun i=>.bl true) (fun _=>true) (fun j σ=>∃ t:Option V,σ=[t]) ⟨none,rfl⟩ ?_ ?_
  ·rintro j v σ H1 R S hj s1 hx ⟨t,rfl⟩ k _
   rw[zcp5] at hx
   obtain⟨z,_,rfl⟩:=zcp7.mp hx
   refine br_T ?_
   refine zbx3 ?_
   walk_at "wh"
   exact k rfl _ _ (Same.refl _) ⟨_,rfl⟩
  intro acc H1 f1 s1 h1
  rw[ze4,zcp2,zcg3] at h1
  refine zv5 h1 ?_
  rw[zbu3]
  walk_at "wh"
  exact q _ s1
 ·rw[decide_eq_false en] at q
  walk_at "wh"
  exact q _ (Same.refl _)
theorem zbk0 (l:List Bool):(l.map V.bl)=(List.range l.length).map fun i=>V.bl (l.getD i false):=by
 apply zcu7
 intro i
 rw[zcp5,zcp5]
 by_cases h:i<l.length
 ·rw[zct8 h,zcp1 h]
  simp[h]
 ·rw[zcs1 (by walk_at "om"),zcs1 (by simp;omega)]
  rfl
@[irreducible] def zh5:Sp:=fun vs H Q _=>∃ (r:Addr) (ps:List Addr) (n m:Int) (rows:List (List Int)),vs=[.int n,.int m,.ref r]/\zv2 H r ps rows/\rows.length<=100/\(∀ r∈rows,r.length<=100)/\∀ H',Same H H'->Q (.bl (decide ((rows.length:Int)=n)&&rows.all fun r=>decide ((r.length:Int)=m))) H'
theorem zaf5 {H:Hp}{r:Addr}{ps:List Addr}{n m:Int}{rows:List (List Int)}{Q:VK}{E:XK}(h:zv2 H r ps rows) (hn:rows.length<=100) (hm:∀ r∈rows,r.length<=100) (q:∀ H',Same H H'->Q (.bl (decide ((rows.length:Int)=n)&&rows.all fun r=>decide ((r.length:Int)=m))) H'):zh5 [.int n,.int m,.ref r] H Q E:=by unfold zh5;exact⟨r,ps,n,m,rows,rfl,h,hn,hm,q⟩
theorem zay9 {f:Addr}{fd:FuncData}(F:Fun K "is_table" "is_table" zo6 f fd) (N:Nm mg) (zck3:Def P w K mg base CX0 2 "is_table_row" ["many_numbers","row"] ze1):FnOk P w K mg base CX0 3 f fd ["many_rows","many_numbers","rows"] zh5:=by
 refine F.ok zav8 (fun vs H Q E h=>by unfold zh5 at h;obtain⟨_,_,_,_,_,rfl,_⟩:=h;rfl) (fun cdv A outer s H vs Q E hr h=>?_)
 unfold zh5 at h
 obtain⟨r,ps,n,m,rows,rfl,R,hn,hm,q⟩:=h
 have hu:=hu40 hr
 have gl:=R.len
 refine⟨_,(za4 (psIf (ptW (pwOr (zp9 (ptV (pB (zaf1 (K:=K) rfl) N.isinstance_ zb9 (za0 (pq 2) (za0 (pTy N.list_ zac1) za1))))) (zz7 (ptC (oNeK (K:=K) rfl (by exact hu)) (pB (zq4 (K:=K) rfl) N.len_ zj5 (za0 (pq 2) za1)) (pq 0))))) (za5 (za9 zab7)) zb8)
   (za5 (za9 (pB (zam9 (K:=K) rfl rfl) N.all_ zx0 (za0 (zf4 (N:=["row","many_numbers"]) (ks:=[none,some 1]) (zi0 (K:=K) rfl (pq 2)) (fun cl C s3 H3 fp=>(za7 (i:=0) nb_1 rfl (by first|exact Or.inl rfl|exact Or.inr rfl))) (fun cl C s3 H3 fp=>zc7) (fun cl C s3 H3 fp=>(pD zck3 hr zb7 (za0 (pq 1) (za0 (pq 0) za1)))) (.skip (.take rfl rfl (by first|exact Or.inl rfl|exact Or.inr rfl) .nil))) za1))))),?_⟩
 refine zao3 R.out ?_
 refine zd2 (br_T ?_)
 refine zh3 R.out ?_
 rw[zcp2,gl]
 refine zd2 (zf5 (fun en=>?_) (fun en=>?_))
 ·rw[decide_eq_true en,zcu8] at q
  refine zc6 R.out ?_
  refine zn6 (Wk.list (SqL.of R.out)) (by rw[zcp2,sizeLine_eq];omega) (fun i=>.bl ((rows.map fun r=>decide ((r.length:Int)=m)).getD i false)) (fun _=>true) (fun j σ=>∃ t:Option V,σ=[t,some (.int m)]) ⟨none,rfl⟩ ?_ ?_
  ·rintro j v σ H1 R' S hj s1 hx ⟨t,rfl⟩ k _
   obtain⟨p,r1,rfl,ep,er,hp⟩:=(R.same s1).elt hx
   have eb:(rows.map fun r=>decide ((r.length:Int)=m)).getD j false=decide ((r1.length:Int)=m):=by
    rw[zcp6,zcp5,er];rfl
   rw[eb] at k
   refine br_T ?_
   refine zae5 hp (by have:=hm r1 (zcp9 er);omega) (fun H2 s2=>?_)
   walk_at "wh"
   exact k rfl _ _ s2 ⟨_,rfl⟩
  intro acc H1 f1 s1 h1
  have eb:=zbk0 (rows.map fun r=>decide ((r.length:Int)=m))
  rw[zcp2] at eb
  rw[ze4,zcp2,gl,← eb] at h1
  refine zv5 h1 ?_
  rw[zcw4]
  walk_at "wh"
  exact q _ s1
 ·rw[decide_eq_false en,Bool.false_and] at q
  walk_at "wh"
  exact q _ (Same.refl _)
@[irreducible] def zj6:Sp:=fun vs H Q _=>∃ (p:Addr) (a c:Int) (f:Fx),vs=[.int a,.int c,.ref p]/\FxAt H p f/\f.Gd/\∀ H',Same H H'->Q (.bl (isF a c f)) H'
theorem zaf9 {H:Hp}{p:Addr}{a c:Int}{f:Fx}{Q:VK}{E:XK}(F:FxAt H p f) (O:f.Gd) (q:∀ H',Same H H'->Q (.bl (isF a c f)) H'):zj6 [.int a,.int c,.ref p] H Q E:=by unfold zj6;exact⟨p,a,c,f,rfl,F,O,q⟩
theorem zcc0 {a c:Int}{w:Str}{zs:List Int}(h:zs.length≠2):isF a c (.flat w zs)=false:=by
 match zs,h with
 | [],_=>rfl
 | [_],_=>rfl
 | [_,_],h=>exact absurd rfl h
 | _ :: _ :: _ :: _,_=>rfl
theorem zaw7 {f:Addr}{fd:FuncData}(F:Fun K "is_field" "is_field" zp0 f fd) (N:Nm mg) (zcj5:Def P w K mg base CX0 3 "is_between" ["thing","least","most"] zd4) (zcj8:Def P w K mg base CX0 2 "is_from" ["thing","least"] zg4) (zck2:Def P w K mg base CX0 3 "is_table" ["many_rows","many_numbers","rows"] zh5) (zcj9:Def P w K mg base CX0 1 "is_whole" ["thing"] ze9):FnOk P w K mg base CX0 4 f fd ["first","second","field"] zj6:=by
 refine F.ok zay4 (fun vs H Q E h=>by unfold zj6 at h;obtain⟨_,_,_,_,rfl,_⟩:=h;rfl) (fun cdv A outer s H vs Q E hr h=>?_)
 unfold zj6 at h
 obtain⟨p,a,c,f,rfl,F,O,q⟩:=h
 have hu:=hu40 hr
 refine⟨_,(za4 (psIf (zp9 (ptV (pB (zaf1 (K:=K) rfl) N.isinstance_ zb9 (za0 (pq 2) (za0 (pTy N.tuple_ zx1) za1))))) (za5 (za9 zab7)) zb8)
   (za4 (psIf (ptW (pwAnd (ptC (oEqK (K:=K) rfl (by exact hu)) (pB (zq4 (K:=K) rfl) N.len_ zj5 (za0 (pq 2) za1)) za2) (zay7 (ptC (oEqK (K:=K) rfl (by exact hu)) (za8 (K:=K) rfl (pq 2) za2) zd1)))) (za5 (za9 (zu8 (pD zcj8 hr zb7 (za0 (za8 (K:=K) rfl (pq 2) za2) (za0 za2 za1))) (zs2 (pD zcj5 hr zb7 (za0 (za8 (K:=K) rfl (pq 2) za2) (za0 (zap3 uNeg (za8 (K:=K) rfl (pq 2) za2)) (za0 (za8 (K:=K) rfl (pq 2) za2) za1)))))))) zb8)
   (za4 (psIf (ptW (pwAnd (ptC (oEqK (K:=K) rfl (by exact hu)) (pB (zq4 (K:=K) rfl) N.len_ zj5 (za0 (pq 2) za1)) za2) (zay7 (ptC (oEqK (K:=K) rfl (by exact hu)) (za8 (K:=K) rfl (pq 2) za2) zd1)))) (za5 (za9 (zu8 (pD zcj8 hr zb7 (za0 (za8 (K:=K) rfl (pq 2) za2) (za0 za2 za1))) (zs2 (pD zcj9 hr zb7 (za0 (za8 (K:=K) rfl (pq 2) za2) za1)))))) zb8)
   (za4 (psIf (ptW (pwAnd (ptC (oEqK (K:=K) rfl (by exact hu)) (pB (zq4 (K:=K) rfl) N.len_ zj5 (za0 (pq 2) za1)) za2) (zay7 (ptC (oEqK (K:=K) rfl (by exact hu)) (za8 (K:=K) rfl (pq 2) za2) zd1)))) (za5 (za9 (pD zck2 hr zb7 (za0 (zb5 oAdd (pq 0) za2) (za0 (zb5 oAdd (pq 1) za2) (za0 (za8 (K:=K) rfl (pq 2) za2) za1)))))) zb8)
   (za5 (za9 zab7)))))),?_⟩
 cases f with
 | flat w zs=>
  have F:H p=some (.tup (.str w :: zs.map V.int)):=F
  obtain⟨nt,zl⟩:w≠"table"/\zs.length<=10:=O
  have q:=q _ (Same.refl _)
  refine zad0 F ?_
  refine zd2 (br_T ?_)
  refine zp4 F ?_
  rw[zcr8,zcp2]
  walk_at "wh"
  by_cases e2:zs.length=2
  ·obtain⟨x,y,rfl⟩:∃ x y,zs=[x,y]:=by
    match zs,e2 with
    | [x,y],_=>exact⟨x,y,rfl⟩
   refine zr3 rfl ?_
   refine zb1 (v:=.str w) F rfl ?_
   refine zf5 (fun em=>?_) (fun em=>?_)
   ·subst em
    have q:Q (.bl (decide (1<=x/\-x<=y/\y<=x))) H:=q
    refine zb1 (v:=.int x) F rfl ?_
    refine zbz9 ?_
    refine zf5 (fun e1=>?_) (fun e1=>?_)
    ·rw[zaa9 e1] at q
     refine zb1 (v:=.int y) F rfl ?_
     refine zb1 (v:=.int x) F rfl ?_
     refine zb1 (v:=.int x) F rfl ?_
     refine zbh4 ?_
     walk_at "wh"
     exact q
    ·rw[zab4 e1] at q
     walk_at "wh"
     exact q
   ·have q:Q (.bl (if w="more" then decide (1<=x/\-x<=y/\y<=x) else if w="lead" then decide (1<=x) else false)) H:=q
    rw[if_neg em] at q
    refine zp4 F ?_
    refine zr3 rfl ?_
    refine zb1 (v:=.str w) F rfl ?_
    refine zf5 (fun el=>?_) (fun el=>?_)
    ·rw[if_pos el] at q
     refine zb1 (v:=.int x) F rfl ?_
     refine zbz9 ?_
     refine zf5 (fun e1=>?_) (fun e1=>?_)
     ·rw[decide_eq_true e1] at q
      refine zb1 (v:=.int y) F rfl ?_
      refine zbx3 ?_
      walk_at "wh"
      exact q
     ·rw[decide_eq_false e1] at q
      walk_at "wh"
      exact q
    ·rw[if_neg el] at q
     refine zp4 F ?_
     refine zq7 (by show ¬ ((3:Nat):Int)=2;decide) ?_
     refine br_F ?_
     walk_at "wh"
     exact q
  ·rw[zcc0 e2] at q
   refine zq7 (by walk_at "om") ?_
   refine br_F ?_
   refine zp4 F ?_
   rw[zcr8,zcp2]
   refine zq7 (by walk_at "om") ?_
   refine br_F ?_
   refine zp4 F ?_
   rw[zcr8,zcp2]
   refine zf5 (fun e1=>?_) (fun e1=>?_)
   ·obtain⟨z,rfl⟩:∃ z,zs=[z]:=by
     match zs,(show zs.length=1 by walk_at "om") with
     | [z],_=>exact⟨z,rfl⟩
    refine zb1 (v:=.str w) F rfl ?_
    refine zq7 nt ?_
    walk_at "wh"
    exact q _ (Same.refl _)
   ·walk_at "wh"
    refine br_F ?_
    walk_at "wh"
    exact q
 | tab rows=>
  obtain⟨q',ps,F,R⟩:=F
  obtain⟨o1,o2⟩:rows.length<=100/\∀ r∈rows,r.length<=100:=O
  refine zad0 F ?_
  refine zd2 (br_T ?_)
  refine zp4 F ?_
  refine zq7 (by show ¬ ((2:Nat):Int)=3;decide) ?_
  refine br_F ?_
  refine zp4 F ?_
  refine zq7 (by show ¬ ((2:Nat):Int)=3;decide) ?_
  refine br_F ?_
  refine zp4 F ?_
  refine zr3 rfl ?_
  refine zb1 (v:=.str "table") F rfl ?_
  refine zr3 rfl ?_
  refine zb1 (v:=.ref q') F rfl ?_
  refine zaf5 (n:=a+1) (m:=c+1) R o1 o2 (fun H1 s1=>?_)
  walk_at "wh"
  exact q _ s1
@[irreducible] def zj8:Sp:=fun vs H Q _=>∃ (b l:Addr) (ys:List V) (a c:Int),vs=[.ref b]/\H b=some (.tup [.int a,.int c,.ref l])/\H l=some (.lst ys)/\Q (.bl (decide (Sz a c ys.length))) H
theorem zv9 {H:Hp}{b l:Addr}{ys:List V}{a c:Int}{Q:VK}{E:XK}(h1:H b=some (.tup [.int a,.int c,.ref l])) (h2:H l=some (.lst ys)) (q:Q (.bl (decide (Sz a c ys.length))) H):zj8 [.ref b] H Q E:=by unfold zj8;exact⟨b,l,ys,a,c,rfl,h1,h2,q⟩
theorem zay0 {f:Addr}{fd:FuncData}(F:Fun K "has_size" "has_size" zo3 f fd) (N:Nm mg) {zck4:Tok}(c_MOST_FIELDS:mg "MOST_FIELDS"=some (.int 5 zck4)) (zcm0:Def P w K mg base CX0 4 "are_hosts" ["first","second"] zh7):FnOk P w K mg base CX0 5 f fd ["battle"] zj8:=by
 refine F.ok zax7 (fun vs H Q E h=>by unfold zj8 at h;obtain⟨_,_,_,_,_,rfl,_⟩:=h;rfl) (fun cdv A outer s H vs Q E hr h=>?_)
 unfold zj8 at h
 obtain⟨b,l,ys,a,c,rfl,h1,h2,q⟩:=h
 refine⟨_,(za5 (za9 (zu8 (pD zcm0 hr zb7 (za0 (za8 (K:=K) rfl (pq 0) za2) (za0 (za8 (K:=K) rfl (pq 0) za2) za1))) (zs2 (zch1 oLe oLe za2 (pB (zq4 (K:=K) rfl) N.len_ zj5 (za0 (za8 (K:=K) rfl (pq 0) za2) za1)) (zq8 (v:=.int 5) rfl c_MOST_FIELDS ⟨_,rfl⟩)))))),?_⟩
 refine zb1 (v:=.int a) h1 rfl ?_
 refine zb1 (v:=.int c) h1 rfl ?_
 refine zat2 ?_
 refine zf5 (fun e1=>?_) (fun e1=>?_)
 ·walk_at "wh"
  refine zb1 (v:=.ref l) h1 rfl ?_
  refine zh3 h2 ?_
  walk_at "wh"
  rw[zaa9 e1] at q
  refine zf5 (fun e2=>?_) (fun e2=>?_)
  ·walk_at "wh"
   rw[show decide (1<=ys.length/\ys.length<=5)=decide ((ys.length:Int)<=5) by rw[Bool.eq_iff_iff,decide_eq_true_iff,decide_eq_true_iff];omega] at q
   exact q
  ·walk_at "wh"
   rw[decide_eq_false (by walk_at "om")] at q
   exact q
 ·rw[zab4 e1] at q
  walk_at "wh"
  exact q
@[irreducible] def zd5 (zci6:Addr):Sp:=fun vs H Q E=>∃ b:Addr,vs=[.ref b] /\
 ((∃ (l:Addr) (ps:List Addr) (a c:Nat) (fs:List Fd),zi9 H b l ps a c fs/\OkB a c fs/\∀ H',Same H H'->Q .non H') ∨
  ∃ k:Int,BadB H b k/\∀ d H',H d=none->Same H H'->H' d=some (.xd [("field",.int k)])->E (.ref zci6) (some d) H')
theorem zv3 {zci6:Addr}{H:Hp}{b l:Addr}{ps:List Addr}{a c:Nat}{fs:List Fd}{Q:VK}{E:XK}(B:zi9 H b l ps a c fs) (O:OkB a c fs) (q:∀ H',Same H H'->Q .non H'):zd5 zci6 [.ref b] H Q E:=by unfold zd5;exact⟨b,rfl,.inl ⟨l,ps,a,c,fs,B,O,q⟩⟩
theorem zax3 {zci6:Addr}{H:Hp}{b:Addr}{k:Int}{Q:VK}{E:XK}(B:BadB H b k) (q:∀ d H',H d=none->Same H H'->H' d=some (.xd [("field",.int k)])->E (.ref zci6) (some d) H'):zd5 zci6 [.ref b] H Q E:=by unfold zd5;exact⟨b,rfl,.inr ⟨k,B,q⟩⟩
theorem zai0 {f:Addr}{fd:FuncData}(F:Fun K "look_battle" "look_battle" zi5 f fd) (N:Nm mg) (zcn0:Def P w K mg base CX0 5 "has_size" ["battle"] zj8) (zcn1:Def P w K mg base CX0 4 "is_field" ["first","second","field"] zj6) (Z:Cz K mg base zci9 zci6 zcj3 zcj7 zcj0 zci7 zcj2 zcj1 zcj6):FnOk P w K mg base (CXR P w) 6 f fd ["battle"] (zd5 zci6):=by
 refine F.okR zq6 (fun vs H Q E h=>by unfold zd5 at h;obtain⟨_,rfl,_⟩:=h;rfl) (fun cdv A outer s H vs Q E hr hX h=>?_)
 unfold zd5 at h
 obtain⟨b,rfl,h⟩:=h
 refine⟨_,(za4 (psIf (zp9 (ptV (pD zcn0 hr zb7 (za0 (pq 0) za1)))) (za5 (zba6 Z.z_NoBattle Z.g_NoBattle (zz6 Z.fi_NoBattle Z.z_NoBattle) (hr.mono (by decide)) rfl hX (zap3 uNeg za2))) zb8)
   (za5 (zu5 PassesOwn.leaving rfl (zax1 (K:=K) rfl N.enumerate_ (za0 (za8 (K:=K) rfl (pq 0) za2) za1)) (zl5 (K:=K) (n:=2) rfl rfl (zb6 (za7 (i:=1) zq6.nd rfl (by first|exact Or.inl rfl|exact Or.inr rfl)) (zb6 (za7 (i:=2) zq6.nd rfl (by first|exact Or.inl rfl|exact Or.inr rfl)) zl6))) (za5 (psIf (zp9 (ptV (pD zcn1 hr zb7 (za0 (za8 (K:=K) rfl (pq 0) za2) (za0 (za8 (K:=K) rfl (pq 0) za2) (za0 (pq 2) za1)))))) (za5 (zba6 Z.z_NoBattle Z.g_NoBattle (zz6 Z.fi_NoBattle Z.z_NoBattle) (hr.mono (by decide)) rfl hX (pq 1))) zb8))))),?_⟩
 rcases h with ⟨l,ps,a,c,fs,B,O,q⟩|⟨k,⟨l,ps,a,c,fs,B,hl,hk⟩,q⟩
 ·have X:=toBx B O.1.1 O.1.2
  have bl:=B.len
  refine zv9 B.out B.lst ?_
  rw[decide_eq_true (by rw[zcp2,bl];exact⟨⟨⟨by walk_at "om",by walk_at "om"⟩,by walk_at "om",by walk_at "om"⟩,O.2⟩)]
  refine zd2 (br_T ?_)
  refine zb1 (v:=.ref l) B.out rfl ?_
  refine zae7 B.lst ?_
  refine zs7 (xs:=ps.map V.ref) (fun i σ H1=>∃ x y:Option V,σ=[some (.ref b),x,y]/\Same H H1) ?_ ?_ ?_ ?_
  ·exact⟨_,_,rfl,Same.refl _⟩
  ·rintro i σ H1 _ ⟨_,_,_,s1⟩
   exact SqL.of (s1 _ _ B.lst)
  ·rintro i v σ H1 p H2 hi ⟨x,y,rfl,s1⟩ f2 s2 h2
   have s12:=s1.trans s2
   obtain⟨p',f,rfl,e1,e2,hf,ok⟩:=(X.same s12).elt hi
   rw[zcp5] at e2
   obtain⟨f',e3,rfl⟩:=zcp7.mp e2
   refine ze3 h2 ?_
   refine zb1 (v:=.int a) (s12 _ _ B.out) rfl ?_
   refine zb1 (v:=.int c) (s12 _ _ B.out) rfl ?_
   refine zaf9 hf ok (fun H3 s3=>?_)
   rw[zcb8 (B.fld i p' f' e1 e3).2]
   refine zd2 (br_T ?_)
   walk_at "wh"
   exact⟨_,_,rfl,s12.trans s3⟩
  ·rintro σ H1 ⟨x,y,rfl,s1⟩
   walk_at "wh"
   exact q _ s1
 ·have bl:=B.len
  rcases hk with ⟨nz,rfl⟩|⟨sz,j,f,rfl,ej,bad,good⟩
  ·walk_at "wh"
   refine zv9 B.out B.lst ?_
   rw[decide_eq_false (by rw[zcp2,bl];exact nz)]
   refine zd2 (br_F ?_)
   walk_at "wh"
   exact zau3 q
  ·have hj:j<ps.length:=by have:=(zcp4.mp ej).1;omega
   refine zv9 B.out B.lst ?_
   rw[decide_eq_true (by rw[zcp2,bl];exact sz)]
   refine zd2 (br_T ?_)
   refine zb1 (v:=.ref l) B.out rfl ?_
   refine zae7 B.lst ?_
   refine zs7 (xs:=ps.map V.ref) (fun i σ H1=>∃ x y:Option V,σ=[some (.ref b),x,y]/\Same H H1/\i<=j) ?_ ?_ ?_ ?_
   ·exact⟨_,_,rfl,Same.refl _,zct3 _⟩
   ·rintro i σ H1 _ ⟨_,_,_,s1,_⟩
    exact SqL.of (s1 _ _ B.lst)
   ·rintro i v σ H1 p H2 hi ⟨x,y,rfl,s1,ij⟩ f2 s2 h2
    have s12:=s1.trans s2
    obtain⟨p',f',rfl,e1,e2,hf,ok⟩:=(B.same s12).elt hi
    refine ze3 h2 ?_
    refine zb1 (v:=.int a) (s12 _ _ B.out) rfl ?_
    refine zb1 (v:=.int c) (s12 _ _ B.out) rfl ?_
    refine zaf9 hf ok (fun H3 s3=>?_)
    by_cases e:i=j
    ·subst e
     have:f'=f:=Option.some.inj (e2.symm.trans ej)
     subst this
     rw[bad]
     refine zd2 (br_F ?_)
     walk_at "wh"
     exact zau3 (fun d H4 f4 s4 h4=>q d H4 ((s12.trans s3).free f4) ((s12.trans s3).trans s4) h4)
    ·rw[good i f' (by walk_at "om") e2]
     refine zd2 (br_T ?_)
     walk_at "wh"
     exact⟨_,_,rfl,s12.trans s3,by walk_at "om"⟩
   ·rintro σ H1 ⟨x,y,rfl,s1,ij⟩
    rw[zcp2] at ij
    omega
@[irreducible] def zad2:Sp:=fun vs H Q _=>∃ (p:Addr) (a c x y:Nat) (f:Fd),vs=[.ref p,.int x,.int y]/\FdAt H p a c f/\x<=a/\y<=c/\Q (.int (f.won x y)) H
theorem zbx8 {H:Hp}{p:Addr}{a c x y:Nat}{f:Fd}{Q:VK}{E:XK}(F:FdAt H p a c f) (h1:x<=a) (h2:y<=c) (q:Q (.int (f.won x y)) H):zad2 [.ref p,.int x,.int y] H Q E:=by unfold zad2;exact⟨p,a,c,x,y,f,rfl,F,h1,h2,q⟩
theorem ok_won {f:Addr}{fd:FuncData}(F:Fun K "won" "won" zbg6 f fd) (N:Nm mg):FnOk P w K mg base CX0 1 f fd ["field","x","y"] zad2:=by
 refine F.ok sc_won (fun vs H Q E h=>by unfold zad2 at h;obtain⟨_,_,_,_,_,_,rfl,_⟩:=h;rfl) (fun cdv A outer s H vs Q E hr h=>?_)
 unfold zad2 at h
 obtain⟨p,a,c,x,y,f,rfl,F,h1,h2,q⟩:=h
 have hu:=hu40 hr
 refine⟨_,(za4 (psIf (ptC (oEqK (K:=K) rfl (by exact hu)) (za8 (K:=K) rfl (pq 0) za2) zd1) (za5 (za9 (za8 (K:=K) rfl (za8 (K:=K) rfl (za8 (K:=K) rfl (pq 0) za2) (pq 1)) (pq 2)))) zb8)
   (za4 (psIf (ptC (oEqK (K:=K) rfl (by exact hu)) (za8 (K:=K) rfl (pq 0) za2) zd1) (za5 (za9 (peIf (ptC oGe (zb5 oSub (pq 1) (pq 2)) (za8 (K:=K) rfl (pq 0) za2)) (za8 (K:=K) rfl (pq 0) za2) (zap3 uNeg (za8 (K:=K) rfl (pq 0) za2))))) zb8)
   (za4 (psIf (ptC (oEqK (K:=K) rfl (by exact hu)) (pq 1) (pq 2)) (za5 (za9 (za8 (K:=K) rfl (pq 0) za2))) zb8)
   (za5 (za9 (peIf (ptC oGt (pq 1) (pq 2)) (za8 (K:=K) rfl (pq 0) za2) (zap3 uNeg (za8 (K:=K) rfl (pq 0) za2)))))))),?_⟩
 cases f with
 | more wt t=>
  have F:H p=some (.tup [.str "more",.int wt,.int t]):=F
  refine zb1 (v:=.str "more") F rfl ?_
  refine zq7 (by decide) ?_
  refine zb1 (v:=.str "more") F rfl ?_
  refine zq7 (by decide) ?_
  walk_at "wh"
  have q:Q (.int (if x=y then t else if y<x then wt else -wt)) H:=q
  refine zf5 (fun h=>?_) (fun h=>?_)
  ·walk_at "wh"
   refine zb1 (v:=.int t) F rfl ?_
   walk_at "wh"
   rw[if_pos (by walk_at "om")] at q
   exact q
  ·rw[if_neg (by walk_at "om")] at q
   refine zf5 (fun h=>?_) (fun h=>?_)
   ·walk_at "wh"
    refine zb1 (v:=.int wt) F rfl ?_
    walk_at "wh"
    rw[if_pos (by walk_at "om")] at q
    exact q
   ·walk_at "wh"
    refine zb1 (v:=.int wt) F rfl ?_
    walk_at "wh"
    rw[if_neg (by walk_at "om")] at q
    exact q
 | lead wt l=>
  have F:H p=some (.tup [.str "lead",.int wt,.int l]):=F
  refine zb1 (v:=.str "lead") F rfl ?_
  refine zq7 (by decide) ?_
  refine zb1 (v:=.str "lead") F rfl ?_
  refine zr3 rfl ?_
  refine zb1 (v:=.int l) F rfl ?_
  walk_at "wh"
  have q:Q (.int (if l<=(x:Int) - y then wt else -wt)) H:=q
  refine zf5 (fun h=>?_) (fun h=>?_)
  ·walk_at "wh"
   refine zb1 (v:=.int wt) F rfl ?_
   walk_at "wh"
   rw[if_pos (by walk_at "om")] at q
   exact q
  ·walk_at "wh"
   refine zb1 (v:=.int wt) F rfl ?_
   walk_at "wh"
   rw[if_neg (by walk_at "om")] at q
   exact q
 | tab g=>
  obtain⟨q',ps,F,G⟩:=F
  obtain⟨r,er,hr'⟩:=G.some (i:=x) (by walk_at "om")
  refine zb1 (v:=.str "table") F rfl ?_
  refine zr3 rfl ?_
  refine zb1 (v:=.ref q') F rfl ?_
  refine zb0 (v:=.ref r) G.out (zc5 (by rw[zcp5,er];rfl)) ?_
  refine zb0 (v:=.int (g x y)) hr' (zc5 (zg1 (by walk_at "om"))) ?_
  walk_at "wh"
  exact q
def zc1 (H:Hp) (a:Addr) (b:Int):Prop:=∃ x y z:Int,H a=some (.lst [.int x,.int y,.int z])/\(y=1∨(y=0/\0<=x/\x<2147483629))/\0<=z/\z<=b
theorem zc1.same {H H':Hp}{a:Addr}{b:Int}(h:zc1 H a b) (s:Same H H'):zc1 H' a b:=by
 obtain⟨x,y,z,e,r⟩:=h
 exact⟨x,y,z,s _ _ e,r⟩
local macro_rules | `(tactic| walk_at "la")=>`(tactic| first|assumption|(refine zc1.same (H:=?H) ?l ?s;(case s=>assumption);(case l=>walk_at "la"))|fail "la")
theorem zc1.up {H:Hp}{a:Addr}{b c:Int}(h:zc1 H a b) (l:b<=c):zc1 H a c:=by
 obtain⟨x,y,z,e1,e2,e3,e4⟩:=h
 exact⟨x,y,z,e1,e2,e3,by walk_at "om"⟩
theorem zc1.ne {H:Hp}{a p:Addr}{b:Int}(h:zc1 H a b) (f:H p=none):p≠a:=by
 obtain⟨x,y,z,e,_⟩:=h
 exact Ne.symm (za6 e f)
local macro_rules | `(tactic| walk_at "ne")=>`(tactic| first|assumption|(apply Ne.symm;assumption)|(refine zc1.ne (H:=?H) (b:=?b) ?l ?f;(case f=>assumption);(case l=>walk_at "la"))|fail "ne")
@[irreducible] def zj9:Sp:=fun vs H Q _=>∃ n k:Int,vs=[.int n,.int k]/\0<=n/\n<2147483629/\0<=k/\k<=10000000/\∀ r:Int,0<=r->r<2147483587->Q (.int r) H
theorem zba7 {H:Hp}{n k:Int}{Q:VK}{E:XK}(h0:0<=n) (h1:n<2147483629) (h2:0<=k) (h3:k<=10000000) (q:∀ r:Int,0<=r->r<2147483587->Q (.int r) H):zj9 [.int n,.int k] H Q E:=by
 unfold zj9;exact⟨n,k,rfl,h0,h1,h2,h3,q⟩
theorem zay6 {f:Addr}{fd:FuncData}(F:Fun K "_law_mix" "_law_mix" zo5 f fd) (N:Nm mg):FnOk P w K mg base CX0 1 f fd ["_law_number","_law_k"] zj9:=by
 refine F.ok zac6 (fun vs H Q E h=>by unfold zj9 at h;obtain⟨n,k,rfl,_⟩:=h;rfl) (fun cdv A outer s H vs Q E hr h=>?_)
 unfold zj9 at h
 obtain⟨n,k,rfl,h1,h2,h3,h4,q⟩:=h
 refine⟨_,(za4 (psS (i:=2) zac6.nd (zb5 oMod (zb5 oMul (zb5 oAdd (zb5 oAdd (zb5 oMul (pq 0) (pq 0)) (zb5 oMul (pq 1) (pq 0))) (zb5 oMul (zb5 oMul za2 (pq 1)) (pq 1))) za2) za2))
   (za5 (za9 (zb5 oMod (zb5 oMul (pq 2) (pq 2)) za2)))),?_⟩
 repeat walk_at "st"
 walk_at "wh"
 exact q _ (by assumption) (by assumption)
@[irreducible] def zd8:Sp:=fun vs H Q _=>∃ (a:Addr) (z:Int),vs=[.ref a,.int 0]/\H a=some (.lst [.int z])/\Q (.int z) H
theorem zbe5 {H:Hp}{a:Addr}{z:Int}{Q:VK}{E:XK}(h:H a=some (.lst [.int z])) (q:Q (.int z) H):zd8 [.ref a,.int 0] H Q E:=by unfold zd8;exact⟨a,z,rfl,h,q⟩
theorem zac4 {f:Addr}{fd:FuncData}(F:Fun K "_law_cell_at" "_law_cell_at" zg6 f fd) (N:Nm mg):FnOk P w K mg base CX0 1 f fd ["_law_script","_law_k"] zd8:=by
 refine F.ok zac5 (fun vs H Q E h=>by unfold zd8 at h;obtain⟨_,_,rfl,_⟩:=h;rfl) (fun cdv A outer s H vs Q E hr h=>?_)
 unfold zd8 at h
 obtain⟨a,z,rfl,h,q⟩:=h
 have hu:=hu40 hr
 refine⟨_,(za4 (psIf (ptC oLt (pq 1) (pB (zq4 (K:=K) rfl) N.len_ zj5 (za0 (pq 0) za1))) (za5 (za9 (za8 (K:=K) rfl (pq 0) (pq 1)))) zb8)
   (za5 (za9 za2))),?_⟩
 refine zh3 h ?_
 refine zr3 (by show (0:Int)<((1:Nat):Int);decide) ?_
 refine zb0 (v:=.int z) h rfl ?_
 walk_at "wh"
 exact q
@[irreducible] def zh1:Sp:=fun vs H Q _=>∃ (a:Addr) (z:Int),vs=[.ref a,.int 0]/\H a=some (.lst [.int z])/\∀ p H',H p=none->Same H H'->zc1 H' p 0->Q (.ref p) H'
theorem zcd4 {H:Hp}{a:Addr}{z:Int}{Q:VK}{E:XK}(h:H a=some (.lst [.int z])) (q:∀ p H',H p=none->Same H H'->zc1 H' p 0->Q (.ref p) H'):zh1 [.ref a,.int 0] H Q E:=by unfold zh1;exact⟨a,z,rfl,h,q⟩
theorem zap6 {f:Addr}{fd:FuncData}(F:Fun K "_law_left" "_law_left" zm6 f fd) (N:Nm mg) (zck5:Def P w K mg base CX0 1 "_law_cell_at" ["_law_script","_law_k"] zd8):FnOk P w K mg base CX0 2 f fd ["_law_script","_law_k"] zh1:=by
 refine F.ok zaa3 (fun vs H Q E h=>by unfold zh1 at h;obtain⟨_,_,rfl,_⟩:=h;rfl) (fun cdv A outer s H vs Q E hr h=>?_)
 unfold zh1 at h
 obtain⟨a,z,rfl,h,q⟩:=h
 have hu:=hu40 hr
 refine⟨_,(za4 (psS (i:=2) zaa3.nd (pD zck5 hr zb7 (za0 (pq 0) (za0 (pq 1) za1))))
   (za4 (psIf (ptC oLt (pq 2) (zb5 oPow za2 za2)) (za5 (za9 (zk1 (za0 (zb5 oMod (pq 2) za2) (za0 za2 (za0 za2 za1)))))) zb8)
   (za5 (za9 (zk1 (za0 (zb5 oSub (pq 2) (zb5 oPow za2 za2)) (za0 za2 (za0 za2 za1)))))))),?_⟩
 refine zbe5 h ?_
 walk_at "st"
 refine zf5 (fun h=>?_) (fun h=>?_)
 ·repeat walk_at "st"
  walk_at "wh"
  exact q _ _ (by assumption) (by assumption) ⟨_,_,_,by assumption,.inr ⟨rfl,by assumption,by assumption⟩,by walk_at "om",by walk_at "om"⟩
 ·repeat walk_at "st"
  walk_at "wh"
  exact q _ _ (by assumption) (by assumption) ⟨_,_,_,by assumption,.inl rfl,by walk_at "om",by walk_at "om"⟩
@[irreducible] def zc9:Sp:=fun vs H Q _=>∃ (a:Addr) (m b:Int),vs=[.ref a,.int m]/\zc1 H a b/\b<=1000000/\0<m/\m<10 ^ 60/\∀ (d:Int) H',0<=d->d<m->Chg a H H'->zc1 H' a (b+1)->Q (.int d) H'
theorem zg2 {H:Hp}{a:Addr}{m b:Int}{Q:VK}{E:XK}(hL:zc1 H a b) (hb:b<=1000000) (h0:0<m) (h1:m<10 ^ 60) (q:∀ (d:Int) H',0<=d->d<m->Chg a H H'->zc1 H' a (b+1)->Q (.int d) H'):zc9 [.ref a,.int m] H Q E:=by
 unfold zc9;exact⟨a,m,b,rfl,hL,hb,h0,h1,q⟩
theorem zas5 {f:Addr}{fd:FuncData}(F:Fun K "_law_draw" "_law_draw" zl8 f fd) (N:Nm mg) (zcl9:Def P w K mg base CX0 1 "_law_mix" ["_law_number","_law_k"] zj9):FnOk P w K mg base CX0 2 f fd ["_law_left_here","_law_base"] zc9:=by
 refine F.ok zs8 (fun vs H Q E h=>by unfold zc9 at h;obtain⟨a,m,b,rfl,_⟩:=h;rfl) (fun cdv A outer s H vs Q E hr h=>?_)
 unfold zc9 at h
 obtain⟨a,m,b,rfl,⟨x,y,z,hl,hy,hz0,hz1⟩,hb,hm0,hm1,q⟩:=h
 have hu:=hu40 hr
 refine⟨_,(za4 (zbc0 (zb5 oAdd (za8 (K:=K) rfl (pq 0) za2) za2) (zbn5 (pq 0) za2 setM))
   (za4 (psIf (ptC (oEqK (K:=K) rfl (by exact hu)) (za8 (K:=K) rfl (pq 0) za2) za2) (za4 (psS (i:=2) zs8.nd (pD zcl9 hr zb7 (za0 (za8 (K:=K) rfl (pq 0) za2) (za0 (za8 (K:=K) rfl (pq 0) za2) za1))))
   (za4 (psIf (ptC oGt (pq 1) (zb5 oPow za2 za2)) (za5 (za9 (zb5 oMod (zb5 oMul (pq 2) (zb5 oAdd (zb5 oPow (pD zcl9 hr zb7 (za0 (za8 (K:=K) rfl (pq 0) za2) (za0 (zb5 oAdd (za8 (K:=K) rfl (pq 0) za2) za2) za1))) za2) za2)) (pq 1)))) zb8)
   (za5 (za9 (zb5 oMod (zb5 oMod (zb5 oMul (pq 2) (zb5 oAdd (pq 2) za2)) za2) (pq 1)))))) zb8)
   (za4 (psS (i:=3) zs8.nd (zb5 oMod (za8 (K:=K) rfl (pq 0) za2) (pq 1)))
   (za4 (zbc0 (zb5 oDiv (za8 (K:=K) rfl (pq 0) za2) (pq 1)) (zbn5 (pq 0) za2 setM))
   (za5 (za9 (pq 3))))))),?_⟩
 walk_at "st"
 refine zbi8 hl (by rfl) (fun H1 c1 h1=>?_)
 have h1:H1 a=some (.lst [.int x,.int y,.int (z+1)]):=h1
 refine zb0 (v:=.int y) h1 rfl ?_
 refine zf5 (fun h=>?_) (fun h=>?_)
 ·obtain⟨hx0,hx1⟩:0<=x/\x<2147483629:=by walk_at "om"
  subst h
  refine zb0 (v:=.int x) h1 rfl ?_
  refine zb0 (v:=.int (z+1)) h1 rfl ?_
  refine zba7 hx0 hx1 (by walk_at "om") (by walk_at "om") (fun r r0 r1=>?_)
  walk_at "st"
  refine zf5 (fun g=>?_) (fun g=>?_)
  ·walk_at "wh"
   refine zb0 (v:=.int x) h1 rfl ?_
   refine zb0 (v:=.int (z+1)) h1 rfl ?_
   refine zba7 hx0 hx1 (by walk_at "om") (by walk_at "om") (fun r2 r20 r21=>?_)
   refine zca6 ⟨by decide,by decide,by walk_at "om"⟩ ?_
   refine zae9 (by walk_at "om") (by walk_at "om") ?_
   refine zad7 (by walk_at "om") (fun d d0 d1=>?_)
   walk_at "wh"
   exact q _ _ d0 d1 c1 ⟨_,_,_,h1,.inr ⟨rfl,hx0,hx1⟩,by walk_at "om",by walk_at "om"⟩
  ·walk_at "wh"
   refine zae9 (by walk_at "om") (by walk_at "om") ?_
   refine zad7 (by walk_at "om") (fun d1 d10 d11=>?_)
   refine zad7 (by walk_at "om") (fun d d0 d1=>?_)
   walk_at "wh"
   exact q _ _ d0 d1 c1 ⟨_,_,_,h1,.inr ⟨rfl,hx0,hx1⟩,by walk_at "om",by walk_at "om"⟩
 ·have hy1:y=1:=by walk_at "om"
  subst hy1
  refine zb0 (v:=.int x) h1 rfl ?_
  refine zad7 (by walk_at "om") (fun d d0 d1=>?_)
  refine zb0 (v:=.int x) h1 rfl ?_
  walk_at "st"
  refine zbi8 h1 (by rfl) (fun H2 c2 h2=>?_)
  walk_at "wh"
  exact q _ _ d0 d1 (c1.trans c2) ⟨_,_,_,h2,.inl rfl,by walk_at "om",by walk_at "om"⟩
theorem zc1.chg {H H':Hp}{a p:Addr}{b:Int}(h:zc1 H a b) (c:Chg p H H') (n:a≠p):zc1 H' a b:=by
 obtain⟨x,y,z,e,r⟩:=h
 exact⟨x,y,z,c _ _ n e,r⟩
theorem zc1.some {H:Hp}{a:Addr}{b:Int}(h:zc1 H a b):∃ o,H a=some o:=by
 obtain⟨x,y,z,e,r⟩:=h
 exact⟨_,e⟩
theorem Chg.free' {a l:Addr}{H H':Hp}(x:Chg a H H') (h:H' l=none) (n:l≠a):H l=none:=by
 cases e:H l with
 | none=>rfl
 | some o=>
  have:=x l o n e
  rw[h] at this
  cases this
def Fd.Bd (a c:Nat):Fd->Prop
 | .more w _=>w<=2*10 ^ 28
 | .lead w _=>w<=2*10 ^ 28
 | .tab g=>∀ x y,x<=a->y<=c->-(2*10 ^ 28)<=g x y/\g x y<=2*10 ^ 28
@[irreducible] def zh4:Sp:=fun vs H Q _=>∃ (a:Addr) (b:Int),vs=[.ref a]/\zc1 H a b/\b<=100000/\∀ (d:Int) H',-(10 ^ 28)<=d->d<=10 ^ 28->Chg a H H'->zc1 H' a (b+2)->Q (.int d) H'
theorem zch9 {H:Hp}{a:Addr}{b:Int}{Q:VK}{E:XK}(hL:zc1 H a b) (hb:b<=100000) (q:∀ (d:Int) H',-(10 ^ 28)<=d->d<=10 ^ 28->Chg a H H'->zc1 H' a (b+2)->Q (.int d) H'):zh4 [.ref a] H Q E:=by unfold zh4;exact⟨a,b,rfl,hL,hb,q⟩
theorem zaq6 {f:Addr}{fd:FuncData}(F:Fun K "_law_some" "_law_some" zl9 f fd) (N:Nm mg) (zci8:Def P w K mg base CX0 2 "_law_draw" ["_law_left_here","_law_base"] zc9):FnOk P w K mg base CX0 3 f fd ["_law_left_here"] zh4:=by
 refine F.ok zaa2 (fun vs H Q E h=>by unfold zh4 at h;obtain⟨_,_,rfl,_⟩:=h;rfl) (fun cdv A outer s H vs Q E hr h=>?_)
 unfold zh4 at h
 obtain⟨a,b,rfl,hL,hb,q⟩:=h
 refine⟨_,(za4 (psS (i:=1) zaa2.nd (za8 (K:=K) rfl (zk1 (za0 za2 (za0 za2 (za0 (zb5 oPow za2 za2) za1)))) (pD zci8 hr zb7 (za0 (pq 0) (za0 za2 za1)))))
   (za5 (za9 (zb5 oSub (pD zci8 hr zb7 (za0 (pq 0) (za0 (zb5 oAdd (zb5 oMul za2 (pq 1)) za2) za1))) (pq 1))))),?_⟩
 walk_at "st"
 refine zc4 (fun p1 H1 f1 s1 h1=>?_)
 refine zg2 (hL.same s1) (by walk_at "om") (by walk_at "om") (by walk_at "om") (fun d1 H2 d10 d11 c2 L2=>?_)
 have h12:=c2 _ _ (hL.ne f1) h1
 refine zt8 h12 (by walk_at "om") (by simp only[zcr8,zcu4];omega) ?_
 intro v hv
 obtain⟨m,rfl,m1,m2⟩:∃ m:Int,v=.int m/\1<=m/\m<=10 ^ 28:=by
  simp only[zcq6,zcs4,or_false] at hv
  rcases hv with rfl|rfl|rfl<;>exact⟨_,rfl,by walk_at "om",by walk_at "om"⟩
 clear hv
 refine zae9 (by decide) (by decide) ?_
 refine zg2 L2 (by walk_at "om") (by walk_at "om") (by walk_at "om") (fun d3 H3 d30 d31 c3 L3=>?_)
 walk_at "wh"
 exact q _ _ (by walk_at "om") (by walk_at "om") ((s1.toChg.trans c2).trans c3) (L3.up (by walk_at "om"))
theorem zbp0 {z:List Int}{n:Nat}(h:z.length=n):z.map V.int=rowV n fun y=>z.getD y 0:=by
 subst h
 apply zcu7
 intro i
 by_cases hi:i<z.length
 ·rw[zg1 hi,zcp5,zcp1 hi,zcp6,zcp1 hi]
  rfl
 ·rw[zcs1 (by simp;omega),zcs1 (by rw[zl1];omega)]
@[irreducible] def zh2:Sp:=fun vs H Q _=>∃ (a:Addr) (b:Int) (n m:Nat),vs=[.ref a,.int n,.int m]/\zc1 H a b/\b<=90000/\n<=10/\m<=10/\∀ p f H',Chg a H H'->zc1 H' a (b+1000)->FdAt (nw H H') p n m f->f.Ok->f.Bd n m->Q (.ref p) H'
theorem zcf6 {H:Hp}{a:Addr}{b:Int}{n m:Nat}{Q:VK}{E:XK}(hL:zc1 H a b) (hb:b<=90000) (h1:n<=10) (h2:m<=10) (q:∀ p f H',Chg a H H'->zc1 H' a (b+1000)->FdAt (nw H H') p n m f->f.Ok->f.Bd n m->Q (.ref p) H'):zh2 [.ref a,.int n,.int m] H Q E:=by unfold zh2;exact⟨a,b,n,m,rfl,hL,hb,h1,h2,q⟩
set_option maxHeartbeats 0 in
theorem zap5 {f:Addr}{fd:FuncData}(F:Fun K "_law_rule" "_law_rule" zm3 f fd) (N:Nm mg) (zci8:Def P w K mg base CX0 2 "_law_draw" ["_law_left_here","_law_base"] zc9) (zcm1:Def P w K mg base CX0 3 "_law_some" ["_law_left_here"] zh4):FnOk P w K mg base CX0 4 f fd ["_law_left_here","_law_first","_law_second"] zh2:=by
 refine F.ok zs3 (fun vs H Q E h=>by unfold zh2 at h;obtain⟨_,_,_,_,rfl,_⟩:=h;rfl) (fun cdv A outer s H vs Q E hr h=>?_)
 unfold zh2 at h
 obtain⟨a,b,n,m,rfl,hL,hb,h1,h2,q⟩:=h
 have hu:=hu40 hr
 refine⟨_,(za4 (psS (i:=3) zs3.nd (pD zci8 hr zb7 (za0 (pq 0) (za0 za2 za1))))
   (za4 (psS (i:=4) zs3.nd (zb5 oAdd za2 (pD zci8 hr zb7 (za0 (pq 0) (za0 (za8 (K:=K) rfl (zk1 (za0 za2 (za0 za2 (za0 (zb5 oPow za2 za2) za1)))) (pD zci8 hr zb7 (za0 (pq 0) (za0 za2 za1)))) za1)))))
   (za4 (psIf (ptC oLt (pq 3) za2) (za5 (za9 (zn8 (za0 zd1 (za0 (pq 4) (za0 (zb5 oSub (pD zci8 hr zb7 (za0 (pq 0) (za0 (zb5 oAdd (zb5 oMul za2 (pq 4)) za2) za1))) (pq 4)) za1)))))) zb8)
   (za4 (psIf (ptC (oEqK (K:=K) rfl (by exact hu)) (pq 3) za2) (za5 (za9 (zn8 (za0 zd1 (za0 (pq 4) (za0 (zb5 oSub (pD zci8 hr zb7 (za0 (pq 0) (za0 (za8 (K:=K) rfl (zk1 (za0 za2 (za0 za2 za1))) (pD zci8 hr zb7 (za0 (pq 0) (za0 za2 za1)))) za1))) za2) za1)))))) zb8)
   (za4 (psIf (ptC (oEqK (K:=K) rfl (by exact hu)) (pq 3) za2) (za5 (za9 (zn8 (za0 zd1 (za0 (zf4 (N:=["_law_x","_law_second","_law_left_here"]) (ks:=[none,some 2,some 0]) (zn9 N.range_ (za0 (zb5 oAdd (pq 1) za2) za1)) (fun cl C s3 H3 fp=>(za7 (i:=0) nb_15 rfl (by first|exact Or.inl rfl|exact Or.inr rfl))) (fun cl C s3 H3 fp=>zc7) (fun cl C s3 H3 fp=>(zf4 (N:=["_law_y","_law_left_here"]) (ks:=[none,some 2]) (zn9 N.range_ (za0 (zb5 oAdd (pq 1) za2) za1)) (fun cl C s3 H3 fp=>(za7 (i:=0) nb_16 rfl (by first|exact Or.inl rfl|exact Or.inr rfl))) (fun cl C s3 H3 fp=>zc7) (fun cl C s3 H3 fp=>(zb5 oSub (pD zci8 hr zb7 (za0 (pq 1) (za0 za2 za1))) za2)) (.skip (.take rfl rfl (by first|exact Or.inl rfl|exact Or.inr rfl) .nil)))) (.skip (.take rfl rfl (by first|exact Or.inl rfl|exact Or.inr rfl) (.take rfl rfl (by first|exact Or.inl rfl|exact Or.inr rfl) .nil)))) za1))))) zb8)
   (za5 (za9 (zn8 (za0 zd1 (za0 (zf4 (N:=["_law_x","_law_second","_law_left_here"]) (ks:=[none,some 2,some 0]) (zn9 N.range_ (za0 (zb5 oAdd (pq 1) za2) za1)) (fun cl C s3 H3 fp=>(za7 (i:=0) nb_15 rfl (by first|exact Or.inl rfl|exact Or.inr rfl))) (fun cl C s3 H3 fp=>zc7) (fun cl C s3 H3 fp=>(zf4 (N:=["_law_y","_law_left_here"]) (ks:=[none,some 2]) (zn9 N.range_ (za0 (zb5 oAdd (pq 1) za2) za1)) (fun cl C s3 H3 fp=>(za7 (i:=0) nb_16 rfl (by first|exact Or.inl rfl|exact Or.inr rfl))) (fun cl C s3 H3 fp=>zc7) (fun cl C s3 H3 fp=>(pD zcm1 hr zb7 (za0 (pq 1) za1))) (.skip (.take rfl rfl (by first|exact Or.inl rfl|exact Or.inr rfl) .nil)))) (.skip (.take rfl rfl (by first|exact Or.inl rfl|exact Or.inr rfl) (.take rfl rfl (by first|exact Or.inl rfl|exact Or.inr rfl) .nil)))) za1)))))))))),?_⟩
 refine zg2 hL (by walk_at "om") (by walk_at "om") (by walk_at "om") (fun kd H1 k0 k1 c1 L1=>?_)
 walk_at "st"
 refine zc4 (fun q1 Ha fa sa ha=>?_)
 refine zg2 (L1.same sa) (by walk_at "om") (by walk_at "om") (by walk_at "om") (fun d3 Hb d30 d31 cb Lb=>?_)
 have hab:=cb _ _ (L1.ne fa) ha
 refine zt8 hab (by walk_at "om") (by simp only[zcr8,zcu4];omega) ?_
 intro v hv
 obtain⟨tp,rfl,tp1,tp2⟩:∃ t:Int,v=.int t/\1<=t/\t<=10 ^ 28:=by
  simp only[zcq6,zcs4,or_false] at hv
  rcases hv with rfl|rfl|rfl<;>exact⟨_,rfl,by walk_at "om",by walk_at "om"⟩
 clear hv hab ha
 refine zg2 Lb (by walk_at "om") (by walk_at "om") (by walk_at "om") (fun d4 H2 d40 d41 c2 L2=>?_)
 have c02:Chg a H H2:=((c1.same sa).trans cb).trans c2
 obtain⟨wt,ewt,w0,w1⟩:∃ wt:Int,1+d4=wt/\1<=wt/\wt<=10 ^ 28:=⟨_,rfl,by walk_at "om",by walk_at "om"⟩
 walk_at "wh"
 rw[ewt]
 refine zf5 (fun e0=>?_) (fun e0=>?_)
 ·walk_at "wh"
  refine zae9 (by decide) (by decide) ?_
  refine zg2 L2 (by walk_at "om") (by walk_at "om") (by walk_at "om") (fun d5 H5 d50 d51 c5 L5=>?_)
  refine zd6 (fun p6 H6 f6 s6 h6=>?_)
  walk_at "wh"
  have c05:=c02.trans c5
  exact q p6 (.more wt (d5 - wt)) H6 (c05.same s6) ((L5.same s6).up (by walk_at "om")) (zp7 (Chg.free' c05 f6 (L5.ne f6)) h6) ⟨w0,by walk_at "om",by walk_at "om"⟩ (show wt<=2*10 ^ 28 by walk_at "om")
 refine zf5 (fun e1=>?_) (fun e1=>?_)
 ·walk_at "wh"
  refine zc4 (fun p4 H4 f4 s4 h4=>?_)
  refine zg2 (L2.same s4) (by walk_at "om") (by walk_at "om") (by walk_at "om") (fun d5 H5 d50 d51 c5 L5=>?_)
  have h45:=c5 _ _ (L2.ne f4) h4
  refine zt8 h45 (by walk_at "om") (by simp only[zcr8,zcu4];omega) ?_
  intro v hv
  obtain⟨tq,rfl,tq1,tq2⟩:∃ t:Int,v=.int t/\1<=t/\t<=25:=by
   simp only[zcq6,zcs4,or_false] at hv
   rcases hv with rfl|rfl<;>exact⟨_,rfl,by walk_at "om",by walk_at "om"⟩
  clear hv
  refine zg2 L5 (by walk_at "om") (by walk_at "om") (by walk_at "om") (fun d6 H6 d60 d61 c6 L6=>?_)
  refine zd6 (fun p7 H7 f7 s7 h7=>?_)
  walk_at "wh"
  have c06:=((c02.same s4).trans c5).trans c6
  exact q p7 (.lead wt (d6 - 2)) H7 (c06.same s7) ((L6.same s7).up (by walk_at "om")) (zp7 (Chg.free' c06 f7 (L6.ne f7)) h7) w0 (show wt<=2*10 ^ 28 by walk_at "om")
 refine zf5 (fun e2=>?_) (fun e2=>?_)
 ·walk_at "wh"
  refine zf2 (by decide) (by decide) (by walk_at "om") (by walk_at "om") ?_
  rw[show ((n:Int)+1 - 0).toNat=n+1 by walk_at "om"]
  refine zp6 (by rw[sizeLine_eq];omega) (fun r H3 f3 s3 h3=>?_)
  have nr:r≠a:=L2.ne f3
  have fr:H r=none:=Chg.free' c02 f3 nr
  refine⟨fun i ys σ H4=>∃ (t:Option V) (qs:List Addr) (zs:List (List Int)),σ=[t,some (.int m),some (.ref a)]/\ys=qs.map V.ref/\zc1 H4 a (b+20+50*i)/\Chg2 a r H2 H4/\qs.length=i/\zs.length=i/\∀ (k:Nat) q z,qs[k]?=some q->zs[k]?=some z->H q=none/\q≠r/\q≠a/\H4 q=some (.lst (z.map V.int))/\z.length=m+1/\∀ y∈z,-(10 ^ 28)<=y/\y<=10 ^ 28,?_,?_,?_⟩
  ·exact⟨none,[],[],rfl,rfl,(L2.same s3).up (by walk_at "om"),s3.to2,rfl,rfl,fun k q z e=>by simp at e⟩
  ·rintro i mm ys σ H4 hi hm hl h4 ⟨t,qs,zs,rfl,rfl,L4,c4,ql,zl,pr⟩
   have hi:i<n+1:=hi
   refine br_T ?_
   refine zf2 (by decide) (by decide) (by walk_at "om") (by walk_at "om") ?_
   rw[show ((m:Int)+1 - 0).toNat=m+1 by walk_at "om"]
   refine zp6 (by rw[sizeLine_eq];omega) (fun acc H5 f5 s5 h5=>?_)
   have na:acc≠a:=L4.ne f5
   have nra:r≠acc:=za6 h4 f5
   refine⟨fun j ys σ H6=>∃ (t:Option V) (z:List Int),σ=[t,some (.ref a)]/\ys=z.map V.int/\z.length=j/\(∀ y∈z,-(10 ^ 28)<=y/\y<=10 ^ 28)/\zc1 H6 a (b+20+50*i+4*j)/\Chg2 a acc H4 H6,?_,?_,?_⟩
   ·exact⟨none,[],rfl,rfl,rfl,fun y hy=>by (cases hy),(L4.same s5).up (by walk_at "om"),s5.to2⟩
   ·rintro j m' ys σ H6 hj hm' hl' h6 ⟨t,z,rfl,rfl,lz,bz,L6,c6⟩
    have hj:j<m+1:=hj
    refine br_T ?_
    refine zg2 L6 (by walk_at "om") (by walk_at "om") (by walk_at "om") (fun d H7 d0 d1 c7 L7=>?_)
    refine zx6 hj hm' hl' (c7 _ _ na h6) (fun H8 c8 h8=>?_)
    exact⟨_,z++[_],rfl,by rw[zcr5];rfl,by rw[zcr0,lz];rfl,(fun y hy=>by
     rcases zct7.mp hy with hy|hy
     ·exact bz y hy
     ·rw[zcx1.mp hy];omega),(L7.chg c8 (Ne.symm na)).up (by walk_at "om"),(c6.trans c7.toL).trans c8.toR⟩
   ·rintro ys σ H6 h6 ⟨t,z,rfl,rfl,lz,bz,L6,c6⟩
    have facc:H acc=none:=Chg.free' c02 (by
     cases e:H2 acc with
     | none=>rfl
     | some o=>
      have:=c4 _ _ na (Ne.symm nra) e
      rw[f5] at this
      cases this) na
    refine zx6 hi hm hl (c6 _ _ nr nra h4) (fun H7 c7 h7=>?_)
    refine⟨_,qs++[acc],zs++[z],rfl,by rw[zcr5];rfl,(L6.chg c7 (Ne.symm nr)).up (by walk_at "om"),fun x o z1 z2 e=>?_,by rw[zcr0,ql];rfl,by rw[zcr0,zl];rfl,fun k q z' g1 g2=>?_⟩
    ·have e4:=c4 _ _ z1 z2 e
     exact c7 _ _ z2 (c6 _ _ z1 (za6 e4 f5) e4)
    by_cases hk:k<qs.length
    ·rw[zct0 hk] at g1
     rw[zct0 (by walk_at "om")] at g2
     obtain⟨y1,y2,y3,y4,y5,y6⟩:=pr k q z' g1 g2
     exact⟨y1,y2,y3,c7 _ _ y2 (c6 _ _ y3 (za6 y4 f5) y4),y5,y6⟩
    ·rw[zct2 (by walk_at "om")] at g1 g2
     have k0:k - qs.length=0:=by
      have:=(zcp4.mp g1).1
      simp at this;omega
     rw[k0] at g1
     rw[show k - zs.length=0 by walk_at "om"] at g2
     cases g1
     cases g2
     exact⟨facc,Ne.symm nra,na,c7 _ _ (Ne.symm nra) h6,lz,bz⟩
  ·rintro ys σ H4 h4 ⟨t,qs,zs,rfl,rfl,L4,c4,ql,zl,pr⟩
   have c04:Chg a H H4:=fun x o z1 e=>c4 _ _ z1 (za6 e fr) (c02 _ _ z1 e)
   refine zd6 (fun p5 H5 f5 s5 h5=>?_)
   walk_at "wh"
   refine q p5 (.tab fun x y=>(zs.getD x []).getD y 0) H5 (c04.same s5) ((L4.same s5).up (by walk_at "om")) ⟨r,qs,zp7 (Chg.free' c04 f5 (L4.ne f5)) h5,zp7 fr (s5 _ _ h4),ql,fun i p e=>?_⟩ trivial (fun x y hx hy=>by
    obtain⟨z,ez⟩:∃ z,zs[x]?=some z:=⟨_,zcp1 (by walk_at "om")⟩
    obtain⟨p,ep⟩:∃ p,qs[x]?=some p:=⟨_,zcp1 (by walk_at "om")⟩
    obtain⟨y1,y2,y3,y4,y5,y6⟩:=pr x p z ep ez
    have e1:zs.getD x []=z:=by rw[zcp6,ez];rfl
    show -(2*10 ^ 28)<=(zs.getD x []).getD y 0/\(zs.getD x []).getD y 0<=2*10 ^ 28
    rw[e1]
    have hm:=y6 (z.getD y 0) (by rw[zcp6,zcp1 (by walk_at "om")];exact zcw2 _)
    omega)
   obtain⟨z,ez⟩:∃ z,zs[i]?=some z:=⟨_,zcp1 (by have:=(zcp4.mp e).1;omega)⟩
   obtain⟨y1,y2,y3,y4,y5,_⟩:=pr i p z e ez
   have eg:zs.getD i []=z:=by rw[zcp6,ez];rfl
   show nw H H5 p=some (.lst (rowV (m+1) fun y=>(zs.getD i []).getD y 0))
   rw[eg,← zbp0 y5]
   exact zp7 y1 (s5 _ _ y4)
 ·walk_at "wh"
  refine zf2 (by decide) (by decide) (by walk_at "om") (by walk_at "om") ?_
  rw[show ((n:Int)+1 - 0).toNat=n+1 by walk_at "om"]
  refine zp6 (by rw[sizeLine_eq];omega) (fun r H3 f3 s3 h3=>?_)
  have nr:r≠a:=L2.ne f3
  have fr:H r=none:=Chg.free' c02 f3 nr
  refine⟨fun i ys σ H4=>∃ (t:Option V) (qs:List Addr) (zs:List (List Int)),σ=[t,some (.int m),some (.ref a)]/\ys=qs.map V.ref/\zc1 H4 a (b+20+50*i)/\Chg2 a r H2 H4/\qs.length=i/\zs.length=i/\∀ (k:Nat) q z,qs[k]?=some q->zs[k]?=some z->H q=none/\q≠r/\q≠a/\H4 q=some (.lst (z.map V.int))/\z.length=m+1/\∀ y∈z,-(10 ^ 28)<=y/\y<=10 ^ 28,?_,?_,?_⟩
  ·exact⟨none,[],[],rfl,rfl,(L2.same s3).up (by walk_at "om"),s3.to2,rfl,rfl,fun k q z e=>by simp at e⟩
  ·rintro i mm ys σ H4 hi hm hl h4 ⟨t,qs,zs,rfl,rfl,L4,c4,ql,zl,pr⟩
   have hi:i<n+1:=hi
   refine br_T ?_
   refine zf2 (by decide) (by decide) (by walk_at "om") (by walk_at "om") ?_
   rw[show ((m:Int)+1 - 0).toNat=m+1 by walk_at "om"]
   refine zp6 (by rw[sizeLine_eq];omega) (fun acc H5 f5 s5 h5=>?_)
   have na:acc≠a:=L4.ne f5
   have nra:r≠acc:=za6 h4 f5
   refine⟨fun j ys σ H6=>∃ (t:Option V) (z:List Int),σ=[t,some (.ref a)]/\ys=z.map V.int/\z.length=j/\(∀ y∈z,-(10 ^ 28)<=y/\y<=10 ^ 28)/\zc1 H6 a (b+20+50*i+4*j)/\Chg2 a acc H4 H6,?_,?_,?_⟩
   ·exact⟨none,[],rfl,rfl,rfl,fun y hy=>by (cases hy),(L4.same s5).up (by walk_at "om"),s5.to2⟩
   ·rintro j m' ys σ H6 hj hm' hl' h6 ⟨t,z,rfl,rfl,lz,bz,L6,c6⟩
    have hj:j<m+1:=hj
    refine br_T ?_
    refine zch9 L6 (by walk_at "om") (fun d H7 d0 d1 c7 L7=>?_)
    refine zx6 hj hm' hl' (c7 _ _ na h6) (fun H8 c8 h8=>?_)
    exact⟨_,z++[_],rfl,by rw[zcr5];rfl,by rw[zcr0,lz];rfl,(fun y hy=>by
     rcases zct7.mp hy with hy|hy
     ·exact bz y hy
     ·rw[zcx1.mp hy];omega),(L7.chg c8 (Ne.symm na)).up (by walk_at "om"),(c6.trans c7.toL).trans c8.toR⟩
   ·rintro ys σ H6 h6 ⟨t,z,rfl,rfl,lz,bz,L6,c6⟩
    have facc:H acc=none:=Chg.free' c02 (by
     cases e:H2 acc with
     | none=>rfl
     | some o=>
      have:=c4 _ _ na (Ne.symm nra) e
      rw[f5] at this
      cases this) na
    refine zx6 hi hm hl (c6 _ _ nr nra h4) (fun H7 c7 h7=>?_)
    refine⟨_,qs++[acc],zs++[z],rfl,by rw[zcr5];rfl,(L6.chg c7 (Ne.symm nr)).up (by walk_at "om"),fun x o z1 z2 e=>?_,by rw[zcr0,ql];rfl,by rw[zcr0,zl];rfl,fun k q z' g1 g2=>?_⟩
    ·have e4:=c4 _ _ z1 z2 e
     exact c7 _ _ z2 (c6 _ _ z1 (za6 e4 f5) e4)
    by_cases hk:k<qs.length
    ·rw[zct0 hk] at g1
     rw[zct0 (by walk_at "om")] at g2
     obtain⟨y1,y2,y3,y4,y5,y6⟩:=pr k q z' g1 g2
     exact⟨y1,y2,y3,c7 _ _ y2 (c6 _ _ y3 (za6 y4 f5) y4),y5,y6⟩
    ·rw[zct2 (by walk_at "om")] at g1 g2
     have k0:k - qs.length=0:=by
      have:=(zcp4.mp g1).1
      simp at this;omega
     rw[k0] at g1
     rw[show k - zs.length=0 by walk_at "om"] at g2
     cases g1
     cases g2
     exact⟨facc,Ne.symm nra,na,c7 _ _ (Ne.symm nra) h6,lz,bz⟩
  ·rintro ys σ H4 h4 ⟨t,qs,zs,rfl,rfl,L4,c4,ql,zl,pr⟩
   have c04:Chg a H H4:=fun x o z1 e=>c4 _ _ z1 (za6 e fr) (c02 _ _ z1 e)
   refine zd6 (fun p5 H5 f5 s5 h5=>?_)
   walk_at "wh"
   refine q p5 (.tab fun x y=>(zs.getD x []).getD y 0) H5 (c04.same s5) ((L4.same s5).up (by walk_at "om")) ⟨r,qs,zp7 (Chg.free' c04 f5 (L4.ne f5)) h5,zp7 fr (s5 _ _ h4),ql,fun i p e=>?_⟩ trivial (fun x y hx hy=>by
    obtain⟨z,ez⟩:∃ z,zs[x]?=some z:=⟨_,zcp1 (by walk_at "om")⟩
    obtain⟨p,ep⟩:∃ p,qs[x]?=some p:=⟨_,zcp1 (by walk_at "om")⟩
    obtain⟨y1,y2,y3,y4,y5,y6⟩:=pr x p z ep ez
    have e1:zs.getD x []=z:=by rw[zcp6,ez];rfl
    show -(2*10 ^ 28)<=(zs.getD x []).getD y 0/\(zs.getD x []).getD y 0<=2*10 ^ 28
    rw[e1]
    have hm:=y6 (z.getD y 0) (by rw[zcp6,zcp1 (by walk_at "om")];exact zcw2 _)
    omega)
   obtain⟨z,ez⟩:∃ z,zs[i]?=some z:=⟨_,zcp1 (by have:=(zcp4.mp e).1;omega)⟩
   obtain⟨y1,y2,y3,y4,y5,_⟩:=pr i p z e ez
   have eg:zs.getD i []=z:=by rw[zcp6,ez];rfl
   show nw H H5 p=some (.lst (rowV (m+1) fun y=>(zs.getD i []).getD y 0))
   rw[eg,← zbp0 y5]
   exact zp7 y1 (s5 _ _ y4)
@[irreducible] def zf0:Sp:=fun vs H Q _=>∃ (a:Addr) (b:Int) (t:Nat),vs=[.ref a,.int t,.int 5]/\t<=10/\zc1 H a b/\b<=1000/\∀ bt l ps n m fs H',Chg a H H'->zc1 H' a (b+10000)->zi9 (rm a H') bt l ps n m fs->OkB n m fs->(∀ f∈fs,f.Bd n m)->Q (.ref bt) H'
theorem zal1 {H:Hp}{a:Addr}{b:Int}{t:Nat}{Q:VK}{E:XK}(ht:t<=10) (hL:zc1 H a b) (hb:b<=1000) (q:∀ bt l ps n m fs H',Chg a H H'->zc1 H' a (b+10000)->zi9 (rm a H') bt l ps n m fs->OkB n m fs->(∀ f∈fs,f.Bd n m)->Q (.ref bt) H'):zf0 [.ref a,.int t,.int 5] H Q E:=by unfold zf0;exact⟨a,b,t,rfl,ht,hL,hb,q⟩
theorem zah1 {f:Addr}{fd:FuncData}(F:Fun K "_law_battle" "_law_battle" zi4 f fd) (N:Nm mg) (zci8:Def P w K mg base CX0 2 "_law_draw" ["_law_left_here","_law_base"] zc9) (zcm2:Def P w K mg base CX0 4 "_law_rule" ["_law_left_here","_law_first","_law_second"] zh2):FnOk P w K mg base CX0 5 f fd ["_law_left_here","_law_most","_law_fields"] zf0:=by
 refine F.ok zq5 (fun vs H Q E h=>by unfold zf0 at h;obtain⟨_,_,_,rfl,_⟩:=h;rfl) (fun cdv A outer s H vs Q E hr h=>?_)
 unfold zf0 at h
 obtain⟨a,b,tt,rfl,ht,hL,hb,q⟩:=h
 refine⟨_,(za4 (psS (i:=3) zq5.nd (pD zci8 hr zb7 (za0 (pq 0) (za0 (zb5 oAdd (pq 1) za2) za1))))
   (za4 (psS (i:=4) zq5.nd (pD zci8 hr zb7 (za0 (pq 0) (za0 (zb5 oAdd (pq 1) za2) za1))))
   (za5 (za9 (zn8 (za0 (pq 3) (za0 (pq 4) (za0 (zf4 (N:=["_law_k","_law_left_here","_law_first","_law_second"]) (ks:=[none,some 0,some 3,some 4]) (zn9 N.range_ (za0 (zb5 oAdd za2 (pD zci8 hr zb7 (za0 (pq 0) (za0 (pq 2) za1)))) za1)) (fun cl C s3 H3 fp=>(za7 (i:=0) nb_17 rfl (by first|exact Or.inl rfl|exact Or.inr rfl))) (fun cl C s3 H3 fp=>zc7) (fun cl C s3 H3 fp=>(pD zcm2 hr zb7 (za0 (pq 1) (za0 (pq 2) (za0 (pq 3) za1))))) (.skip (.take rfl rfl (by first|exact Or.inl rfl|exact Or.inr rfl) (.take rfl rfl (by first|exact Or.inl rfl|exact Or.inr rfl) (.take rfl rfl (by first|exact Or.inl rfl|exact Or.inr rfl) .nil))))) za1)))))))),?_⟩
 refine zg2 hL (by walk_at "om") (by walk_at "om") (by walk_at "om") (fun d1 H1 d10 d11 c1 L1=>?_)
 obtain⟨n,rfl⟩:∃ n:Nat,d1=n:=⟨d1.toNat,by walk_at "om"⟩
 refine zg2 L1 (by walk_at "om") (by walk_at "om") (by walk_at "om") (fun d2 H2 d20 d21 c2 L2=>?_)
 obtain⟨m,rfl⟩:∃ n:Nat,d2=n:=⟨d2.toNat,by walk_at "om"⟩
 refine zg2 L2 (by walk_at "om") (by walk_at "om") (by walk_at "om") (fun d3 H3 d30 d31 c3 L3=>?_)
 have c03:=(c1.trans c2).trans c3
 refine zf2 (by decide) (by decide) (by walk_at "om") (by walk_at "om") ?_
 obtain⟨z,ez⟩:∃ z:Nat,(1+d3 - 0).toNat=z:=⟨_,rfl⟩
 rw[ez]
 have hz:1<=z/\z<=5:=by walk_at "om"
 refine zp6 (by rw[sizeLine_eq];omega) (fun acc H4 f4 s4 h4=>?_)
 have na:acc≠a:=L3.ne f4
 have facc:H acc=none:=Chg.free' c03 f4 na
 refine⟨fun j ys σ H5=>∃ (t:Option V) (qs:List Addr) (fs:List Fd),σ=[t,some (.ref a),some (.int n),some (.int m)]/\ys=qs.map V.ref/\qs.length=j/\fs.length=j/\zc1 H5 a (b+12+1000*j)/\Chg2 a acc H3 H5/\∀ (k:Nat) q f,qs[k]?=some q->fs[k]?=some f->FdAt (rm a (rm acc H5)) q n m f/\f.Ok/\f.Bd n m,?_,?_,?_⟩
 ·exact⟨none,[],[],rfl,rfl,rfl,rfl,(L3.same s4).up (by walk_at "om"),s4.to2,fun k q f e=>by simp at e⟩
 ·rintro j m' ys σ H5 hj hm hl h5 ⟨t,qs,fs,rfl,rfl,ql,fl,L5,c5,pr⟩
  have hj:j<z:=hj
  obtain⟨oa,ea⟩:=L5.some
  refine br_T ?_
  refine zcf6 L5 (by walk_at "om") (by walk_at "om") (by walk_at "om") (fun p6 f H6 c6 L6 F6 ok okb=>?_)
  refine zx6 hj hm hl (c6 _ _ na h5) (fun H7 c7 h7=>?_)
  refine⟨_,qs++[p6],fs++[f],rfl,by rw[zcr5];rfl,by rw[zcr0,ql];rfl,by rw[zcr0,fl];rfl,(L6.chg c7 (Ne.symm na)).up (by walk_at "om"),(c5.trans c6.toL).trans c7.toR,fun k p f' g1 g2=>?_⟩
  by_cases hk:k<qs.length
  ·rw[zct0 hk] at g1
   rw[zct0 (by walk_at "om")] at g2
   obtain⟨y1,y2,y3⟩:=pr k p f' g1 g2
   refine⟨y1.same (fun b o e=>?_),y2,y3⟩
   have e1:=zt1 e
   have e2:=zt1 e1.2
   exact zw9 e1.1 (zw9 e2.1 (c7 _ _ e2.1 (c6 _ _ e1.1 e2.2)))
  ·rw[zct2 (by walk_at "om")] at g1 g2
   have k0:k - qs.length=0:=by
    have:=(zcp4.mp g1).1
    simp at this;omega
   rw[k0] at g1
   rw[show k - fs.length=0 by walk_at "om"] at g2
   cases g1
   cases g2
   refine⟨F6.same (fun b o e=>?_),ok,okb⟩
   have e1:=zy8 e
   have n1:b≠a:=fun w=>by rw[w,ea] at e1;cases e1.1
   have n2:b≠acc:=fun w=>by rw[w,h5] at e1;cases e1.1
   exact zw9 n1 (zw9 n2 (c7 _ _ n2 e1.2))
 ·rintro ys σ H5 h5 ⟨t,qs,fs,rfl,rfl,ql,fl,L5,c5,pr⟩
  have c05:Chg a H H5:=fun b o z1 e=>c5 _ _ z1 (za6 e facc) (c03 _ _ z1 e)
  refine zd6 (fun p7 H7 f7 s7 h7=>?_)
  walk_at "wh"
  exact q p7 acc qs n m fs H7 (c05.same s7) ((L5.same s7).up (by walk_at "om")) ⟨zw9 (L5.ne f7) h7,zw9 na (s7 _ _ h5),by walk_at "om",fun i p f g1 g2=>⟨((pr i p f g1 g2).1.same (Same.rm (zae8 acc H5))).same (Same.rm s7),(pr i p f g1 g2).2.1⟩⟩ ⟨⟨by walk_at "om",by walk_at "om"⟩,by walk_at "om"⟩ (fun f hf=>by
   obtain⟨i,ei⟩:=zcu9 hf
   obtain⟨p,ep⟩:∃ p,qs[i]?=some p:=⟨_,zcp1 (by have:=(zcp4.mp ei).1;omega)⟩
   exact (pr i p f ep ei).2.2)
@[irreducible] def zg9:Sp:=fun vs H Q _=>∃ (p:Addr) (a c x y:Nat) (f:Fd),vs=[.ref p,.int x,.int y]/\FdAt H p a c f/\x<=a/\y<=c/\∀ H',Same H H'->Q (.int (f.won x y)) H'
theorem zbo8 {H:Hp}{p:Addr}{a c x y:Nat}{f:Fd}{Q:VK}{E:XK}(F:FdAt H p a c f) (h1:x<=a) (h2:y<=c) (q:∀ H',Same H H'->Q (.int (f.won x y)) H'):zg9 [.ref p,.int x,.int y] H Q E:=by unfold zg9;exact⟨p,a,c,x,y,f,rfl,F,h1,h2,q⟩
theorem zaq8 {f:Addr}{fd:FuncData}(F:Fun K "_law_paid" "_law_paid" zm0 f fd) (N:Nm mg):FnOk P w K mg base CX0 1 f fd ["_law_field","_law_x","_law_y"] zg9:=by
 refine F.ok zas4 (fun vs H Q E h=>by unfold zg9 at h;obtain⟨_,_,_,_,_,_,rfl,_⟩:=h;rfl) (fun cdv A outer s H vs Q E hr h=>?_)
 unfold zg9 at h
 obtain⟨p,a,c,x,y,f,rfl,F,h1,h2,q⟩:=h
 have hu:=hu40 hr
 refine⟨_,(za4 (psIf (ptC (oEqK (K:=K) rfl (by exact hu)) (za8 (K:=K) rfl (pq 0) za2) zd1) (za5 (za9 (za8 (K:=K) rfl (za8 (K:=K) rfl (za8 (K:=K) rfl (pq 0) za2) (pq 1)) (pq 2)))) zb8)
   (za4 (psIf (ptC (oEqK (K:=K) rfl (by exact hu)) (za8 (K:=K) rfl (pq 0) za2) zd1) (za5 (za9 (za8 (K:=K) rfl (zk1 (za0 (zb5 oSub za2 (za8 (K:=K) rfl (pq 0) za2)) (za0 (za8 (K:=K) rfl (pq 0) za2) za1))) (pT cInt N.int_ zaf4 (za0 (peC oGe (zb5 oSub (pq 1) (pq 2)) (za8 (K:=K) rfl (pq 0) za2)) za1))))) zb8)
   (za5 (za9 (za8 (K:=K) rfl (zk1 (za0 (zb5 oSub za2 (za8 (K:=K) rfl (pq 0) za2)) (za0 (za8 (K:=K) rfl (pq 0) za2) (za0 (za8 (K:=K) rfl (pq 0) za2) za1)))) (zb5 oAdd (pT cInt N.int_ zaf4 (za0 (peC oGe (pq 1) (pq 2)) za1)) (pT cInt N.int_ zaf4 (za0 (peC oGt (pq 1) (pq 2)) za1)))))))),?_⟩
 cases f with
 | more wt t=>
  have F:H p=some (.tup [.str "more",.int wt,.int t]):=F
  refine zb1 (v:=.str "more") F rfl ?_
  refine zq7 (by decide) ?_
  refine zb1 (v:=.str "more") F rfl ?_
  refine zq7 (by decide) ?_
  refine zb1 (v:=.int wt) F rfl ?_
  refine zb1 (v:=.int t) F rfl ?_
  refine zb1 (v:=.int wt) F rfl ?_
  refine zc4 (fun p1 H1 f1 s1 h1'=>?_)
  have q:Q (.int (if x=y then t else if y<x then wt else -wt)) H1:=q _ s1
  walk_at "wh"
  by_cases e:x=y
  ·rw[if_pos e] at q
   refine zb0 (v:=.int t) h1' ?_ q
   rw[decide_eq_true (show (y:Int)<=(x:Int) by walk_at "om"),decide_eq_false (show ¬ (y:Int)<(x:Int) by walk_at "om")]
   rfl
  ·rw[if_neg e] at q
   by_cases g:y<x
   ·rw[if_pos g] at q
    refine zb0 (v:=.int wt) h1' ?_ q
    rw[decide_eq_true (show (y:Int)<=(x:Int) by walk_at "om"),decide_eq_true (show (y:Int)<(x:Int) by walk_at "om")]
    rfl
   ·rw[if_neg g] at q
    refine zb0 (v:=.int (-wt)) h1' ?_ q
    rw[decide_eq_false (show ¬ (y:Int)<=(x:Int) by walk_at "om"),decide_eq_false (show ¬ (y:Int)<(x:Int) by walk_at "om")]
    show some (V.int (0 - wt))=some (V.int (-wt))
    congr 2
    omega
 | lead wt l=>
  have F:H p=some (.tup [.str "lead",.int wt,.int l]):=F
  refine zb1 (v:=.str "lead") F rfl ?_
  refine zq7 (by decide) ?_
  refine zb1 (v:=.str "lead") F rfl ?_
  refine zr3 rfl ?_
  refine zb1 (v:=.int wt) F rfl ?_
  refine zb1 (v:=.int wt) F rfl ?_
  refine zc4 (fun p1 H1 f1 s1 h1'=>?_)
  have q:Q (.int (if l<=(x:Int) - y then wt else -wt)) H1:=q _ s1
  refine zb1 (v:=.int l) (s1 _ _ F) rfl ?_
  walk_at "wh"
  by_cases g:l<=(x:Int) - y
  ·rw[if_pos g] at q
   refine zb0 (v:=.int wt) h1' ?_ q
   rw[decide_eq_true g]
   rfl
  ·rw[if_neg g] at q
   refine zb0 (v:=.int (-wt)) h1' ?_ q
   rw[decide_eq_false g]
   show some (V.int (0 - wt))=some (V.int (-wt))
   congr 2
   omega
 | tab g=>
  obtain⟨q',ps,F,G⟩:=F
  obtain⟨r,er,hr'⟩:=G.some (i:=x) (by walk_at "om")
  refine zb1 (v:=.str "table") F rfl ?_
  refine zr3 rfl ?_
  refine zb1 (v:=.ref q') F rfl ?_
  refine zb0 (v:=.ref r) G.out (zc5 (by rw[zcp5,er];rfl)) ?_
  refine zb0 (v:=.int (g x y)) hr' (zc5 (zg1 (by walk_at "om"))) ?_
  walk_at "wh"
  exact q _ (Same.refl _)
def Off (b:Addr) (ts:List (Addr×Addr)):Prop:=∀ t∈ts,t.1≠b/\t.2≠b
theorem zr1.chg {H H':Hp}{m b:Addr}{ts:List (Addr×Addr)}{ms:List (List Int×Int)}(M:zr1 H m ts ms) (c:Chg b H H') (n:m≠b) (o:Off b ts):zr1 H' m ts ms:=
 ⟨c _ _ n M.out,M.len,fun i t x h1 h2=>⟨c _ _ (o t (zcp9 h1)).1 (M.part i t x h1 h2).1,c _ _ (o t (zcp9 h1)).2 (M.part i t x h1 h2).2⟩⟩
theorem zr1.off {H:Hp}{m b:Addr}{ts:List (Addr×Addr)}{ms:List (List Int×Int)}(M:zr1 H m ts ms) (f:H b=none):m≠b/\Off b ts:=by
 refine⟨za6 M.out f,fun t ht=>?_⟩
 obtain⟨i,hi⟩:=zcu9 ht
 obtain⟨t',x,h1,h2,h3,h4⟩:=M.get (i:=i) (by have:=(zcp4.mp hi).1;have:=M.len;omega)
 rw[hi] at h1
 cases h1
 exact⟨za6 h3 f,za6 h4 f⟩
theorem zr1.push {H H':Hp}{m p q:Addr}{ts:List (Addr×Addr)}{ms:List (List Int×Int)}{x:List Int×Int}(M:zr1 H m ts ms) (c:Chg m H H') (o:Off m ts) (h':H' m=some (.lst ((ts.map fun t=>V.ref t.1)++[.ref p]))) (hp:H' p=some (.tup [.ref q,.int x.2])) (hq:H' q=some (.lst (x.1.map V.int))):zr1 H' m (ts++[(p,q)]) (ms++[x]):=by
 refine⟨by rw[h',zcr5];rfl,by rw[zcr0,zcr0,M.len];rfl,fun i t y h1 h2=>?_⟩
 by_cases hi:i<ts.length
 ·rw[zct0 hi] at h1
  rw[zct0 (by have:=M.len;omega)] at h2
  have:=o t (zcp9 h1)
  exact⟨c _ _ this.1 (M.part i t y h1 h2).1,c _ _ this.2 (M.part i t y h1 h2).2⟩
 ·rw[zct2 (by walk_at "om")] at h1
  rw[zct2 (by have:=M.len;omega)] at h2
  have e0:i - ts.length=0:=by
   have:=(zcp4.mp h1).1
   simp at this;omega
  rw[e0] at h1
  rw[show i - ms.length=0 by have:=M.len;omega] at h2
  cases h1
  cases h2
  exact⟨hp,hq⟩
theorem Off.push {b p q:Addr}{ts:List (Addr×Addr)}(o:Off b ts) (n1:p≠b) (n2:q≠b):Off b (ts++[(p,q)]):=fun t ht=>by
 rcases zct7.mp ht with h|h
 ·exact o t h
 ·have:t=(p,q):=by simpa using h
  subst this
  exact⟨n1,n2⟩
theorem zbw5 {α:Type}{p:α->Prop}{xs:List α}{y:α}(h:∀ x∈xs,p x) (hy:p y):∀ x∈xs++[y],p x:=fun x hx=>by
 rcases zct7.mp hx with h' | h'
 ·exact h x h'
 ·have:x=y:=by simpa using h'
  subst this
  exact hy
@[irreducible] def zh0:Sp:=fun vs H Q _=>∃ (a:Addr) (b:Int) (h f:Nat),vs=[.ref a,.int h,.int f]/\zc1 H a b/\b<=100000/\h<=40/\(1<=f/\f<=8)/\∀ l H' (ns:List Int),H l=none->Chg a H H'->zc1 H' a (b+10)->l≠a->H' l=some (.lst (ns.map V.int))->ns.length=f->ns.sum=h->(∀ x∈ns,0<=x)->Q (.ref l) H'
theorem zci5 {H:Hp}{a:Addr}{b:Int}{h f:Nat}{Q:VK}{E:XK}(hL:zc1 H a b) (hb:b<=100000) (h1:h<=40) (h2:1<=f) (h3:f<=8) (q:∀ l H' (ns:List Int),H l=none->Chg a H H'->zc1 H' a (b+10)->l≠a->H' l=some (.lst (ns.map V.int))->ns.length=f->ns.sum=h->(∀ x∈ns,0<=x)->Q (.ref l) H'):zh0 [.ref a,.int h,.int f] H Q E:=by
 unfold zh0;exact⟨a,b,h,f,rfl,hL,hb,h1,⟨h2,h3⟩,q⟩
theorem zch8 (ns:List Int) (k:Nat):(ns.drop k++ns.take k).sum=ns.sum:=by
 have:=congrArg List.sum (List.take_append_drop k ns)
 rw[List.sum_append] at this ⊢
 omega
theorem zaq1 {f:Addr}{fd:FuncData}(F:Fun K "_law_plan" "_law_plan" zl7 f fd) (N:Nm mg) (zci8:Def P w K mg base CX0 2 "_law_draw" ["_law_left_here","_law_base"] zc9):FnOk P w K mg base CX0 3 f fd ["_law_left_here","_law_hosts","_law_many"] zh0:=by
 refine F.ok zk4 (fun vs H Q E h=>by unfold zh0 at h;obtain⟨_,_,_,_,rfl,_⟩:=h;rfl) (fun cdv A outer s H vs Q E hr h=>?_)
 unfold zh0 at h
 obtain⟨a,b,h,f,rfl,hL,hb,h1,⟨h2,h3⟩,q⟩:=h
 refine⟨_,(za4 (psS (i:=3) zk4.nd (zk1 za1))
   (za4 (psS (i:=4) zk4.nd (pq 1))
   (za4 (zu5 PassesOwn.never rfl (zn9 N.range_ (za0 (zb5 oSub (pq 2) za2) za1)) (za7 (i:=5) zk4.nd rfl (by first|exact Or.inl rfl|exact Or.inr rfl)) (za4 (zs0 (zm7 (pq 3) (za0 (pD zci8 hr zb7 (za0 (pq 0) (za0 (zb5 oAdd (pq 4) za2) za1))) za1)))
   (za5 (psS (i:=4) zk4.nd (zb5 oSub (pq 4) (za8 (K:=K) rfl (pq 3) (zap3 uNeg za2)))))))
   (za4 (zs0 (zm7 (pq 3) (za0 (pq 4) za1)))
   (za4 (psS (i:=6) zk4.nd (pD zci8 hr zb7 (za0 (pq 0) (za0 (pq 2) za1))))
   (za5 (za9 (zb5 oAdd (zq2 (slXK (K:=K) rfl) (pq 3) (zz8 (pq 6)) zt4) (zq2 (slXK (K:=K) rfl) (pq 3) zt4 (zz8 (pq 6))))))))))),?_⟩
 refine zc4 (fun l H1 f1 s1 h1'=>?_)
 have n1:l≠a:=hL.ne f1
 refine zf2 (by decide) (by decide) (by walk_at "om") (by walk_at "om") ?_
 refine zk7 (fun i σ H2=>∃ (x y:Option V) (ns:List Int) (r:Int),σ=[some (.ref a),some (.int h),some (.int f),some (.ref l),some (.int r),x,y]/\Chg a H H2/\zc1 H2 a (b+i)/\H2 l=some (.lst (ns.map V.int))/\ns.length=i/\ns.sum+r=h/\0<=r/\r<=40/\∀ x∈ns,0<=x) ?_ ?_ ?_
 ·exact⟨_,_,[],h,rfl,s1.toChg,(hL.same s1).up (by walk_at "om"),h1',rfl,by simp,by walk_at "om",by walk_at "om",by simp⟩
 ·rintro i σ H2 hi ⟨x0,y0,ns,r,rfl,c2,L2,e2,l2,t2,r0,r1,nn⟩
  have hi:i<8:=by walk_at "om"
  refine zaf6 e2 ?_
  refine zg2 L2 (by walk_at "om") (by walk_at "om") (by walk_at "om") (fun d3 H3 d30 d31 c3 L3=>?_)
  have e3:=c3 _ _ n1 e2
  refine zad8 e3 (by rw[zcp2,sizeLine_eq];omega) (fun H4 c4 h4=>?_)
  have h4:H4 l=some (.lst ((ns++[d3]).map V.int)):=by rw[h4,zcr5];rfl
  refine zb0 (v:=.int d3) h4 (zay8 (n:=i) (by rw[zcp2,zcr0,l2];rfl) (by rw[zcp5,zct2 (by walk_at "om"),l2,Nat.sub_self];rfl)) ?_
  walk_at "wh"
  have c23:Chg a H H3:=c2.trans c3
  refine⟨_,_,ns++[d3],r - d3,rfl,fun b o h1 e=>c4 _ _ (za6 e f1) (c23 _ _ h1 e),(L3.chg c4 (Ne.symm n1)).up (by walk_at "om"),h4,by rw[zcr0,l2];rfl,by rw[List.sum_append];simp;omega,by walk_at "om",by walk_at "om",fun x hx=>?_⟩
  rcases zct7.mp hx with hx|hx
  ·exact nn x hx
  ·have:x=d3:=by simpa using hx
   omega
 ·rintro σ H2 ⟨x0,y0,ns,r,rfl,c2,L2,e2,l2,t2,r0,r1,nn⟩
  refine zaf6 e2 ?_
  refine zad8 e2 (by rw[zcp2,sizeLine_eq];omega) (fun H3 c3 h3'=>?_)
  have h3':H3 l=some (.lst ((ns++[r]).map V.int)):=by rw[h3',zcr5];rfl
  have L3:=L2.chg c3 (Ne.symm n1)
  refine zg2 L3 (by walk_at "om") (by walk_at "om") (by walk_at "om") (fun at_ H4 a0 a1 c4 L4=>?_)
  have h4:=c4 _ _ n1 h3'
  refine zai3 (SqL.of h4) (fun p5 H5 f5 s5 h5=>?_)
  rw[zab0 (by walk_at "om"),← List.map_drop] at h5
  refine zai3 (SqL.of (s5 _ _ h4)) (fun p6 H6 f6 s6 h6=>?_)
  rw[zag0 (by walk_at "om"),← List.map_take] at h6
  refine zby9 (s6 _ _ h5) h6 (by rw[zcp2,zcp2,zcv2,zcv1,sizeLine_eq,zcr0,l2,zcw1];omega) (fun p7 H7 f7 s7 h7=>?_)
  walk_at "wh"
  have s56:=s5.trans s6
  have L6:=L4.same s56
  have c06:Chg a H H6:=fun b o h1 e=>s56 _ _ (c4 _ _ h1 (c3 _ _ (za6 e f1) (c2 _ _ h1 e)))
  refine q p7 H7 ((ns++[r]).drop at_.toNat++(ns++[r]).take at_.toNat) (Chg.free' c06 f7 (L6.ne f7)) (c06.same s7) ((L6.same s7).up (by walk_at "om")) (L6.ne f7) (by rw[h7,zcr5]) (by rw[zcr0,zcv2,zcv1,zcr0,l2,zcw1];omega) (by rw[zch8,List.sum_append];simp;omega) (fun x hx=>?_)
  have hx:x∈ns++[r]:=by
   rcases zct7.mp hx with hx|hx
   ·exact List.mem_of_mem_drop hx
   ·exact List.mem_of_mem_take hx
  rcases zct7.mp hx with hx|hx
  ·exact nn x hx
  ·have:x=r:=by simpa using hx
   omega
theorem zbu7 {ms:List (List Int×Int)}{j:Nat}{x:List Int×Int}(h:ms[j]?=some x) (i:Nat):sumG (flw (ms.take (j+1)) i)=addG (sumG (flw (ms.take j) i)) (((x.1.drop i).sum,x.1.getD i 0),x.2):=by
 unfold flw
 rw[List.take_succ,h,zcr5]
 exact zw7 _ _
theorem zbn6 (ms:List (List Int×Int)) (i:Nat):(sumG (flw ms i)).length<=ms.length:=by
 have:=zak5 (flw ms i)
 unfold flw at this ⊢
 rwa [zcp2] at this
structure DsAt (H0 H:Hp) (l:Addr) (ds:List Addr) (g:Nat->List ((Int×Int)×Int)):Prop where
 fl:H0 l=none
 out:H l=some (.lst (ds.map V.ref))
 nd:ds.Nodup
 nin:l ∉ ds
 row:∀ (i:Nat) d,ds[i]?=some d->H0 d=none/\H d=some (.dT (dF pK (g i)))
theorem DsAt.put {H0 H H':Hp}{l d:Addr}{ds:List Addr}{g:Nat->List ((Int×Int)×Int)}{k:Nat}{n:List ((Int×Int)×Int)}(D:DsAt H0 H l ds g) (e:ds[k]?=some d) (c:Chg d H H') (h:H' d=some (.dT (dF pK n))):DsAt H0 H' l ds fun i=>if i=k then n else g i:=by
 refine⟨D.fl,c _ _ (fun z=>D.nin (z▸zcp9 e)) D.out,D.nd,D.nin,fun i d' e'=>?_⟩
 by_cases hi:i=k
 ·subst hi
  rw[e] at e'
  cases e'
  exact⟨(D.row i d e).1,by rw[h,if_pos rfl]⟩
 ·rw[if_neg hi]
  have ne:d'≠d:=fun z=>by
   subst z
   exact hi ((List.getElem?_inj (zcp4.mp e').1 D.nd).mp (e'.trans e.symm))
  exact⟨(D.row i d' e').1,c _ _ ne (D.row i d' e').2⟩
theorem DsAt.ext {H0 H:Hp}{l:Addr}{ds:List Addr}{g g':Nat->List ((Int×Int)×Int)}(D:DsAt H0 H l ds g) (h:∀ i,i<ds.length->g i=g' i):DsAt H0 H l ds g':=
 ⟨D.fl,D.out,D.nd,D.nin,fun i d e=>⟨(D.row i d e).1,by rw[← h i (zcp4.mp e).1];exact (D.row i d e).2⟩⟩
@[irreducible] def zf8:Sp:=fun vs H Q _=>∃ (m:Addr) (ts:List (Addr×Addr)) (ms:List (List Int×Int)) (f:Nat),vs=[.ref m]/\zr1 H m ts ms/\(1<=ms.length/\ms.length<64)/\f<=100/\(∀ x∈ms,x.1.length=f)/\∀ r rs xss H',Same H H'->StAt (nw H H') r rs xss->zaa5 ms f xss->Q (.ref r) H'
theorem zbu0 {H:Hp}{m:Addr}{ts:List (Addr×Addr)}{ms:List (List Int×Int)}{f:Nat}{Q:VK}{E:XK}(M:zr1 H m ts ms) (h1:1<=ms.length) (h2:ms.length<64) (h3:f<=100) (h4:∀ x∈ms,x.1.length=f) (q:∀ r rs xss H',Same H H'->StAt (nw H H') r rs xss->zaa5 ms f xss->Q (.ref r) H'):zf8 [.ref m] H Q E:=by
 unfold zf8;exact⟨m,ts,ms,f,rfl,M,⟨h1,h2⟩,h3,h4,q⟩
set_option maxHeartbeats 0 in
theorem zal3 {f:Addr}{fd:FuncData}(F:Fun K "_law_flows" "_law_flows" zl0 f fd) (N:Nm mg):FnOk P w K mg base CX0 1 f fd ["_law_mix_here"] zf8:=by
 refine F.ok zi8 (fun vs H Q E h=>by unfold zf8 at h;obtain⟨_,_,_,_,rfl,_⟩:=h;rfl) (fun cdv A outer s H vs Q E hr h=>?_)
 unfold zf8 at h
 obtain⟨m,ts,ms,f,rfl,M,⟨m1,m2⟩,hf,fl,q⟩:=h
 have hu:=hu40 hr
 have ml:=M.len
 refine⟨_,(za4 (psC (i:=1) (N:=["_law_place"]) (ks:=[none]) zi8.nd (zi0 (K:=K) rfl (za8 (K:=K) rfl (za8 (K:=K) rfl (pq 0) za2) za2)) (fun cl C s3 H3 fp=>(za7 (i:=0) nb_19 rfl (by first|exact Or.inl rfl|exact Or.inr rfl))) (fun cl C s3 H3 fp=>zc7) (fun cl C s3 H3 fp=>zbi9) (.skip .nil))
   (za4 (zu5 PassesOwn.never rfl (zi0 (K:=K) rfl (pq 0)) (zl5 (K:=K) (n:=2) rfl rfl (zb6 (za7 (i:=2) zi8.nd rfl (by first|exact Or.inl rfl|exact Or.inr rfl)) (zb6 (za7 (i:=3) zi8.nd rfl (by first|exact Or.inl rfl|exact Or.inr rfl)) zl6))) (za5 (zu5 PassesOwn.never rfl (zn9 N.range_ (za0 (pB (zq4 (K:=K) rfl) N.len_ zj5 (za0 (pq 2) za1)) za1)) (za7 (i:=4) zi8.nd rfl (by first|exact Or.inl rfl|exact Or.inr rfl)) (za4 (psS (i:=5) zi8.nd (zn8 (za0 (pB (zbq8 (K:=K) rfl rfl) N.sum_ zao7 (za0 (zq2 (slXK (K:=K) rfl) (pq 2) (zz8 (pq 4)) zt4) za1)) (za0 (za8 (K:=K) rfl (pq 2) (pq 4)) za1))))
   (za5 (zby4 (by exact hu) (za8 (K:=K) rfl (pq 1) (pq 4)) (pq 5) (zb5 oAdd (zbc9 (by exact hu) (za8 (K:=K) rfl (pq 1) (pq 4)) (pq 5) za2) (pq 3))))))))
   (za5 (za9 (zcd7 (x0:="_law_flow") (N:=["_law_flow"]) (ks:=[none]) (zi0 (K:=K) rfl (pq 1)) (fun cl C s3 H3 fp=>(za7 (i:=0) nb_20 rfl (by first|exact Or.inl rfl|exact Or.inr rfl))) (fun cl C s3 H3 fp=>zc7) (fun cl C s3 H3 fp=>(zf4 (N:=["_law_rest","_law_sent","_law_flow"]) (ks:=[none,none,some 0]) (zi0 (K:=K) rfl (pB (cSortO rfl) N.sorted_ zbq6 (za0 (pq 0) za1))) (fun cl C s3 H3 fp=>(zl5 (K:=K) (n:=2) rfl rfl (zb6 (za7 (i:=0) nb_21 rfl (by first|exact Or.inl rfl|exact Or.inr rfl)) (zb6 (za7 (i:=1) nb_21 rfl (by first|exact Or.inl rfl|exact Or.inr rfl)) zl6)))) (fun cl C s3 H3 fp=>zc7) (fun cl C s3 H3 fp=>(zn8 (za0 (pq 0) (za0 (pq 1) (za0 (peDGet (by exact hu) (pq 2) (zn8 (za0 (pq 0) (za0 (pq 1) za1)))) za1))))) (.skip (.skip (.take rfl rfl (by first|exact Or.inl rfl|exact Or.inr rfl) .nil))))) (.skip .nil)))))),?_⟩
 obtain⟨x0,ex0⟩:∃ x,ms[0]?=some x:=⟨_,zcp1 (by walk_at "om")⟩
 obtain⟨t0,et0,at0,ht0,hp0⟩:=M.ix ex0
 have l0:=fl x0 (zcp9 ex0)
 refine zb0 (v:=.ref t0.1) M.out at0 ?_
 refine zb1 (v:=.ref t0.2) ht0 rfl ?_
 refine zc6 hp0 ?_
 refine zaj0 (n:=(x0.1.map V.int).length) (Wk.list (SqL.of hp0)) (by rw[zcp2,sizeLine_eq];omega) (fun j=>.dT []) (fun j σ=>∃ t:Option V,σ=[t]) ⟨none,rfl⟩ ?_ ?_
 ·rintro j v σ H4 R' S' hj s4 hx ⟨t,rfl⟩ k
  refine br_T ?_
  refine zbz4 (fun p5 H5 f5 s5 h5=>?_)
  walk_at "wh"
  exact k _ _ _ f5 s5 h5 ⟨_,rfl⟩
 intro l ds H1 F1
 rw[zcp2,l0] at F1
 have dl:=F1.len
 have D1:DsAt H H1 l ds fun i=>sumG (flw (ms.take 0) i):=⟨F1.facc,F1.out,F1.nd,F1.nin,fun i d e=>F1.row i d e⟩
 have s1:=F1.same
 clear F1
 refine zc6 (s1 _ _ M.out) ?_
 refine zs6 (xs:=ts.map fun t=>V.ref t.1) (fun j σ I=>∃ t u v w:Option V,σ=[some (.ref m),some (.ref l),t,u,v,w]/\Same H I/\DsAt H I l ds fun i=>sumG (flw (ms.take j) i)) ?_ ?_ ?_ ?_
 ·exact⟨_,_,_,_,rfl,s1,D1⟩
 ·rintro j σ I _ ⟨_,_,_,_,_,s2,_⟩
  exact SqL.of (s2 _ _ M.out)
 ·rintro j v σ I hj ⟨_,_,_,_,rfl,s2,D2⟩
  obtain⟨t,x,rfl,e1,e2,e3,e4⟩:=(M.same s2).elt hj
  have jl:=(zcp4.mp e2).1
  have e40:=(M.part j t x e1 e2).2
  have xl:=fl x (zcp9 e2)
  refine ze3 e3 ?_
  refine zh3 e4 ?_
  rw[zcp2,xl]
  refine zf2 (by walk_at "om") (by walk_at "om") (by walk_at "om") (by walk_at "om") ?_
  refine zk7 (fun k σ I2=>∃ v w:Option V,σ=[some (.ref m),some (.ref l),some (.ref t.2),some (.int x.2),v,w]/\Same H I2/\DsAt H I2 l ds fun i=>if i<k then sumG (flw (ms.take (j+1)) i) else sumG (flw (ms.take j) i)) ?_ ?_ ?_
  ·exact⟨_,_,rfl,s2,D2.ext fun i _=>by rw[if_neg (by walk_at "om")]⟩
  ·rintro k σ I2 hk ⟨_,_,rfl,s3,D3⟩
   have hk:k<f:=by walk_at "om"
   obtain⟨d,ed⟩:∃ d,ds[k]?=some d:=⟨_,zcp1 (by walk_at "om")⟩
   obtain⟨dn,dh⟩:=D3.row k d ed
   rw[if_neg (by walk_at "om")] at dh
   have e43:=s3 _ _ e40
   have kx:x.1[k]?=some (x.1.getD k 0):=by rw[zcp6,zcp1 (by walk_at "om")];rfl
   refine zai3 (SqL.of e43) (fun p4 I4 f4 s4 h4=>?_)
   rw[zab0 (by walk_at "om"),show ((0:Int)+(k:Int)).toNat=k by walk_at "om",← List.map_drop] at h4
   refine zao8 h4 ?_
   refine zb0 (v:=.int (x.1.getD k 0)) (s4 _ _ e43) (int_at (by walk_at "om") (by rw[show ((0:Int)+(k:Int)).toNat=k by walk_at "om"];exact kx)) ?_
   refine zd6 (fun p5 I5 f5 s5 h5=>?_)
   have s35:=s4.trans s5
   have h5:I5 p5=some (.tup ((pK ((x.1.drop k).sum,x.1.getD k 0)).map kV)):=h5
   have dk:atI (ds.map V.ref) ((0:Int)+(k:Int))=some (.ref d):=ref_at (by walk_at "om") (by rw[show ((0:Int)+(k:Int)).toNat=k by walk_at "om"];exact ed)
   have lo:=s35 _ _ D3.out
   have dh5:=s35 _ _ dh
   refine zb0 (v:=.ref d) lo dk ?_
   refine zbq9 dh5 ?_
   refine zbq7 dh5 (k:=pK ((x.1.drop k).sum,x.1.getD k 0)) h5 ?_
   have ev:(valV (dF pK (sumG (flw (ms.take j) k))) (pK ((x.1.drop k).sum,x.1.getD k 0))).getD (V.int 0)=.int ((valG (sumG (flw (ms.take j) k)) ((x.1.drop k).sum,x.1.getD k 0)).getD 0):=by
    rw[zad4 zaf3]
    cases valG (sumG (flw (ms.take j) k)) ((x.1.drop k).sum,x.1.getD k 0)<;>rfl
   rw[ev]
   refine zb0 (v:=.ref d) lo dk ?_
   refine zbz5 dh5 (k:=pK ((x.1.drop k).sum,x.1.getD k 0)) h5 (by unfold dF;rw[zcp2,sizeLine_eq];have:=zbn6 (ms.take j) k;rw[zcv1] at this;omega) (fun I6 c6 h6=>?_)
   rw[zav5 zaf3] at h6
   walk_at "wh"
   have D5:DsAt H I5 l ds fun i=>if i<k then sumG (flw (ms.take (j+1)) i) else sumG (flw (ms.take j) i):=⟨D3.fl,lo,D3.nd,D3.nin,fun i d e=>⟨(D3.row i d e).1,s35 _ _ (D3.row i d e).2⟩⟩
   refine⟨_,_,rfl,(s3.trans s35).chg dn c6,(D5.put ed c6 h6).ext fun i _=>?_⟩
   by_cases hi:i=k
   ·subst hi
    rw[if_pos rfl,if_pos (by walk_at "om"),zbu7 e2]
    rfl
   ·rw[if_neg hi]
    by_cases h':i<k
    ·rw[if_pos h',if_pos (by walk_at "om")]
    ·rw[if_neg h',if_neg (by walk_at "om")]
  ·rintro σ I2 ⟨_,_,rfl,s3,D3⟩
   walk_at "wh"
   exact⟨_,_,_,_,rfl,s3,D3.ext fun i hi=>by rw[if_pos (by walk_at "om")]⟩
 ·rintro σ H2 ⟨_,_,_,_,rfl,s2,D2⟩
  rw[zcp2,ml,zcw9] at D2
  refine zc6 D2.out ?_
  refine zbm5 (Wk.list (SqL.of D2.out)) (by rw[zcp2,sizeLine_eq];omega) (fun acc j ys σ I=>∃ (t:Option V) (rs:List (Addr×List Addr)) (xss:List (List (Int×Int×Int))),σ=[t]/\ys=(rs.map fun r=>V.ref r.1)/\rs.length=j/\xss.length=j/\(∀ (i:Nat) r xs,rs[i]?=some r->xss[i]?=some xs->RwAt (rm acc (nw H2 I)) r.1 r.2 xs)/\(∀ (i:Nat) xs,xss[i]?=some xs->zx3 ms i xs/\xs.length<=ms.length)/\(rs.map (·.1)).Nodup) ?_ ?_ ?_ ?_
  ·intro acc I f1 s2 h1
   exact⟨none,[],[],rfl,rfl,rfl,rfl,fun i r xs e=>by simp at e,fun i xs e=>by simp at e,List.nodup_nil⟩
  ·rintro acc j ys σ I I' s' ⟨t,rs,xss,r1,r2,r3,r4,r5,r6,r7⟩
   exact⟨t,rs,xss,r1,r2,r3,r4,fun i r xs e1 e2=>(r5 i r xs e1 e2).same (Same.rm (nw_up s')),r6,r7⟩
  ·rintro acc j v ys σ I R S hj facc s3 hacc hx ⟨t,rs,xss,rfl,rfl,rl,xl,rp,xp,nd⟩ kR _
   rw[zcp5] at hx
   obtain⟨d,ed,rfl⟩:=zcp7.mp hx
   have dh:=s3 _ _ (D2.row j d ed).2
   have dh':I d=some (.dT (((sumG (flw ms j)).map fun z=>(z.1,V.int z.2)).map fun z=>(pK z.1,z.2))):=by rw[dh,zcs9];rfl
   have sl:=zbn6 ms j
   refine br_T ?_
   refine soO_rd dh' (by rw[zcp2];omega) (fun p4 I4 bs ks f4 s4 pm od pr h4=>?_)
   have pm:ks.Perm ((sumG (flw ms j)).map (·.1)):=by rw[zcs9] at pm;exact pm
   have bl:bs.length=ks.length:=pr.length
   have kl:ks.length<=ms.length:=by have:=pm.length_eq;rw[zcp2] at this;omega
   have eg:∀ x∈ks,valG (sumG (flw ms j)) x=some ((valG (sumG (flw ms j)) x).getD 0):=fun x hx=>by
    obtain⟨n,e⟩:=zbc1 (pm.mem_iff.mp hx)
    rw[e];rfl
   refine zc6 h4 ?_
   refine zaj0 (n:=(bs.map V.ref).length) (Wk.list (SqL.of h4)) (by rw[zcp2,sizeLine_eq];omega) (fun j'=>.tup [.int (ks.getD j' (0,0)).1,.int (ks.getD j' (0,0)).2,.int ((valG (sumG (flw ms j)) (ks.getD j' (0,0))).getD 0)]) (fun j σ=>∃ t u:Option V,σ=[t,u,some (.ref d)]) ⟨none,none,rfl⟩ ?_ ?_
   ·rintro j' v σ H4 R' S' hj s5 hx ⟨t,u,rfl⟩ k
    rw[zcp5] at hx
    obtain⟨b,eb,rfl⟩:=zcp7.mp hx
    obtain⟨x,ex⟩:∃ x,ks[j']?=some x:=⟨ks[j']'(by have:=(zcp4.mp eb).1;omega),zcp1 _⟩
    have eb':=s5 _ _ (zar0 pr j' b x eb ex)
    rw[show ks.getD j' (0,0)=x by rw[zcp6,ex];rfl] at k
    have h4:=s5 _ _ (s4 _ _ dh)
    refine ze3 eb' ?_
    refine br_T ?_
    refine zd6 (fun p5 H5 f5 s5 h5=>?_)
    refine dgT_rd (s5 _ _ h4) (k:=pK x) h5 (by rw[zad4 zaf3,eg x (zcp9 ex)];rfl) ?_
    refine zd6 (fun pa Ha fa sa ha=>?_)
    walk_at "wh"
    exact k _ _ _ (s5.free fa) (s5.trans sa) ha ⟨_,_,rfl⟩
   intro acc4 ps H4 F4
   rw[zcp2] at F4
   have F4l:=F4.len
   have s34:=s4.trans F4.same
   walk_at "wh"
   have R4:RwAt (nw I H4) acc4 ps (ks.map fun x=>(x.1,x.2,(valG (sumG (flw ms j)) x).getD 0)):=⟨zp7 (s4.free F4.facc) F4.out,by rw[zcp2];omega,fun j b x e1 e2=>by
    rw[zcp5] at e2
    obtain⟨y,ey,rfl⟩:=zcp7.mp e2
    obtain⟨z1,z2⟩:=F4.row j b e1
    rw[show ks.getD j (0,0)=y by rw[zcp6,ey];rfl] at z2
    exact zp7 (s4.free z1) z2⟩
   have ri:zx3 ms j (ks.map fun x=>(x.1,x.2,(valG (sumG (flw ms j)) x).getD 0)):=by
    have em:(ks.map fun x=>(x.1,x.2,(valG (sumG (flw ms j)) x).getD 0)).map keyT=ks:=by
     rw[zcs9]
     exact (zcr2 fun x _=>rfl).trans (List.map_id _)
    refine⟨by rw[em];exact od,fun k=>by rw[em];exact pm.mem_iff,fun z hz=>?_⟩
    obtain⟨x,hx,rfl⟩:=zcr9.mp hz
    exact eg x hx
   have xl1:(ks.map fun x=>(x.1,x.2,(valG (sumG (flw ms j)) x).getD 0)).length<=ms.length:=by rw[zcp2];exact kl
   generalize (ks.map fun x=>(x.1,x.2,(valG (sumG (flw ms j)) x).getD 0))=xs at R4 ri xl1
   refine kR _ _ _ s34 (fun I2 c2=>⟨_,rs++[(acc4,ps)],xss++[xs],rfl,by rw[zcr5];rfl,by rw[zcr0,rl];rfl,by rw[zcr0,xl];rfl,fun i r' xs' e1 e2=>?_,fun i xs' e=>?_,zcg0 (I1:=H4) nd (by walk_at "om") rp (zy8 R4.out).1⟩)
   ·have up:Same (rm acc (nw H2 I)) (rm acc (nw H2 I2)):=fun b o z=>by
     obtain⟨z1,z2⟩:=zt1 z
     obtain⟨z3,z4⟩:=zy8 z2
     exact zw9 z1 (zp7 z3 (c2 _ _ z1 (s34 _ _ z4)))
    have new:Same (nw I H4) (rm acc (nw H2 I2)):=fun b o z=>by
     obtain⟨z3,z4⟩:=zy8 z
     have nb:b≠acc:=fun w=>by rw[w,hacc] at z3;cases z3
     exact zw9 nb (zp7 (s3.free z3) (c2 _ _ nb z4))
    rcases zj1 e1 with ⟨a1,a2⟩|⟨a1,rfl⟩
    ·rcases zj1 e2 with ⟨b1,b2⟩|⟨b1,_⟩
     ·exact (rp i r' xs' a2 b2).same up
     ·omega
    ·rcases zj1 e2 with ⟨b1,_⟩|⟨b1,rfl⟩
     ·omega
     ·exact R4.same new
   ·rcases zj1 e with ⟨b1,b2⟩|⟨b1,rfl⟩
    ·exact xp i xs' b2
    ·rw[b1,xl]
     exact⟨ri,xl1⟩
  ·rintro acc ys σ I facc s3 hacc ⟨t,rs,xss,rfl,rfl,rl,xl,rp,xp,nd⟩
   rw[zcp2,dl] at rl xl
   walk_at "wh"
   have left:Same (nw H2 I) (nw H I):=zcf8 s2
   exact q acc rs xss I (s2.trans s3) ⟨left _ _ (zp7 facc hacc),by walk_at "om",fun i r xs e1 e2=>(rp i r xs e1 e2).same (Same.rm left),nd⟩ ⟨xl,xp⟩
def optL (sd:Bool):List Int->Int
 | []=>0
 | [x]=>x
 | x :: y :: ys=>if sd then max x (optL sd (y :: ys)) else min x (optL sd (y :: ys))
theorem zan5 (sd:Bool):∀ {xs:List Int},xs≠[]->optL sd xs∈xs
 | [],h=>absurd rfl h
 | [x],_=>.head _
 | x :: y :: ys,_=>by
  have ih:=zan5 sd (xs:=y :: ys) (by simp)
  show (if sd then max x (optL sd (y :: ys)) else min x (optL sd (y :: ys)))∈_
  cases sd
  ·by_cases h:x<=optL false (y :: ys)
   ·rw[if_neg zcq0,show min x (optL false (y :: ys))=x by walk_at "om"];exact .head _
   ·rw[if_neg zcq0,show min x (optL false (y :: ys))=optL false (y :: ys) by walk_at "om"];exact .tail _ ih
  ·by_cases h:x<=optL true (y :: ys)
   ·rw[if_pos rfl,show max x (optL true (y :: ys))=optL true (y :: ys) by walk_at "om"];exact .tail _ ih
   ·rw[if_pos rfl,show max x (optL true (y :: ys))=x by walk_at "om"];exact .head _
def leS (sd:Bool) (x y:Int):Prop:=if sd then y<=x else x<=y
theorem zx7 (sd:Bool):∀ {xs:List Int},∀ a∈xs,leS sd (optL sd xs) a
 | [],a,h=>by cases h
 | [x],a,h=>by
  rw[zcx1.mp h]
  unfold leS optL
  split<;>exact Int.le_refl _
 | x :: y :: ys,a,h=>by
  have ih:=zx7 sd (xs:=y :: ys)
  show leS sd (if sd then max x (optL sd (y :: ys)) else min x (optL sd (y :: ys))) a
  rcases zcq6.mp h with rfl|h
  ·cases sd
   ·show min a (optL false (y :: ys))<=a;omega
   ·show a<=max a (optL true (y :: ys));omega
  ·have:=ih a h
   cases sd
   ·have:optL false (y :: ys)<=a:=this
    show min x (optL false (y :: ys))<=a;omega
   ·have:a<=optL true (y :: ys):=this
    show a<=max x (optL true (y :: ys));omega
theorem zbk1 {sd:Bool}{xs:List Int}{M:Int}(hm:M∈xs) (hb:∀ a∈xs,leS sd M a):M=optL sd xs:=by
 have h1:=hb _ (zan5 sd (xs:=xs) (fun e=>by rw[e] at hm;cases hm))
 have h2:=zx7 sd _ hm
 unfold leS at h1 h2
 cases sd
 ·have h1:M<=optL false xs:=h1
  have h2:optL false xs<=M:=h2
  omega
 ·have h1:optL true xs<=M:=h1
  have h2:M<=optL true xs:=h2
  omega
def tabR (sd:Bool):List (Nat->Int)->Nat->Int
 | [],_=>0
 | [d],r=>d r
 | d :: e :: ds,r=>optL sd ((List.range (r+1)).map fun s=>d s+tabR sd (e :: ds) (r - s))
def zas7 (sd:Bool) (ds:List (Nat->Int)) (r:Nat):List Int:=match ds with
 | []=>[]
 | [d]=>[d r]
 | d :: e :: ds=>(List.range (r+1)).map fun s=>d s+tabR sd (e :: ds) (r - s)
theorem zbj7 (sd:Bool) {ds:List (Nat->Int)}(h:ds≠[]) (r:Nat):tabR sd ds r=optL sd (zas7 sd ds r)/\zas7 sd ds r≠[]:=by
 match ds,h with
 | [d],_=>exact⟨rfl,by simp[zas7]⟩
 | d :: e :: ds,_=>exact⟨rfl,by simp[zas7]⟩
theorem zac2 (sd:Bool):∀ {ds:List (Nat->Int)}{q:List Nat}{r:Nat},ds≠[]->q.length=ds.length->q.sum=r->leS sd (tabR sd ds r) ((List.range ds.length).map fun k=>(ds.getD k fun _=>0) (q.getD k 0)).sum
 | [d],[x],r,_,_,hs=>by
  have:x=r:=by simpa using hs
  subst this
  have e:((List.range [d].length).map fun k=>([d].getD k fun _=>0) ([x].getD k 0)).sum=d x:=by
   show ([d x]:List Int).sum=d x
   simp
  rw[e]
  unfold leS tabR
  split<;>exact Int.le_refl _
 | d :: e :: ds,x :: q,r,_,hl,hs=>by
  have hs:x+q.sum=r:=by simpa using hs
  have ih:=zac2 sd (ds:=e :: ds) (q:=q) (r:=r - x) (by simp) (by simpa using hl) (by walk_at "om")
  have b:=zx7 sd (xs:=(List.range (r+1)).map fun s=>d s+tabR sd (e :: ds) (r - s)) (d x+tabR sd (e :: ds) (r - x)) (zcr9.mpr ⟨x,zcu0.mpr (by walk_at "om"),rfl⟩)
  have es:((List.range (d :: e :: ds).length).map fun k=>((d :: e :: ds).getD k fun _=>0) ((x :: q).getD k 0)).sum=d x+((List.range (e :: ds).length).map fun k=>((e :: ds).getD k fun _=>0) (q.getD k 0)).sum:=by
   rw[zcr8,List.range_succ_eq_map,zcs0,zct9,zcs9]
   rfl
  rw[es]
  show leS sd (optL sd ((List.range (r+1)).map fun s=>d s+tabR sd (e :: ds) (r - s))) _
  generalize optL sd ((List.range (r+1)).map fun s=>d s+tabR sd (e :: ds) (r - s))=M at b
  generalize ((List.range (e :: ds).length).map fun k=>((e :: ds).getD k fun _=>0) (q.getD k 0)).sum=S at ih
  unfold leS at *
  cases sd
  ·simp only[zcv5,if_false] at *
   omega
  ·simp only[if_true] at *
   omega
 | [_],[],_,_,hl,_=>by simp at hl
 | [_],_ :: _ :: _,_,_,hl,_=>by simp at hl
 | _ :: _ :: _,[],_,_,hl,_=>by simp at hl
 | [],_,_,h,_,_=>absurd rfl h
def wonS (sd:Bool) (f:Fd) (x c:Nat):Int:=if sd then f.won c x else f.won x c
def dueS (sd:Bool) (f:Fd) (xs:List (Int×Int×Int)) (c:Nat):Int:=(xs.map fun z=>z.2.2*wonS sd f z.2.1.toNat c).sum
def ze2 (sd:Bool) (fs:List Fd) (xss:List (List (Int×Int×Int))):List (Nat->Int):=(List.range fs.length).map fun k=>dueS sd (fs.getD k (.more 0 0)) (xss.getD k [])
theorem zt5 {α:Type}(c:Int) (f:α->Int):∀ xs:List α,(xs.map fun x=>c*f x).sum=c*(xs.map f).sum
 | []=>by simp
 | x :: xs=>by
  rw[zcs0,zcs0,zct9,zct9,zt5 c f xs,Int.mul_add]
theorem zab3 {α β:Type}(F:α->β->Int):∀ (xs:List α) (ys:List β),(xs.map fun x=>(ys.map fun y=>F x y).sum).sum=(ys.map fun y=>(xs.map fun x=>F x y).sum).sum
 | [],ys=>by
  have:∀ ys:List β,(ys.map fun _=>(0:Int)).sum=0:=fun ys=>by
   induction ys with
   | nil=>rfl
   | cons y ys ih=>rw[zcs0,zct9,ih];rfl
  exact (this ys).symm
 | x :: xs,ys=>by
  rw[zcs0,zct9,zab3 F xs ys,← zab2]
  rfl
theorem zaj9 {κ:Type}[DecidableEq κ] {ks:List κ}(nd:ks.Nodup) (g:κ->Int):∀ {zs:List (κ×Int)},(∀ z∈zs,z.1∈ks)->(ks.map fun k=>atG zs k*g k).sum=(zs.map fun z=>z.2*g z.1).sum
 | [],_=>by
  have:∀ ks:List κ,(ks.map fun k=>atG ([]:List (κ×Int)) k*g k).sum=0:=fun ks=>by
   induction ks with
   | nil=>rfl
   | cons k ks ih=>
    rw[zcs0,zct9,ih]
    show (0:Int)*g k+0=0
    rw[Int.zero_mul];rfl
  exact this _
 | z :: zs,h=>by
  have ih:=zaj9 nd g (zs:=zs) fun y hy=>h y (.tail _ hy)
  have e:(ks.map fun k=>atG (z :: zs) k*g k)=ks.map fun k=>(if z.1=k then z.2*g z.1 else 0)+atG zs k*g k:=zcr2 fun k _=>by
   rw[zal8,Int.add_mul]
   by_cases e:z.1=k
   ·rw[if_pos e,if_pos e,e]
   ·rw[if_neg e,if_neg e,Int.zero_mul]
  rw[e,zab2,ih,zcs0,zct9]
  have o:=zaw1 (p:=fun _=>true) (a:=z.1) (c:=z.2*g z.1) nd
  rw[List.filter_eq_self.mpr fun _ _=>rfl,if_pos ⟨h z (.head _),rfl⟩] at o
  rw[o]
theorem zbl4 {ms:List (List Int×Int)}{h:Int}{f i:Nat}{xs:List (Int×Int×Int)}{sd:Bool}{fd:Fd}{c:Nat}(O:OkS ms h f) (hi:i<f) (R:zx3 ms i xs):dueS sd fd xs c=(ms.map fun x=>x.2*wonS sd fd (x.1.getD i 0).toNat c).sum:=by
 unfold dueS
 have e1:(xs.map fun z=>z.2.2*wonS sd fd z.2.1.toNat c)=(xs.map keyT).map fun k=>atG (flw ms i) k*wonS sd fd k.2.toNat c:=by
  rw[zcs9]
  exact zcr2 fun z hz=>by
   show z.2.2*wonS sd fd z.2.1.toNat c=atG (flw ms i) (keyT z)*wonS sd fd (keyT z).2.toNat c
   rw[← (zr5 O hi R hz).2.2.1];rfl
 rw[e1,zaj9 R.1.1 (fun k=>wonS sd fd k.2.toNat c) fun z hz=>(R.2.1 _).mpr ((zn2 _).2 _ |>.mpr (zcr9.mpr ⟨z,hz,rfl⟩))]
 unfold flw
 rw[zcs9];rfl
theorem zca7 {ms ls:List (List Int×Int)}{a c:Int}{n:Nat}{xss yss:List (List (Int×Int×Int))}{fs:List Fd}(O:OkS ms a n) (O':OkS ls c n) (S:zaa5 ms n xss) (S':zaa5 ls n yss) (hf:fs.length=n) :
  (ls.map fun y=>y.2*((List.range n).map fun k=>dueS false (fs.getD k (.more 0 0)) (xss.getD k []) (y.1.getD k 0).toNat).sum).sum=(ms.map fun x=>x.2*((List.range n).map fun k=>dueS true (fs.getD k (.more 0 0)) (yss.getD k []) (x.1.getD k 0).toNat).sum).sum:=by
 have gx:∀ {zss:List (List (Int×Int×Int))}{k:Nat},zss.length=n->k<n->zss[k]?=some (zss.getD k []):=fun {zss k} hl hk=>by rw[zcp6,zcp1 (by walk_at "om")];rfl
 have l:(ls.map fun y=>y.2*((List.range n).map fun k=>dueS false (fs.getD k (.more 0 0)) (xss.getD k []) (y.1.getD k 0).toNat).sum)=ls.map fun y=>((List.range n).map fun k=>(ms.map fun x=>y.2*(x.2*(fs.getD k (.more 0 0)).won (x.1.getD k 0).toNat (y.1.getD k 0).toNat)).sum).sum:=zcr2 fun y _=>by
  rw[← zt5]
  refine congrArg List.sum (zcr2 fun k hk=>?_)
  rw[zbl4 O (zcu0.mp hk) (S.2 k _ (gx S.1 (zcu0.mp hk))).1,zt5]
  rfl
 have r:(ms.map fun x=>x.2*((List.range n).map fun k=>dueS true (fs.getD k (.more 0 0)) (yss.getD k []) (x.1.getD k 0).toNat).sum)=ms.map fun x=>((List.range n).map fun k=>(ls.map fun y=>y.2*(x.2*(fs.getD k (.more 0 0)).won (x.1.getD k 0).toNat (y.1.getD k 0).toNat)).sum).sum:=zcr2 fun x _=>by
  rw[← zt5]
  refine congrArg List.sum (zcr2 fun k hk=>?_)
  rw[zbl4 O' (zcu0.mp hk) (S'.2 k _ (gx S'.1 (zcu0.mp hk))).1,← zt5]
  refine congrArg List.sum (zcr2 fun y _=>?_)
  show x.2*(y.2*(fs.getD k (.more 0 0)).won (x.1.getD k 0).toNat (y.1.getD k 0).toNat)=_
  rw[Int.mul_left_comm]
 rw[l,r,zab3 (fun (y:List Int×Int) (k:Nat)=>(ms.map fun x=>y.2*(x.2*(fs.getD k (.more 0 0)).won (x.1.getD k 0).toNat (y.1.getD k 0).toNat)).sum),zab3 (fun (x:List Int×Int) (k:Nat)=>(ls.map fun y=>y.2*(x.2*(fs.getD k (.more 0 0)).won (x.1.getD k 0).toNat (y.1.getD k 0).toNat)).sum)]
 refine congrArg List.sum (zcr2 fun k _=>?_)
 rw[zab3]
def zj2 (ms:List (List Int×Int)):Int:=(ms.map fun x=>x.2).sum
theorem zac9 {α:Type}{f g:α->Int}:∀ {xs:List α},(∀ x∈xs,f x<=g x)->(xs.map f).sum<=(xs.map g).sum
 | [],_=>Int.le_refl _
 | x :: xs,h=>by
  have:=zac9 (xs:=xs) fun y hy=>h y (.tail _ hy)
  have:=h x (.head _)
  rw[zcs0,zcs0,zct9,zct9]
  omega
theorem zbd4 {sd:Bool}{fs:List Fd}{xss:List (List (Int×Int×Int))}{n:Nat}(hf:fs.length=n) (q:List Nat):((List.range (ze2 sd fs xss).length).map fun k=>((ze2 sd fs xss).getD k fun _=>0) (q.getD k 0)).sum=((List.range n).map fun k=>dueS sd (fs.getD k (.more 0 0)) (xss.getD k []) (q.getD k 0)).sum:=by
 have l:(ze2 sd fs xss).length=n:=by unfold ze2;rw[zcp2,zcr3,hf]
 rw[l]
 refine congrArg List.sum (zcr2 fun k hk=>?_)
 have:(ze2 sd fs xss).getD k (fun _=>0)=dueS sd (fs.getD k (.more 0 0)) (xss.getD k []):=by
  unfold ze2
  rw[zcp6,zcp5,zct8 (by rw[hf];exact zcu0.mp hk)];rfl
 rw[this]
theorem zbd5 {ns:List Int}(nn:∀ n∈ns,0<=n):((ns.map Int.toNat).sum:Int)=ns.sum/\∀ k,(ns.map Int.toNat).getD k 0=(ns.getD k 0).toNat:=by
 refine⟨?_,fun k=>?_⟩
 ·induction ns with
  | nil=>rfl
  | cons n ns ih=>
   have:=nn n (.head _)
   have:=ih fun m hm=>nn m (.tail _ hm)
   rw[zcs0,zct9,zct9]
   push_cast
   omega
 ·rw[zcp6,zcp6,zcp5]
  cases ns[k]?<;>rfl
theorem weak {ms ls:List (List Int×Int)}{a c n:Nat}{xss yss:List (List (Int×Int×Int))}{fs:List Fd}(O:OkS ms a n) (O':OkS ls c n) (S:zaa5 ms n xss) (S':zaa5 ls n yss) (hf:fs.length=n):tabR false (ze2 false fs xss) c*zj2 ls<=tabR true (ze2 true fs yss) a*zj2 ms:=by
 have f1:=O.f1
 have ne:∀ sd zss,ze2 sd fs zss≠[]:=fun sd zss e=>by
  have:(ze2 sd fs zss).length=n:=by unfold ze2;rw[zcp2,zcr3,hf]
  rw[e] at this
  simp at this
  omega
 have dl:∀ sd zss,(ze2 sd fs zss).length=n:=fun sd zss=>by unfold ze2;rw[zcp2,zcr3,hf]
 have h1:(ls.map fun y=>y.2*tabR false (ze2 false fs xss) c).sum<=(ls.map fun y=>y.2*((List.range n).map fun k=>dueS false (fs.getD k (.more 0 0)) (xss.getD k []) (y.1.getD k 0).toNat).sum).sum:=zac9 fun y hy=>by
  obtain⟨nn,yl,ys,yw⟩:=O'.all y hy
  obtain⟨p1,p2⟩:=zbd5 nn
  have t:=zac2 false (ds:=ze2 false fs xss) (q:=y.1.map Int.toNat) (r:=c) (ne _ _) (by rw[zcp2,dl,yl]) (by walk_at "om")
  rw[zbd4 hf] at t
  simp only[p2] at t
  exact zcv4 t (by walk_at "om")
 have h2:(ms.map fun x=>x.2*((List.range n).map fun k=>dueS true (fs.getD k (.more 0 0)) (yss.getD k []) (x.1.getD k 0).toNat).sum).sum<=(ms.map fun x=>x.2*tabR true (ze2 true fs yss) a).sum:=zac9 fun y hy=>by
  obtain⟨nn,yl,ys,yw⟩:=O.all y hy
  obtain⟨p1,p2⟩:=zbd5 nn
  have t:=zac2 true (ds:=ze2 true fs yss) (q:=y.1.map Int.toNat) (r:=a) (ne _ _) (by rw[zcp2,dl,yl]) (by walk_at "om")
  rw[zbd4 hf] at t
  simp only[p2] at t
  exact zcv4 t (by walk_at "om")
 have c1:∀ (xs:List (List Int×Int)) (t:Int),(xs.map fun y=>y.2*t).sum=t*zj2 xs:=fun xs t=>by
  unfold zj2
  rw[← zt5]
  exact congrArg List.sum (zcr2 fun y _=>Int.mul_comm _ _)
 rw[c1] at h1 h2
 have:=zca7 O O' S S' hf
 omega
def wd (sd:Bool):Str:=if sd then "second" else "first"
@[irreducible] def ze5 (zci7:Addr):Sp:=fun vs H Q E=>(∃ sd,vs=[.str (wd sd)]/\∀ H',Same H H'->Q .non H')∨∃ x:Str,vs=[.str x]/\x≠"first"/\x≠"second"/\∀ H',Same H H'->E (.ref zci7) none H'
theorem zaq3 {zci7:Addr}{H:Hp}{sd:Bool}{Q:VK}{E:XK}(q:∀ H',Same H H'->Q .non H'):ze5 zci7 [.str (wd sd)] H Q E:=by unfold ze5;exact .inl ⟨sd,rfl,q⟩
theorem zac0 {zci7:Addr}{H:Hp}{x:Str}{Q:VK}{E:XK}(h1:x≠"first") (h2:x≠"second") (q:∀ H',Same H H'->E (.ref zci7) none H'):ze5 zci7 [.str x] H Q E:=by unfold ze5;exact .inr ⟨x,rfl,h1,h2,q⟩
theorem inV_no {x:Str}(h1:x≠"first") (h2:x≠"second"):inV (.str x) [.str "first",.str "second"]=false:=by
 have e:inV (.str x) [.str "first",.str "second"]=(eqV (.str "first") (.str x) || (eqV (.str "second") (.str x) || false)):=rfl
 rw[e]
 have ns:∀ y:Str,x≠y->eqV (.str y) (.str x)=false:=fun y h=>by
  simp[eqV]
  exact fun z=>h z.symm
 have e1:=ns _ h1
 have e2:=ns _ h2
 rw[e1,e2];rfl
theorem zaq0 {f:Addr}{fd:FuncData}(F:Fun K "look_side" "look_side" zm2 f fd) (N:Nm mg) (Z:Cz K mg base zci9 zci6 zcj3 zcj7 zcj0 zci7 zcj2 zcj1 zcj6):FnOk P w K mg base (CXR P w) 1 f fd ["side"] (ze5 zci7):=by
 refine F.okR zat0 (fun vs H Q E h=>by unfold ze5 at h;rcases h with ⟨_,rfl,_⟩|⟨_,rfl,_⟩<;>rfl) (fun cdv A outer s H vs Q E hr hX h=>?_)
 unfold ze5 at h
 refine⟨_,(za5 (psIf (ptC (zcf1 (K:=K) rfl) (pq 0) (zn8 (za0 zd1 (za0 zd1 za1)))) (za5 (zci1 Z.o_NoSide PySem.F.excBase_ValueError rfl hX (za0 zd1 za1))) zb8)),?_⟩
 rcases h with ⟨sd,rfl,q⟩|⟨x,rfl,h1,h2,q⟩
 ·walk_at "wh"
  refine zd6 (fun p1 H1 f1 s1 h1=>?_)
  refine zap2 (SqT.of h1) rfl rfl ?_
  rw[show inV (.str (wd sd)) [.str "first",.str "second"]=true by cases sd<;>decide +kernel]
  refine br_F ?_
  walk_at "wh"
  exact q _ s1
 ·walk_at "wh"
  refine zd6 (fun p1 H1 f1 s1 h1'=>?_)
  refine zap2 (SqT.of h1') rfl rfl ?_
  rw[inV_no h1 h2]
  refine br_T ?_
  walk_at "wh"
  exact⟨by decide,q _ s1⟩
def ownH (sd:Bool) (n m:Nat):Nat:=if sd then m else n
def othH (sd:Bool) (n m:Nat):Nat:=if sd then n else m
@[irreducible] def zh9:Sp:=fun vs H Q _=>∃ (b l:Addr) (n m:Nat) (sd:Bool),vs=[.ref b,.str (wd sd)]/\H b=some (.tup [.int n,.int m,.ref l])/\Q (.int (ownH sd n m)) H
theorem zau6 {H:Hp}{b l:Addr}{n m:Nat}{sd:Bool}{Q:VK}{E:XK}(h:H b=some (.tup [.int n,.int m,.ref l])) (q:Q (.int (ownH sd n m)) H):zh9 [.ref b,.str (wd sd)] H Q E:=by unfold zh9;exact⟨b,l,n,m,sd,rfl,h,q⟩
theorem zar4 {f:Addr}{fd:FuncData}(F:Fun K "own_hosts" "own_hosts" zn0 f fd) (N:Nm mg):FnOk P w K mg base CX0 1 f fd ["battle","side"] zh9:=by
 refine F.ok zap9 (fun vs H Q E h=>by unfold zh9 at h;obtain⟨_,_,_,_,_,rfl,_⟩:=h;rfl) (fun cdv A outer s H vs Q E hr h=>?_)
 unfold zh9 at h
 obtain⟨b,l,n,m,sd,rfl,h,q⟩:=h
 have hu:=hu40 hr
 refine⟨_,(za5 (za9 (peIf (ptC (zak0 (K:=K) rfl (by exact hu)) (pq 1) zd1) (za8 (K:=K) rfl (pq 0) za2) (za8 (K:=K) rfl (pq 0) za2)))),?_⟩
 cases sd
 ·walk_at "wh"
  refine zr3 rfl ?_
  refine zb1 (v:=.int n) h rfl ?_
  walk_at "wh"
  exact q
 ·walk_at "wh"
  refine zq7 (by decide) ?_
  refine zb1 (v:=.int m) h rfl ?_
  walk_at "wh"
  exact q
@[irreducible] def zd3:Sp:=fun vs H Q _=>∃ (b l:Addr) (n m:Nat) (sd:Bool),vs=[.ref b,.str (wd sd)]/\H b=some (.tup [.int n,.int m,.ref l])/\Q (.int (othH sd n m)) H
theorem zq9 {H:Hp}{b l:Addr}{n m:Nat}{sd:Bool}{Q:VK}{E:XK}(h:H b=some (.tup [.int n,.int m,.ref l])) (q:Q (.int (othH sd n m)) H):zd3 [.ref b,.str (wd sd)] H Q E:=by unfold zd3;exact⟨b,l,n,m,sd,rfl,h,q⟩
theorem zah9 {f:Addr}{fd:FuncData}(F:Fun K "other_hosts" "other_hosts" zi7 f fd) (N:Nm mg):FnOk P w K mg base CX0 1 f fd ["battle","side"] zd3:=by
 refine F.ok zag8 (fun vs H Q E h=>by unfold zd3 at h;obtain⟨_,_,_,_,_,rfl,_⟩:=h;rfl) (fun cdv A outer s H vs Q E hr h=>?_)
 unfold zd3 at h
 obtain⟨b,l,n,m,sd,rfl,h,q⟩:=h
 have hu:=hu40 hr
 refine⟨_,(za5 (za9 (peIf (ptC (zak0 (K:=K) rfl (by exact hu)) (pq 1) zd1) (za8 (K:=K) rfl (pq 0) za2) (za8 (K:=K) rfl (pq 0) za2)))),?_⟩
 cases sd
 ·walk_at "wh"
  refine zr3 rfl ?_
  refine zb1 (v:=.int m) h rfl ?_
  walk_at "wh"
  exact q
 ·walk_at "wh"
  refine zq7 (by decide) ?_
  refine zb1 (v:=.int n) h rfl ?_
  walk_at "wh"
  exact q
theorem Fd.won_bd {f:Fd}{a c x y:Nat}(O:f.Ok) (B:f.Bd a c) (hx:x<=a) (hy:y<=c):-(2*10 ^ 28)<=f.won x y/\f.won x y<=2*10 ^ 28:=by
 cases f with
 | more w t=>
  have O:1<=w/\-w<=t/\t<=w:=O
  have B:w<=2*10 ^ 28:=B
  unfold Fd.won
  dsimp only
  split
  ·omega
  ·split<;>omega
 | lead w l=>
  have O:1<=w:=O
  have B:w<=2*10 ^ 28:=B
  unfold Fd.won
  dsimp only
  split<;>omega
 | tab g=>exact B x y hx hy
abbrev zu6 (h:Nat) (xs:List (Int×Int×Int)):Prop:=xs.length<=1000/\∀ z∈xs,(0<=z.2.1/\z.2.1<=h)/\(0<=z.2.2/\z.2.2<=10 ^ 31)
@[irreducible] def zad5:Sp:=fun vs H Q _=>∃ (p a:Addr) (n m c:Nat) (sd:Bool) (f:Fd) (bs:List Addr) (xs:List (Int×Int×Int)),vs=[.ref p,.str (wd sd),.ref a,.int c]/\FdAt H p n m f/\f.Ok/\f.Bd n m/\RwAt H a bs xs/\zu6 (ownH sd n m) xs/\c<=othH sd n m/\∀ H',Same H H'->Q (.int (dueS sd f xs c)) H'
theorem due_rd {H:Hp}{p a:Addr}{n m c:Nat}{sd:Bool}{f:Fd}{bs:List Addr}{xs:List (Int×Int×Int)}{Q:VK}{E:XK}(F:FdAt H p n m f) (O:f.Ok) (B:f.Bd n m) (R:RwAt H a bs xs) (ok:zu6 (ownH sd n m) xs) (hc:c<=othH sd n m) (q:∀ H',Same H H'->Q (.int (dueS sd f xs c)) H'):zad5 [.ref p,.str (wd sd),.ref a,.int c] H Q E:=by unfold zad5;exact⟨p,a,n,m,c,sd,f,bs,xs,rfl,F,O,B,R,ok,hc,q⟩
theorem zba8 {sd:Bool}{f:Fd}{xs:List (Int×Int×Int)}{c k:Nat}(hk:k=xs.length):((List.range k).map fun i=>V.int ((xs.getD i (0,0,0)).2.2*wonS sd f (xs.getD i (0,0,0)).2.1.toNat c))=(xs.map fun z=>z.2.2*wonS sd f z.2.1.toNat c).map V.int:=by
 subst hk
 apply zcu7
 intro i
 rw[zcp5,zcp5,zcp5]
 by_cases h:i<xs.length
 ·rw[zct8 h,zcp1 h]
  simp[h]
 ·rw[zcs1 (by simp;omega),zcs1 (by walk_at "om")]
  rfl
set_option maxHeartbeats 0 in
theorem ok_due {f:Addr}{fd:FuncData}(F:Fun K "due" "due" zbg9 f fd) (N:Nm mg) (D_won:Def P w K mg base CX0 1 "won" ["field","x","y"] zad2):FnOk P w K mg base CX0 2 f fd ["field","side","row","count"] zad5:=by
 refine F.ok sc_due (fun vs H Q E h=>by unfold zad5 at h;obtain⟨_,_,_,_,_,_,_,_,_,rfl,_⟩:=h;rfl) (fun cdv A outer s H vs Q E hr h=>?_)
 unfold zad5 at h
 obtain⟨p,a,n,m,c,sd,f,bs,xs,rfl,F,O,B,R,ok,hc,q⟩:=h
 have hu:=hu40 hr
 have rl:=R.len
 have xl:=ok.1
 refine⟨_,(za4 (psIf (ptC (zak0 (K:=K) rfl (by exact hu)) (pq 1) zd1) (za5 (za9 (pB (zbq8 (K:=K) rfl rfl) N.sum_ zao7 (za0 (zf4 (N:=["left","sent","flow","field","count"]) (ks:=[none,none,none,some 0,some 3]) (zi0 (K:=K) rfl (pq 2)) (fun cl C s3 H3 fp=>(zl5 (K:=K) (n:=3) rfl rfl (zb6 (za7 (i:=0) zbe6 rfl (by first|exact Or.inl rfl|exact Or.inr rfl)) (zb6 (za7 (i:=1) zbe6 rfl (by first|exact Or.inl rfl|exact Or.inr rfl)) (zb6 (za7 (i:=2) zbe6 rfl (by first|exact Or.inl rfl|exact Or.inr rfl)) zl6))))) (fun cl C s3 H3 fp=>zc7) (fun cl C s3 H3 fp=>(zb5 oMul (pq 2) (pD D_won hr zb7 (za0 (pq 3) (za0 (pq 1) (za0 (pq 4) za1)))))) (.skip (.skip (.skip (.take rfl rfl (by first|exact Or.inl rfl|exact Or.inr rfl) (.take rfl rfl (by first|exact Or.inl rfl|exact Or.inr rfl) .nil)))))) za1)))) zb8)
   (za5 (za9 (pB (zbq8 (K:=K) rfl rfl) N.sum_ zao7 (za0 (zf4 (N:=["left","sent","flow","field","count"]) (ks:=[none,none,none,some 0,some 3]) (zi0 (K:=K) rfl (pq 2)) (fun cl C s3 H3 fp=>(zl5 (K:=K) (n:=3) rfl rfl (zb6 (za7 (i:=0) zbe6 rfl (by first|exact Or.inl rfl|exact Or.inr rfl)) (zb6 (za7 (i:=1) zbe6 rfl (by first|exact Or.inl rfl|exact Or.inr rfl)) (zb6 (za7 (i:=2) zbe6 rfl (by first|exact Or.inl rfl|exact Or.inr rfl)) zl6))))) (fun cl C s3 H3 fp=>zc7) (fun cl C s3 H3 fp=>(zb5 oMul (pq 2) (pD D_won hr zb7 (za0 (pq 3) (za0 (pq 4) (za0 (pq 1) za1)))))) (.skip (.skip (.skip (.take rfl rfl (by first|exact Or.inl rfl|exact Or.inr rfl) (.take rfl rfl (by first|exact Or.inl rfl|exact Or.inr rfl) .nil)))))) za1))))),?_⟩
 cases sd
 ·walk_at "wh"
  refine zr3 rfl ?_
  refine zc6 R.out ?_
  refine zn6 (Wk.list (SqL.of R.out)) (by rw[zcp2,sizeLine_eq];omega) (fun i=>.int ((xs.getD i (0,0,0)).2.2*wonS false f (xs.getD i (0,0,0)).2.1.toNat c)) (fun _=>true) (fun j σ=>∃ t u w:Option V,σ=[t,u,w,some (.ref p),some (.int c)]) ⟨none,none,none,rfl⟩ ?_ ?_
  ·rintro i x σ I R' S hi s1 hx ⟨_,_,_,rfl⟩ kk _
   rw[zcp5] at hx
   obtain⟨t,et,rfl⟩:=zcp7.mp hx
   obtain⟨z,ez⟩:∃ z,xs[i]?=some z:=⟨_,zcp1 (by have:=(zcp4.mp et).1;omega)⟩
   rw[show xs.getD i (0,0,0)=z by rw[zcp6,ez];rfl] at kk
   obtain⟨z1,z2⟩:=ok.2 z (zcp9 ez)
   have z1:0<=z.2.1/\z.2.1<=(n:Int):=z1
   have hc:c<=m:=hc
   have wb:=Fd.won_bd O B (x:=z.2.1.toNat) (y:=c) (by walk_at "om") hc
   refine ze3 (s1 _ _ (R.row i t z et ez)) ?_
   refine br_T ?_
   rw[show z.2.1=((z.2.1.toNat:Nat):Int) by walk_at "om"]
   refine zbx8 (F.same s1) (by walk_at "om") hc ?_
   refine zv1 (zr8 (by walk_at "om") (by walk_at "om") (by walk_at "om") (by walk_at "om")) ?_
   walk_at "wh"
   exact kk rfl _ _ (Same.refl _) ⟨_,_,_,rfl⟩
  intro acc H1 f1 s1 h1
  rw[ze4,zba8 (by rw[zcp2];exact rl)] at h1
  refine zao8 h1 ?_
  walk_at "wh"
  exact q _ s1
 ·walk_at "wh"
  refine zq7 (by decide) ?_
  refine zc6 R.out ?_
  refine zn6 (Wk.list (SqL.of R.out)) (by rw[zcp2,sizeLine_eq];omega) (fun i=>.int ((xs.getD i (0,0,0)).2.2*wonS true f (xs.getD i (0,0,0)).2.1.toNat c)) (fun _=>true) (fun j σ=>∃ t u w:Option V,σ=[t,u,w,some (.ref p),some (.int c)]) ⟨none,none,none,rfl⟩ ?_ ?_
  ·rintro i x σ I R' S hi s1 hx ⟨_,_,_,rfl⟩ kk _
   rw[zcp5] at hx
   obtain⟨t,et,rfl⟩:=zcp7.mp hx
   obtain⟨z,ez⟩:∃ z,xs[i]?=some z:=⟨_,zcp1 (by have:=(zcp4.mp et).1;omega)⟩
   rw[show xs.getD i (0,0,0)=z by rw[zcp6,ez];rfl] at kk
   obtain⟨z1,z2⟩:=ok.2 z (zcp9 ez)
   have z1:0<=z.2.1/\z.2.1<=(m:Int):=z1
   have hc:c<=n:=hc
   have wb:=Fd.won_bd O B (x:=c) (y:=z.2.1.toNat) hc (by walk_at "om")
   refine ze3 (s1 _ _ (R.row i t z et ez)) ?_
   refine br_T ?_
   rw[show z.2.1=((z.2.1.toNat:Nat):Int) by walk_at "om"]
   refine zbx8 (F.same s1) hc (by walk_at "om") ?_
   refine zv1 (zr8 (by walk_at "om") (by walk_at "om") (by walk_at "om") (by walk_at "om")) ?_
   walk_at "wh"
   exact kk rfl _ _ (Same.refl _) ⟨_,_,_,rfl⟩
  intro acc H1 f1 s1 h1
  rw[ze4,zba8 (by rw[zcp2];exact rl)] at h1
  refine zao8 h1 ?_
  walk_at "wh"
  exact q _ s1
@[irreducible] def zk0:Sp:=fun vs H Q _=>∃ (p a:Addr) (n m:Nat) (sd:Bool) (f:Fd) (bs:List Addr) (xs:List (Int×Int×Int)),vs=[.ref p,.str (wd sd),.ref a,.int (othH sd n m)]/\FdAt H p n m f/\f.Ok/\f.Bd n m/\RwAt H a bs xs/\zu6 (ownH sd n m) xs/\othH sd n m<=10/\∀ r H',H r=none->Same H H'->H' r=some (.lst (rowV (othH sd n m+1) (dueS sd f xs)))->Q (.ref r) H'
theorem zaz7 {H:Hp}{p a:Addr}{n m:Nat}{sd:Bool}{f:Fd}{bs:List Addr}{xs:List (Int×Int×Int)}{Q:VK}{E:XK}(F:FdAt H p n m f) (O:f.Ok) (B:f.Bd n m) (R:RwAt H a bs xs) (ok:zu6 (ownH sd n m) xs) (ho:othH sd n m<=10) (q:∀ r H',H r=none->Same H H'->H' r=some (.lst (rowV (othH sd n m+1) (dueS sd f xs)))->Q (.ref r) H'):zk0 [.ref p,.str (wd sd),.ref a,.int (othH sd n m)] H Q E:=by unfold zk0;exact⟨p,a,n,m,sd,f,bs,xs,rfl,F,O,B,R,ok,ho,q⟩
theorem zay5 {f:Addr}{fd:FuncData}(F:Fun K "row_dues" "row_dues" zo2 f fd) (N:Nm mg) (D_due:Def P w K mg base CX0 2 "due" ["field","side","row","count"] zad5):FnOk P w K mg base CX0 3 f fd ["field","side","row","most"] zk0:=by
 refine F.ok zax5 (fun vs H Q E h=>by unfold zk0 at h;obtain⟨_,_,_,_,_,_,_,_,rfl,_⟩:=h;rfl) (fun cdv A outer s H vs Q E hr h=>?_)
 unfold zk0 at h
 obtain⟨p,a,n,m,sd,f,bs,xs,rfl,F,O,B,R,ok,ho,q⟩:=h
 have hu:=hu40 hr
 refine⟨_,(za5 (za9 (zf4 (N:=["count","field","side","row"]) (ks:=[none,some 0,some 1,some 2]) (zn9 N.range_ (za0 (zb5 oAdd (pq 3) za2) za1)) (fun cl C s3 H3 fp=>(za7 (i:=0) nb_11 rfl (by first|exact Or.inl rfl|exact Or.inr rfl))) (fun cl C s3 H3 fp=>zc7) (fun cl C s3 H3 fp=>(pD D_due hr zb7 (za0 (pq 1) (za0 (pq 2) (za0 (pq 3) (za0 (pq 0) za1)))))) (.skip (.take rfl rfl (by first|exact Or.inl rfl|exact Or.inr rfl) (.take rfl rfl (by first|exact Or.inl rfl|exact Or.inr rfl) (.take rfl rfl (by first|exact Or.inl rfl|exact Or.inr rfl) .nil))))))),?_⟩
 refine zf2 (by walk_at "om") (by walk_at "om") (by walk_at "om") (by walk_at "om") ?_
 rw[show ((othH sd n m:Int)+1 - 0).toNat=othH sd n m+1 by walk_at "om"]
 refine zn6 (n:=othH sd n m+1) Wk.range (by rw[sizeLine_eq];omega) (fun i=>.int (dueS sd f xs i)) (fun _=>true) (fun j σ=>∃ t:Option V,σ=[t,some (.ref p),some (.str (wd sd)),some (.ref a)]) ⟨none,rfl⟩ ?_ ?_
 ·rintro i x σ I R' S hi s1 hx ⟨_,rfl⟩ kk _
  obtain rfl:x=.int i:=by rw[hx,zcv6]
  refine br_T ?_
  refine due_rd (F.same s1) O B (R.same s1) ok (by walk_at "om") (fun H2 s2=>?_)
  walk_at "wh"
  exact kk rfl _ _ s2 ⟨_,rfl⟩
 intro acc H1 f1 s1 h1
 rw[ze4] at h1
 walk_at "wh"
 exact q acc H1 f1 s1 h1
structure StW (H:Hp) (p:Addr) (rs:List (Addr×List Addr)) (xss:List (List (Int×Int×Int))):Prop where
 out:H p=some (.lst (rs.map fun r=>V.ref r.1))
 len:rs.length=xss.length
 row:∀ (i:Nat) r xs,rs[i]?=some r->xss[i]?=some xs->RwAt H r.1 r.2 xs
theorem StW.same {H H':Hp}{p:Addr}{rs:List (Addr×List Addr)}{xss:List (List (Int×Int×Int))}(R:StW H p rs xss) (s:Same H H'):StW H' p rs xss:=⟨s _ _ R.out,R.len,fun i r xs e1 e2=>(R.row i r xs e1 e2).same s⟩
theorem StW.sh {H:Hp}{p:Addr}{rs:List (Addr×List Addr)}{xss:List (List (Int×Int×Int))}(R:StW H p rs xss):ShV H (.ref p) (stmD xss):=.lst R.out (ShL.idx (by rw[zcp2,zcp2,R.len]) fun i x d h1 h2=>by
 rw[zcp5] at h1 h2
 obtain⟨b,eb,rfl⟩:=zcp7.mp h1
 obtain⟨z,ez,rfl⟩:=zcp7.mp h2
 exact (R.row i b z eb ez).sh)
theorem StAt.toW {H:Hp}{p:Addr}{rs:List (Addr×List Addr)}{xss:List (List (Int×Int×Int))}(R:StAt H p rs xss):StW H p rs xss:=⟨R.out,R.len,fun i r xs e1 e2=>(R.row i r xs e1 e2).same (zae8 _ _)⟩
@[irreducible] def zv8:Sp:=fun vs H Q _=>∃ (b l st:Addr) (ps:List Addr) (n m:Nat) (sd:Bool) (fs:List Fd) (rs:List (Addr×List Addr)) (xss:List (List (Int×Int×Int))),vs=[.ref b,.str (wd sd),.ref st]/\zi9 H b l ps n m fs/\OkB n m fs/\(∀ f∈fs,f.Bd n m)/\StW H st rs xss/\xss.length=fs.length/\(∀ xs∈xss,zu6 (ownH sd n m) xs)/\∀ (r:Addr) (qs:List Addr) (H':Hp),H r=none->Same H H'->zf1 H' r qs fs.length (othH sd n m+1) (fun k=>dueS sd (fs.getD k (.more 0 0)) (xss.getD k []))->Q (.ref r) H'
theorem zcc1 {H:Hp}{b l st:Addr}{ps:List Addr}{n m:Nat}{sd:Bool}{fs:List Fd}{rs:List (Addr×List Addr)}{xss:List (List (Int×Int×Int))}{Q:VK}{E:XK}(B:zi9 H b l ps n m fs) (O:OkB n m fs) (D:∀ f∈fs,f.Bd n m) (S:StW H st rs xss) (hl:xss.length=fs.length) (ok:∀ xs∈xss,zu6 (ownH sd n m) xs) (q:∀ (r:Addr) (qs:List Addr) (H':Hp),H r=none->Same H H'->zf1 H' r qs fs.length (othH sd n m+1) (fun k=>dueS sd (fs.getD k (.more 0 0)) (xss.getD k []))->Q (.ref r) H'):zv8 [.ref b,.str (wd sd),.ref st] H Q E:=by
 unfold zv8;exact⟨b,l,st,ps,n,m,sd,fs,rs,xss,rfl,B,O,D,S,hl,ok,q⟩
theorem zac7 {n m:Nat}{fs:List Fd}(O:OkB n m fs) (sd:Bool):othH sd n m<=10/\ownH sd n m<=10:=by
 have:=O.1
 unfold othH ownH
 cases sd<;>simp<;>omega
theorem zcg1 {f:Addr}{fd:FuncData}(F:Fun K "dues" "dues" zaj2 f fd) (N:Nm mg) (zcj4:Def P w K mg base CX0 1 "other_hosts" ["battle","side"] zd3) (zcn2:Def P w K mg base CX0 3 "row_dues" ["field","side","row","most"] zk0):FnOk P w K mg base CX0 4 f fd ["battle","side","stream"] zv8:=by
 refine F.ok zbm3 (fun vs H Q E h=>by unfold zv8 at h;obtain⟨_,_,_,_,_,_,_,_,_,_,rfl,_⟩:=h;rfl) (fun cdv A outer s H vs Q E hr h=>?_)
 unfold zv8 at h
 obtain⟨b,l,st,ps,n,m,sd,fs,rs,xss,rfl,B,O,D,S,hl,ok,q⟩:=h
 have hu:=hu40 hr
 have bl:=B.len
 have sl:=S.len
 have o2:=O.2
 obtain⟨ho,hw⟩:=zac7 O sd
 refine⟨_,(za4 (psS (i:=3) zbm3.nd (pD zcj4 hr zb7 (za0 (pq 0) (za0 (pq 1) za1))))
   (za5 (za9 (zf4 (N:=["field","row","side","most"]) (ks:=[none,none,some 1,some 3]) (zbn0 (K:=K) rfl N.zip_ (za0 (za8 (K:=K) rfl (pq 0) za2) (za0 (pq 2) za1))) (fun cl C s3 H3 fp=>(zl5 (K:=K) (n:=2) rfl rfl (zb6 (za7 (i:=0) nb_12 rfl (by first|exact Or.inl rfl|exact Or.inr rfl)) (zb6 (za7 (i:=1) nb_12 rfl (by first|exact Or.inl rfl|exact Or.inr rfl)) zl6)))) (fun cl C s3 H3 fp=>zc7) (fun cl C s3 H3 fp=>(pD zcn2 hr zb7 (za0 (pq 0) (za0 (pq 2) (za0 (pq 1) (za0 (pq 3) za1)))))) (.skip (.skip (.take rfl rfl (by first|exact Or.inl rfl|exact Or.inr rfl) (.take rfl rfl (by first|exact Or.inl rfl|exact Or.inr rfl) .nil)))))))),?_⟩
 refine zq9 B.out ?_
 refine zb1 (v:=.ref l) B.out rfl ?_
 refine zbm9 (SqL.of B.lst) (SqL.of S.out) ?_
 refine zaj0 (n:=fs.length) (Wk.zip (SqL.of B.lst) (SqL.of S.out) (by rw[zcp2,bl]) (by rw[zcp2,sl,hl])) (by rw[sizeLine_eq];omega) (fun i=>.lst (rowV (othH sd n m+1) (dueS sd (fs.getD i (.more 0 0)) (xss.getD i [])))) (fun j σ=>∃ t u:Option V,σ=[t,u,some (.str (wd sd)),some (.int (othH sd n m))]) ⟨none,none,rfl⟩ ?_ ?_
 ·rintro i x σ I R' S' hi s1 ⟨t,y1,y2,rfl,ht,hy1,hy2⟩ ⟨_,_,rfl⟩ kk
  obtain⟨p,f,rfl,ep,ef,hf,of⟩:=(B.same s1).elt hy1
  rw[zcp5] at hy2
  obtain⟨r,er,rfl⟩:=zcp7.mp hy2
  obtain⟨xs,ex⟩:∃ xs,xss[i]?=some xs:=⟨_,zcp1 (by walk_at "om")⟩
  rw[show fs.getD i (.more 0 0)=f by rw[zcp6,ef];rfl,show xss.getD i []=xs by rw[zcp6,ex];rfl] at kk
  have R:=(S.row i r xs er ex).same s1
  refine ze3 ht ?_
  refine br_T ?_
  refine zaz7 hf of (D f (zcp9 ef)) R (ok xs (zcp9 ex)) ho (fun r2 H2 f2 s2 h2=>?_)
  walk_at "wh"
  exact kk _ _ _ f2 s2 h2 ⟨_,_,rfl⟩
 rintro r qs H1 F1
 walk_at "wh"
 exact q r qs H1 F1.facc F1.same ⟨F1.out,F1.len,fun i p e=>(F1.row i p e).2⟩
@[irreducible] def zl2:Sp:=fun vs H Q _=>∃ (a:Addr) (v:V) (k c:Nat) (d:Nat->Int) (ns:List Int),vs=[.ref a,v,.int c]/\H a=some (.lst (rowV k d))/\c<k/\k<=100/\((v=.non/\ns=[d c])∨∃ (b:Addr) (t:Nat->Int),v=.ref b/\H b=some (.lst (rowV k t))/\ns=(List.range (c+1)).map fun s=>d s+t (c - s))/\∀ r H',H r=none->Same H H'->H' r=some (.lst (ns.map V.int))->Q (.ref r) H'
theorem zbg8 {H:Hp}{a:Addr}{k c:Nat}{d:Nat->Int}{Q:VK}{E:XK}(ha:H a=some (.lst (rowV k d))) (hc:c<k) (hk:k<=100) (q:∀ r H',H r=none->Same H H'->H' r=some (.lst ([d c].map V.int))->Q (.ref r) H'):zl2 [.ref a,.non,.int c] H Q E:=by unfold zl2;exact⟨a,.non,k,c,d,_,rfl,ha,hc,hk,.inl ⟨rfl,rfl⟩,q⟩
theorem zbf1 {H:Hp}{a b:Addr}{k c:Nat}{d t:Nat->Int}{Q:VK}{E:XK}(ha:H a=some (.lst (rowV k d))) (hb:H b=some (.lst (rowV k t))) (hc:c<k) (hk:k<=100) (q:∀ r H',H r=none->Same H H'->H' r=some (.lst (((List.range (c+1)).map fun s=>d s+t (c - s)).map V.int))->Q (.ref r) H'):zl2 [.ref a,.ref b,.int c] H Q E:=by unfold zl2;exact⟨a,.ref b,k,c,d,_,rfl,ha,hc,hk,.inr ⟨b,t,rfl,hb,rfl⟩,q⟩
theorem zbl0 {f:Addr}{fd:FuncData}(F:Fun K "bounds" "bounds" zu3 f fd) (N:Nm mg):FnOk P w K mg base CX0 1 f fd ["field_dues","behind","count"] zl2:=by
 refine F.ok zbq0 (fun vs H Q E h=>by unfold zl2 at h;obtain⟨_,_,_,_,_,_,rfl,_⟩:=h;rfl) (fun cdv A outer s H vs Q E hr h=>?_)
 unfold zl2 at h
 obtain⟨a,v,k,c,d,ns,rfl,ha,hc,hk,h,q⟩:=h
 have hu:=hu40 hr
 refine⟨_,(za4 (psIf (ptC oIsX (pq 1) zv0) (za5 (za9 (zk1 (za0 (za8 (K:=K) rfl (pq 0) (pq 2)) za1)))) zb8)
   (za5 (za9 (zf4 (N:=["sent","field_dues","behind","count"]) (ks:=[none,some 0,some 1,some 2]) (zn9 N.range_ (za0 (zb5 oAdd (pq 2) za2) za1)) (fun cl C s3 H3 fp=>(za7 (i:=0) nb_13 rfl (by first|exact Or.inl rfl|exact Or.inr rfl))) (fun cl C s3 H3 fp=>zc7) (fun cl C s3 H3 fp=>(zb5 oAdd (za8 (K:=K) rfl (pq 1) (pq 0)) (za8 (K:=K) rfl (pq 2) (zb5 oSub (pq 3) (pq 0))))) (.skip (.take rfl rfl (by first|exact Or.inl rfl|exact Or.inr rfl) (.take rfl rfl (by first|exact Or.inl rfl|exact Or.inr rfl) (.take rfl rfl (by first|exact Or.inl rfl|exact Or.inr rfl) .nil)))))))),?_⟩
 rcases h with ⟨rfl,rfl⟩|⟨b,t,rfl,hb,rfl⟩
 ·walk_at "wh"
  first|refine br_T ?_|refine zr3 rfl ?_
  refine zb0 (v:=.int (d c)) ha (zc5 (zg1 hc)) ?_
  refine zc4 (fun r H1 f1 s1 h1=>?_)
  walk_at "wh"
  exact q r H1 f1 s1 h1
 ·walk_at "wh"
  first|refine br_F ?_|refine zq7 (fun z=>by cases z) ?_
  refine zf2 (by walk_at "om") (by walk_at "om") (by walk_at "om") (by walk_at "om") ?_
  rw[show ((c:Int)+1 - 0).toNat=c+1 by walk_at "om"]
  refine zn6 (n:=c+1) Wk.range (by rw[sizeLine_eq];omega) (fun i=>.int (d i+t (c - i))) (fun _=>true) (fun j σ=>∃ t:Option V,σ=[t,some (.ref a),some (.ref b),some (.int c)]) ⟨none,rfl⟩ ?_ ?_
  ·rintro i x σ I R' S hi s1 hx ⟨_,rfl⟩ kk _
   obtain rfl:x=.int i:=by rw[hx,zcv6]
   refine br_T ?_
   refine zb0 (v:=.int (d i)) (s1 _ _ ha) (zc5 (zg1 (by walk_at "om"))) ?_
   refine zb0 (v:=.int (t (c - i))) (s1 _ _ hb) (by rw[show (c:Int) - (i:Int)=((c - i:Nat):Int) by walk_at "om"];exact zc5 (zg1 (by walk_at "om"))) ?_
   walk_at "wh"
   exact kk rfl _ _ (Same.refl _) ⟨_,rfl⟩
  intro acc H1 f1 s1 h1
  rw[ze4] at h1
  walk_at "wh"
  exact q acc H1 f1 s1 (by rw[h1,zcs9];rfl)
def zl4 (sd:Bool) (x y:Int):Bool:=if sd then decide (y<=x) else decide (x<=y)
theorem zag3 {sd:Bool}{x y:Int}:zl4 sd x y=true↔leS sd x y:=by
 unfold zl4 leS
 cases sd<;>simp
@[irreducible] def zq1:Sp:=fun vs H Q _=>∃ (sd:Bool) (x y:Int),vs=[.str (wd sd),.int x,.int y]/\Q (.bl (zl4 sd x y)) H
theorem zak8 {H:Hp}{sd:Bool}{x y:Int}{Q:VK}{E:XK}(q:Q (.bl (zl4 sd x y)) H):zq1 [.str (wd sd),.int x,.int y] H Q E:=by unfold zq1;exact⟨sd,x,y,rfl,q⟩
theorem zbt1 {f:Addr}{fd:FuncData}(F:Fun K "keeps" "keeps" zz0 f fd) (N:Nm mg):FnOk P w K mg base CX0 1 f fd ["side","number","bound"] zq1:=by
 refine F.ok zbr9 (fun vs H Q E h=>by unfold zq1 at h;obtain⟨_,_,_,rfl,_⟩:=h;rfl) (fun cdv A outer s H vs Q E hr h=>?_)
 unfold zq1 at h
 obtain⟨sd,x,y,rfl,q⟩:=h
 have hu:=hu40 hr
 refine⟨_,(za5 (za9 (peIf (ptC (zak0 (K:=K) rfl (by exact hu)) (pq 0) zd1) (peC oLe (pq 1) (pq 2)) (peC oGe (pq 1) (pq 2))))),?_⟩
 cases sd
 ·walk_at "wh"
  refine zr3 rfl ?_
  walk_at "wh"
  exact q
 ·walk_at "wh"
  refine zq7 (by decide) ?_
  walk_at "wh"
  exact q
@[irreducible] def zj7:Sp:=fun vs H Q _=>∃ (st:Addr) (rs:List (Addr×List Addr)) (xss:List (List (Int×Int×Int))),vs=[.ref st]/\StW H st rs xss/\1<=xss.length/\(xss.getD 0 []).length<=1000/\∀ H',Same H H'->Q (.int ((xss.getD 0 []).map fun z=>z.2.2).sum) H'
theorem zav9 {H:Hp}{st:Addr}{rs:List (Addr×List Addr)}{xss:List (List (Int×Int×Int))}{Q:VK}{E:XK}(S:StW H st rs xss) (h1:1<=xss.length) (hl:(xss.getD 0 []).length<=1000) (q:∀ H',Same H H'->Q (.int ((xss.getD 0 []).map fun z=>z.2.2).sum) H'):zj7 [.ref st] H Q E:=by unfold zj7;exact⟨st,rs,xss,rfl,S,h1,hl,q⟩
theorem zau2 {xs:List (Int×Int×Int)}{k:Nat}(hk:k=xs.length):((List.range k).map fun i=>V.int (xs.getD i (0,0,0)).2.2)=(xs.map fun z=>z.2.2).map V.int:=by
 subst hk
 apply zcu7
 intro i
 rw[zcp5,zcp5,zcp5]
 by_cases h:i<xs.length
 ·rw[zct8 h,zcp1 h]
  simp[h]
 ·rw[zcs1 (by simp;omega),zcs1 (by walk_at "om")]
  rfl
theorem zaw5 {f:Addr}{fd:FuncData}(F:Fun K "whole_in" "whole_in" zo7 f fd) (N:Nm mg):FnOk P w K mg base CX0 1 f fd ["stream"] zj7:=by
 refine F.ok zax9 (fun vs H Q E h=>by unfold zj7 at h;obtain⟨_,_,_,rfl,_⟩:=h;rfl) (fun cdv A outer s H vs Q E hr h=>?_)
 unfold zj7 at h
 obtain⟨st,rs,xss,rfl,S,h1,hl,q⟩:=h
 have hu:=hu40 hr
 have sl:=S.len
 obtain⟨r,er⟩:∃ r,rs[0]?=some r:=⟨_,zcp1 (by walk_at "om")⟩
 obtain⟨xs,ex⟩:∃ r,xss[0]?=some r:=⟨_,zcp1 (by walk_at "om")⟩
 rw[show xss.getD 0 []=xs by rw[zcp6,ex];rfl] at hl q
 have R:=S.row 0 r xs er ex
 have rl:=R.len
 refine⟨_,(za5 (za9 (pB (zbq8 (K:=K) rfl rfl) N.sum_ zao7 (za0 (zf4 (N:=["left","sent","flow"]) (ks:=[none,none,none]) (zi0 (K:=K) rfl (za8 (K:=K) rfl (pq 0) za2)) (fun cl C s3 H3 fp=>(zl5 (K:=K) (n:=3) rfl rfl (zb6 (za7 (i:=0) nb_9 rfl (by first|exact Or.inl rfl|exact Or.inr rfl)) (zb6 (za7 (i:=1) nb_9 rfl (by first|exact Or.inl rfl|exact Or.inr rfl)) (zb6 (za7 (i:=2) nb_9 rfl (by first|exact Or.inl rfl|exact Or.inr rfl)) zl6))))) (fun cl C s3 H3 fp=>zc7) (fun cl C s3 H3 fp=>(pq 2)) (.skip (.skip (.skip .nil)))) za1)))),?_⟩
 refine zb0 (v:=.ref r.1) S.out (zc5 (j:=0) (by rw[zcp5,er];rfl)) ?_
 refine zc6 R.out ?_
 refine zn6 (Wk.list (SqL.of R.out)) (by rw[zcp2,sizeLine_eq];omega) (fun i=>.int (xs.getD i (0,0,0)).2.2) (fun _=>true) (fun j σ=>∃ t u w:Option V,σ=[t,u,w]) ⟨none,none,none,rfl⟩ ?_ ?_
 ·rintro i x σ I R' S' hi s1 hx ⟨_,_,_,rfl⟩ kk _
  rw[zcp5] at hx
  obtain⟨t,et,rfl⟩:=zcp7.mp hx
  obtain⟨z,ez⟩:∃ z,xs[i]?=some z:=⟨_,zcp1 (by have:=(zcp4.mp et).1;omega)⟩
  rw[show xs.getD i (0,0,0)=z by rw[zcp6,ez];rfl] at kk
  refine ze3 (s1 _ _ (R.row i t z et ez)) ?_
  refine br_T ?_
  walk_at "wh"
  exact kk rfl _ _ (Same.refl _) ⟨_,_,_,rfl⟩
 intro acc H1 f1 s1 h1
 rw[ze4,zau2 (by rw[zcp2];exact rl)] at h1
 refine zao8 h1 ?_
 walk_at "wh"
 exact q _ s1
structure PapS (H:Hp) (p st tb:Addr) (rs:List (Addr×List Addr)) (xss:List (List (Int×Int×Int))) (qs:List Addr) (F k:Nat) (T:Nat->Nat->Int):Prop where
 out:H p=some (.tup [.ref st,.ref tb])
 stm:StW H st rs xss
 tab:zf1 H tb qs F k T
theorem PapS.same {H H':Hp}{p st tb:Addr}{rs:List (Addr×List Addr)}{xss:List (List (Int×Int×Int))}{qs:List Addr}{F k:Nat}{T:Nat->Nat->Int}(A:PapS H p st tb rs xss qs F k T) (s:Same H H'):PapS H' p st tb rs xss qs F k T:=⟨s _ _ A.out,A.stm.same s,A.tab.same s⟩
theorem zay3 {H:Hp}{a:Addr}{ps:List Addr}{n k:Nat}{g:Nat->Nat->Int}(G:zf1 H a ps n k g):zv2 H a ps ((List.range n).map fun i=>(List.range k).map (g i)):=by
 refine⟨G.out,by rw[zcp2,zcr3];exact G.len,fun i p z e1 e2=>?_⟩
 rw[zcp5] at e2
 obtain⟨j,ej,rfl⟩:=zcp7.mp e2
 have:j=i:=by have:=(zcp4.mp ej).2;rw[List.getElem_range] at this;exact this.symm
 subst this
 rw[← zar2]
 exact G.row j p e1
@[irreducible] def zf6:Sp:=fun vs H Q _=>∃ (b l p st tb:Addr) (ps:List Addr) (n m:Nat) (sd:Bool) (fs:List Fd) (rs:List (Addr×List Addr)) (xss:List (List (Int×Int×Int))) (qs:List Addr) (T:Nat->Nat->Int),vs=[.ref b,.str (wd sd),.ref p]/\zi9 H b l ps n m fs/\OkB n m fs/\PapS H p st tb rs xss qs fs.length (othH sd n m+1) T/\zr9 (ownH sd n m) fs.length (stmD xss)=true/\sml (stmD xss)=true/\∀ H',Same H H'->Q .non H'
theorem zao6 {H:Hp}{b l p st tb:Addr}{ps:List Addr}{n m:Nat}{sd:Bool}{fs:List Fd}{rs:List (Addr×List Addr)}{xss:List (List (Int×Int×Int))}{qs:List Addr}{T:Nat->Nat->Int}{Q:VK}{E:XK}(B:zi9 H b l ps n m fs) (O:OkB n m fs) (A:PapS H p st tb rs xss qs fs.length (othH sd n m+1) T) (hs:zr9 (ownH sd n m) fs.length (stmD xss)=true) (hm:sml (stmD xss)=true) (q:∀ H',Same H H'->Q .non H'):zf6 [.ref b,.str (wd sd),.ref p] H Q E:=by
 unfold zf6;exact⟨b,l,p,st,tb,ps,n,m,sd,fs,rs,xss,qs,T,rfl,B,O,A,hs,hm,q⟩
theorem zam1 {f:Addr}{fd:FuncData}(F:Fun K "wrong_form" "wrong_form" zk3 f fd) (N:Nm mg) (zcm3:Def P w K mg base CX0 7 "is_stream" ["hosts","fields","stream"] zh8) (zck2:Def P w K mg base CX0 3 "is_table" ["many_rows","many_numbers","rows"] zh5) (zcj4:Def P w K mg base CX0 1 "other_hosts" ["battle","side"] zd3) (zcm4:Def P w K mg base CX0 1 "own_hosts" ["battle","side"] zh9):FnOk P w K mg base CX0 8 f fd ["battle","side","paper"] zf6:=by
 refine F.ok zw6 (fun vs H Q E h=>by unfold zf6 at h;obtain⟨_,_,_,_,_,_,_,_,_,_,_,_,_,_,rfl,_⟩:=h;rfl) (fun cdv A outer s H vs Q E hr h=>?_)
 unfold zf6 at h
 obtain⟨b,l,p,st,tb,ps,n,m,sd,fs,rs,xss,qs,T,rfl,B,O,PA,hs,hm,q⟩:=h
 have hu:=hu40 hr
 have bl:=B.len
 have o2:=O.2
 obtain⟨ho,hw⟩:=zac7 O sd
 refine⟨_,(za4 (psS (i:=3) zw6.nd (pB (zq4 (K:=K) rfl) N.len_ zj5 (za0 (za8 (K:=K) rfl (pq 0) za2) za1)))
   (za4 (psIf (ptW (pwOr (zp9 (ptV (pB (zaf1 (K:=K) rfl) N.isinstance_ zb9 (za0 (pq 2) (za0 (pTy N.tuple_ zx1) za1))))) (zz7 (ptC (zaw4 (K:=K) rfl (by exact hu)) (pB (zq4 (K:=K) rfl) N.len_ zj5 (za0 (pq 2) za1)) za2)))) (za5 (za9 (zn8 (za0 zd1 za1)))) zb8)
   (za4 (psIf (zp9 (ptV (pD zcm3 hr zb7 (za0 (pD zcm4 hr zb7 (za0 (pq 0) (za0 (pq 1) za1))) (za0 (pq 3) (za0 (za8 (K:=K) rfl (pq 2) za2) za1)))))) (za5 (za9 (zn8 (za0 zd1 za1)))) zb8)
   (za4 (psIf (zp9 (ptV (pD zck2 hr zb7 (za0 (pq 3) (za0 (zb5 oAdd (pD zcj4 hr zb7 (za0 (pq 0) (za0 (pq 1) za1))) za2) (za0 (za8 (K:=K) rfl (pq 2) za2) za1)))))) (za5 (za9 (zn8 (za0 zd1 za1)))) zb8)
   (za5 (za9 zv0)))))),?_⟩
 refine zb1 (v:=.ref l) B.out rfl ?_
 refine zh3 B.lst ?_
 rw[zcp2,bl]
 refine zad0 PA.out ?_
 refine zd2 (br_T ?_)
 refine zp4 PA.out ?_
 refine zd2 (zr3 rfl ?_)
 refine zau6 B.out ?_
 refine zb1 (v:=.ref st) PA.out rfl ?_
 refine zbg7 PA.stm.sh hm (fun H1 s1=>?_)
 rw[hs]
 refine zd2 (br_T ?_)
 refine zq9 (s1 _ _ B.out) ?_
 refine zb1 (v:=.ref tb) (s1 _ _ PA.out) rfl ?_
 refine zaf5 (zay3 (PA.tab.same s1)) (by rw[zcp2,zcr3];omega) (fun r hr'=>by
  obtain⟨i,_,rfl⟩:=zcr9.mp hr'
  rw[zcp2,zcr3];omega) (fun H2 s2=>?_)
 have e:(decide ((((List.range fs.length).map fun i=>(List.range (othH sd n m+1)).map (T i)).length:Int)=(fs.length:Int))&&((List.range fs.length).map fun i=>(List.range (othH sd n m+1)).map (T i)).all fun r=>decide ((r.length:Int)=(othH sd n m:Int)+1))=true:=by
  rw[zcp2,zcr3,decide_eq_true rfl,zcu8,zcs6]
  intro r hr'
  obtain⟨i,_,rfl⟩:=zcr9.mp hr'
  rw[zcp2,zcr3]
  exact decide_eq_true (by push_cast;rfl)
 rw[e]
 refine zd2 (br_T ?_)
 walk_at "wh"
 exact q _ (s1.trans s2)
def bndS (D T:Nat->Nat->Int) (F k c:Nat):List Int:=if k+1<F then (List.range (c+1)).map fun s=>D k s+T (k+1) (c - s) else [D k c]
@[irreducible] def ze0:Sp:=fun vs H Q _=>∃ (b l p st tb:Addr) (ps:List Addr) (n m:Nat) (sd:Bool) (fs:List Fd) (rs:List (Addr×List Addr)) (xss:List (List (Int×Int×Int))) (qs:List Addr) (T:Nat->Nat->Int),vs=[.ref b,.str (wd sd),.ref p]/\zi9 H b l ps n m fs/\OkB n m fs/\(∀ f∈fs,f.Bd n m)/\PapS H p st tb rs xss qs fs.length (othH sd n m+1) T/\xss.length=fs.length/\(∀ xs∈xss,zu6 (ownH sd n m) xs)/\(∀ k c,k<fs.length->c<=othH sd n m->∀ x∈bndS (fun k=>dueS sd (fs.getD k (.more 0 0)) (xss.getD k [])) T fs.length k c,zl4 sd (T k c) x=true)/\∀ H',Same H H'->Q .non H'
theorem zag6 {H:Hp}{b l p st tb:Addr}{ps:List Addr}{n m:Nat}{sd:Bool}{fs:List Fd}{rs:List (Addr×List Addr)}{xss:List (List (Int×Int×Int))}{qs:List Addr}{T:Nat->Nat->Int}{Q:VK}{E:XK}(B:zi9 H b l ps n m fs) (O:OkB n m fs) (D:∀ f∈fs,f.Bd n m) (A:PapS H p st tb rs xss qs fs.length (othH sd n m+1) T) (hl:xss.length=fs.length) (ok:∀ xs∈xss,zu6 (ownH sd n m) xs) (hb:∀ k c,k<fs.length->c<=othH sd n m->∀ x∈bndS (fun k=>dueS sd (fs.getD k (.more 0 0)) (xss.getD k [])) T fs.length k c,zl4 sd (T k c) x=true) (q:∀ H',Same H H'->Q .non H'):ze0 [.ref b,.str (wd sd),.ref p] H Q E:=by
 unfold ze0;exact⟨b,l,p,st,tb,ps,n,m,sd,fs,rs,xss,qs,T,rfl,B,O,D,A,hl,ok,hb,q⟩
theorem zau1 {sd:Bool}{t:Int}{ns:List Int}{k:Nat}(hk:k=ns.length):((List.range k).map fun i=>V.bl (zl4 sd t (ns.getD i 0)))=(ns.map (zl4 sd t)).map V.bl:=by
 subst hk
 apply zcu7
 intro i
 rw[zcp5,zcp5,zcp5]
 by_cases h:i<ns.length
 ·rw[zct8 h,zcp1 h]
  simp[h]
 ·rw[zcs1 (by simp;omega),zcs1 (by walk_at "om")]
  rfl
set_option maxHeartbeats 0 in
theorem zag4 {f:Addr}{fd:FuncData}(F:Fun K "wrong_number" "wrong_number" zg8 f fd) (N:Nm mg) (zcn8:Def P w K mg base CX0 1 "bounds" ["field_dues","behind","count"] zl2) (zco7:Def P w K mg base CX0 4 "dues" ["battle","side","stream"] zv8) (zcn3:Def P w K mg base CX0 1 "keeps" ["side","number","bound"] zq1):FnOk P w K mg base CX0 5 f fd ["battle","side","paper"] ze0:=by
 refine F.ok zd9 (fun vs H Q E h=>by unfold ze0 at h;obtain⟨_,_,_,_,_,_,_,_,_,_,_,_,_,_,rfl,_⟩:=h;rfl) (fun cdv A outer s H vs Q E hr h=>?_)
 unfold ze0 at h
 obtain⟨b,l,p,st,tb,ps,n,m,sd,fs,rs,xss,qs,T,rfl,B,O,D,PA,hl,ok,hb,q⟩:=h
 have hu:=hu40 hr
 have o2:=O.2
 obtain⟨ho,hw⟩:=zac7 O sd
 have tl:=PA.tab.len
 refine⟨_,(za4 (psS (i:=3) zd9.nd (za8 (K:=K) rfl (pq 2) za2))
   (za4 (zu5 PassesOwn.never rfl (zax1 (K:=K) rfl N.enumerate_ (za0 (pD zco7 hr zb7 (za0 (pq 0) (za0 (pq 1) (za0 (za8 (K:=K) rfl (pq 2) za2) za1)))) za1)) (zl5 (K:=K) (n:=2) rfl rfl (zb6 (za7 (i:=4) zd9.nd rfl (by first|exact Or.inl rfl|exact Or.inr rfl)) (zb6 (za7 (i:=5) zd9.nd rfl (by first|exact Or.inl rfl|exact Or.inr rfl)) zl6))) (za4 (psS (i:=6) zd9.nd (peIf (ptC (oLtX (by exact hu)) (zb5 oAdd (pq 4) za2) (pB (zq4 (K:=K) rfl) N.len_ zj5 (za0 (pq 3) za1))) (za8 (K:=K) rfl (pq 3) (zb5 oAdd (pq 4) za2)) zv0))
   (za5 (zu5 PassesOwn.never rfl (zax1 (K:=K) rfl N.enumerate_ (za0 (za8 (K:=K) rfl (pq 3) (pq 4)) za1)) (zl5 (K:=K) (n:=2) rfl rfl (zb6 (za7 (i:=7) zd9.nd rfl (by first|exact Or.inl rfl|exact Or.inr rfl)) (zb6 (za7 (i:=8) zd9.nd rfl (by first|exact Or.inl rfl|exact Or.inr rfl)) zl6))) (za5 (psIf (zp9 (ptV (pB (zam9 (K:=K) rfl rfl) N.all_ zx0 (za0 (zf4 (N:=["bound","side","number"]) (ks:=[none,some 1,some 8]) (zi0 (K:=K) rfl (pD zcn8 hr zb7 (za0 (pq 5) (za0 (pq 6) (za0 (pq 7) za1))))) (fun cl C s3 H3 fp=>(za7 (i:=0) nb_14 rfl (by first|exact Or.inl rfl|exact Or.inr rfl))) (fun cl C s3 H3 fp=>zc7) (fun cl C s3 H3 fp=>(pD zcn3 hr zb7 (za0 (pq 1) (za0 (pq 2) (za0 (pq 0) za1))))) (.skip (.take rfl rfl (by first|exact Or.inl rfl|exact Or.inr rfl) (.take rfl rfl (by first|exact Or.inl rfl|exact Or.inr rfl) .nil)))) za1)))) (za5 (za9 (zn8 (za0 zd1 (za0 (pq 4) (za0 (pq 7) za1)))))) zb8))))))
   (za5 (za9 zv0)))),?_⟩
 refine zb1 (v:=.ref tb) PA.out rfl ?_
 refine zb1 (v:=.ref st) PA.out rfl ?_
 refine zcc1 B O D PA.stm hl ok (fun r gs H1 f1 s1 G1=>?_)
 have gl:=G1.len
 refine zae7 G1.out ?_
 refine zs7 (xs:=gs.map V.ref) (fun i σ I=>∃ y5 y6 y7 y8 y9:Option V,σ=[some (.ref b),some (.str (wd sd)),some (.ref p),some (.ref tb),y5,y6,y7,y8,y9]/\Same H1 I) ?_ ?_ ?_ ?_
 ·exact⟨_,_,_,_,_,rfl,Same.refl _⟩
 ·rintro i σ I _ ⟨_,_,_,_,_,_,sI⟩
  exact SqL.of (sI _ _ G1.out)
 ·rintro i y σ I e I' hy ⟨y5,y6,y7,y8,y9,rfl,sI⟩ fe sE he
  rw[zcp5] at hy
  obtain⟨g,eg,rfl⟩:=zcp7.mp hy
  have hi:i<fs.length:=by have:=(zcp4.mp eg).1;omega
  have s1I:=sI.trans sE
  have s0I:=s1.trans s1I
  have hg:=s1I _ _ (G1.row i g eg)
  have PI:=PA.same s0I
  obtain⟨t0,et0,ht0⟩:=PI.tab.some hi
  refine ze3 he ?_
  refine zh3 PI.tab.out ?_
  rw[zcp2,tl]
  walk_at "wh"
  have inner:∀ (bv:V) (Q1:St->Hp->Prop),(bv=.non/\¬ i+1<fs.length∨∃ t1:Addr,bv=.ref t1/\i+1<fs.length/\I' t1=some (.lst (rowV (othH sd n m+1) (T (i+1)))))->True:=fun _ _ _=>trivial
  refine zf5 (fun hl1=>?_) (fun hl1=>?_)
  ·have hi1:i+1<fs.length:=by walk_at "om"
   obtain⟨t1,et1,ht1⟩:=PI.tab.some hi1
   refine zb0 (v:=.ref t1) PI.tab.out (by rw[show (i:Int)+1=((i+1:Nat):Int) by walk_at "om"];exact zc5 (by rw[zcp5,et1];rfl)) ?_
   refine zb0 (v:=.ref t0) PI.tab.out (zc5 (by rw[zcp5,et0];rfl)) ?_
   refine zae7 ht0 ?_
   refine zs7 (xs:=rowV (othH sd n m+1) (T i)) (fun c σ J=>∃ y8 y9:Option V,σ=[some (.ref b),some (.str (wd sd)),some (.ref p),some (.ref tb),some (.int i),some (.ref g),some (.ref t1),y8,y9]/\Same I' J) ?_ ?_ ?_ ?_
   ·exact⟨_,_,rfl,Same.refl _⟩
   ·rintro c σ J _ ⟨_,_,_,sJ⟩
    exact SqL.of (sJ _ _ ht0)
   ·rintro c y σ J e2 J' hy ⟨y8,y9,rfl,sJ⟩ fe2 sE2 he2
    have hc:c<othH sd n m+1:=by have:=(zcp4.mp hy).1;rwa [zl1] at this
    rw[zg1 hc] at hy
    cases hy
    have sJ2:=sJ.trans sE2
    refine ze3 he2 ?_
    refine zbf1 (sJ2 _ _ hg) (sJ2 _ _ ht1) hc (by walk_at "om") (fun r3 J3 f3 s3 h3=>?_)
    refine zc6 h3 ?_
    refine zn6 (Wk.list (SqL.of h3)) (by rw[zcp2,zcp2,zcr3,sizeLine_eq];omega) (fun j=>.bl (zl4 sd (T i c) (((List.range (c+1)).map fun s=>dueS sd (fs.getD i (.more 0 0)) (xss.getD i []) s+T (i+1) (c - s)).getD j 0))) (fun _=>true) (fun j σ=>∃ t:Option V,σ=[t,some (.str (wd sd)),some (.int (T i c))]) ⟨none,rfl⟩ ?_ ?_
    ·rintro j x σ J4 R' S' hj s4 hx ⟨_,rfl⟩ kk _
     rw[zcp5] at hx
     obtain⟨bd,ebd,rfl⟩:=zcp7.mp hx
     rw[show ((List.range (c+1)).map fun s=>dueS sd (fs.getD i (.more 0 0)) (xss.getD i []) s+T (i+1) (c - s)).getD j 0=bd by rw[zcp6,ebd];rfl] at kk
     refine br_T ?_
     refine zak8 ?_
     walk_at "wh"
     exact kk rfl _ _ (Same.refl _) ⟨_,rfl⟩
    intro acc J5 f5 s5 h5
    rw[ze4,zau1 (by rw[zcp2])] at h5
    refine zv5 h5 ?_
    have all:(((List.range (c+1)).map fun s=>dueS sd (fs.getD i (.more 0 0)) (xss.getD i []) s+T (i+1) (c - s)).map (zl4 sd (T i c))).all id=true:=by
     rw[zcw4,zcs6]
     intro x hx
     exact hb i c hi (by walk_at "om") x (by unfold bndS;rw[if_pos hi1];exact hx)
    rw[all]
    refine zd2 (br_T ?_)
    walk_at "wh"
    exact⟨_,_,rfl,(sJ2.trans s3).trans s5⟩
   ·rintro σ J ⟨y8,y9,rfl,sJ⟩
    exact⟨_,_,_,_,_,rfl,s1I.trans sJ⟩
  ·have hi1:¬ i+1<fs.length:=by walk_at "om"
   refine zb0 (v:=.ref t0) PI.tab.out (zc5 (by rw[zcp5,et0];rfl)) ?_
   refine zae7 ht0 ?_
   refine zs7 (xs:=rowV (othH sd n m+1) (T i)) (fun c σ J=>∃ y8 y9:Option V,σ=[some (.ref b),some (.str (wd sd)),some (.ref p),some (.ref tb),some (.int i),some (.ref g),some .non,y8,y9]/\Same I' J) ?_ ?_ ?_ ?_
   ·exact⟨_,_,rfl,Same.refl _⟩
   ·rintro c σ J _ ⟨_,_,_,sJ⟩
    exact SqL.of (sJ _ _ ht0)
   ·rintro c y σ J e2 J' hy ⟨y8,y9,rfl,sJ⟩ fe2 sE2 he2
    have hc:c<othH sd n m+1:=by have:=(zcp4.mp hy).1;rwa [zl1] at this
    rw[zg1 hc] at hy
    cases hy
    have sJ2:=sJ.trans sE2
    refine ze3 he2 ?_
    refine zbg8 (sJ2 _ _ hg) hc (by walk_at "om") (fun r3 J3 f3 s3 h3=>?_)
    refine zc6 h3 ?_
    refine zn6 (Wk.list (SqL.of h3)) (by rw[sizeLine_eq];simp only[zcs0,List.map_nil,zcr8,zcu4];decide) (fun j=>.bl (zl4 sd (T i c) ([dueS sd (fs.getD i (.more 0 0)) (xss.getD i []) c].getD j 0))) (fun _=>true) (fun j σ=>∃ t:Option V,σ=[t,some (.str (wd sd)),some (.int (T i c))]) ⟨none,rfl⟩ ?_ ?_
    ·rintro j x σ J4 R' S' hj s4 hx ⟨_,rfl⟩ kk _
     rw[zcp5] at hx
     obtain⟨bd,ebd,rfl⟩:=zcp7.mp hx
     rw[show [dueS sd (fs.getD i (.more 0 0)) (xss.getD i []) c].getD j 0=bd by rw[zcp6,ebd];rfl] at kk
     refine br_T ?_
     refine zak8 ?_
     walk_at "wh"
     exact kk rfl _ _ (Same.refl _) ⟨_,rfl⟩
    intro acc J5 f5 s5 h5
    rw[ze4,zau1 (by rw[zcp2])] at h5
    refine zv5 h5 ?_
    have all:([dueS sd (fs.getD i (.more 0 0)) (xss.getD i []) c].map (zl4 sd (T i c))).all id=true:=by
     rw[zcw4,zcs6]
     intro x hx
     exact hb i c hi (by walk_at "om") x (by unfold bndS;rw[if_neg hi1];exact hx)
    rw[all]
    refine zd2 (br_T ?_)
    walk_at "wh"
    exact⟨_,_,rfl,(sJ2.trans s3).trans s5⟩
   ·rintro σ J ⟨y8,y9,rfl,sJ⟩
    exact⟨_,_,_,_,_,rfl,s1I.trans sJ⟩
 ·rintro σ I ⟨y5,y6,y7,y8,y9,rfl,sI⟩
  walk_at "wh"
  exact q _ (s1.trans sI)
@[irreducible] def ze7:Sp:=fun vs H Q _=>∃ (b l p st tb w:Addr) (ps:List Addr) (n m:Nat) (sd:Bool) (fs:List Fd) (rs:List (Addr×List Addr)) (xss:List (List (Int×Int×Int))) (qs:List Addr) (T:Nat->Nat->Int) (w0 w1:Int),vs=[.ref b,.str (wd sd),.ref w,.ref p]/\zi9 H b l ps n m fs/\OkB n m fs/\PapS H p st tb rs xss qs fs.length (othH sd n m+1) T/\xss.length=fs.length/\(xss.getD 0 []).length<=1000/\H w=some (.tup [.int w0,.int w1])/\(-(10 ^ 200)<w0/\w0<10 ^ 200)/\(-(10 ^ 200)<w1/\w1<10 ^ 200)/\(-(10 ^ 200)<T 0 (othH sd n m)/\T 0 (othH sd n m)<10 ^ 200)/\(-(10 ^ 200)<((xss.getD 0 []).map fun z=>z.2.2).sum/\((xss.getD 0 []).map fun z=>z.2.2).sum<10 ^ 200) /\
 (zl4 sd (w0*((xss.getD 0 []).map fun z=>z.2.2).sum) (T 0 (othH sd n m)*w1)=true->∀ H',Same H H'->Q .non H')/\(zl4 sd (w0*((xss.getD 0 []).map fun z=>z.2.2).sum) (T 0 (othH sd n m)*w1)=false->∀ r H',H r=none->Same H H'->H' r=some (.tup [.str "worth"])->Q (.ref r) H')
theorem zah7 {H:Hp}{b l p st tb w:Addr}{ps:List Addr}{n m:Nat}{sd:Bool}{fs:List Fd}{rs:List (Addr×List Addr)}{xss:List (List (Int×Int×Int))}{qs:List Addr}{T:Nat->Nat->Int}{w0 w1:Int}{Q:VK}{E:XK}(B:zi9 H b l ps n m fs) (O:OkB n m fs) (A:PapS H p st tb rs xss qs fs.length (othH sd n m+1) T) (hl:xss.length=fs.length) (h0:(xss.getD 0 []).length<=1000) (hw:H w=some (.tup [.int w0,.int w1])) (b0:-(10 ^ 200)<w0/\w0<10 ^ 200) (b1:-(10 ^ 200)<w1/\w1<10 ^ 200) (b2:-(10 ^ 200)<T 0 (othH sd n m)/\T 0 (othH sd n m)<10 ^ 200) (b3:-(10 ^ 200)<((xss.getD 0 []).map fun z=>z.2.2).sum/\((xss.getD 0 []).map fun z=>z.2.2).sum<10 ^ 200) (q1:zl4 sd (w0*((xss.getD 0 []).map fun z=>z.2.2).sum) (T 0 (othH sd n m)*w1)=true->∀ H',Same H H'->Q .non H') (q2:zl4 sd (w0*((xss.getD 0 []).map fun z=>z.2.2).sum) (T 0 (othH sd n m)*w1)=false->∀ r H',H r=none->Same H H'->H' r=some (.tup [.str "worth"])->Q (.ref r) H'):ze7 [.ref b,.str (wd sd),.ref w,.ref p] H Q E:=by
 unfold ze7;exact⟨b,l,p,st,tb,w,ps,n,m,sd,fs,rs,xss,qs,T,w0,w1,rfl,B,O,A,hl,h0,hw,b0,b1,b2,b3,q1,q2⟩
set_option maxHeartbeats 0 in
theorem zah6 {f:Addr}{fd:FuncData}(F:Fun K "wrong_worth" "wrong_worth" zi3 f fd) (N:Nm mg) (zcn3:Def P w K mg base CX0 1 "keeps" ["side","number","bound"] zq1) (zcj4:Def P w K mg base CX0 1 "other_hosts" ["battle","side"] zd3) (zcn4:Def P w K mg base CX0 1 "whole_in" ["stream"] zj7):FnOk P w K mg base CX0 2 f fd ["battle","side","worth","paper"] ze7:=by
 refine F.ok zv7 (fun vs H Q E h=>by unfold ze7 at h;obtain⟨_,_,_,_,_,_,_,_,_,_,_,_,_,_,_,_,_,rfl,_⟩:=h;rfl) (fun cdv A outer s H vs Q E hr h=>?_)
 unfold ze7 at h
 obtain⟨b,l,p,st,tb,w,ps,n,m,sd,fs,rs,xss,qs,T,w0,w1,rfl,B,O,PA,hl,h0,hw,b0,b1,b2,b3,q1,q2⟩:=h
 have hu:=hu40 hr
 have o2:=O.2
 obtain⟨t0,et0,ht0⟩:=PA.tab.some (i:=0) (by walk_at "om")
 refine⟨_,(za4 (psS (i:=4) zv7.nd (za8 (K:=K) rfl (za8 (K:=K) rfl (za8 (K:=K) rfl (pq 3) za2) za2) (pD zcj4 hr zb7 (za0 (pq 0) (za0 (pq 1) za1)))))
   (za4 (psIf (ptV (pD zcn3 hr zb7 (za0 (pq 1) (za0 (zb5 oMul (za8 (K:=K) rfl (pq 2) za2) (pD zcn4 hr zb7 (za0 (za8 (K:=K) rfl (pq 3) za2) za1))) (za0 (zb5 oMul (pq 4) (za8 (K:=K) rfl (pq 2) za2)) za1))))) (za5 (za9 zv0)) zb8)
   (za5 (za9 (zn8 (za0 zd1 za1)))))),?_⟩
 refine zb1 (v:=.ref tb) PA.out rfl ?_
 refine zb0 (v:=.ref t0) PA.tab.out (zc5 (j:=0) (by rw[zcp5,et0];rfl)) ?_
 refine zq9 B.out ?_
 refine zb0 (v:=.int (T 0 (othH sd n m))) ht0 (zc5 (zg1 (by walk_at "om"))) ?_
 refine zb1 (v:=.int w0) hw rfl ?_
 refine zb1 (v:=.ref st) PA.out rfl ?_
 refine zav9 PA.stm (by walk_at "om") h0 (fun H1 s1=>?_)
 refine zv1 (zr8 (by walk_at "om") (by walk_at "om") (by walk_at "om") (by walk_at "om")) ?_
 refine zb1 (v:=.int w1) (s1 _ _ hw) rfl ?_
 refine zv1 (zr8 (by walk_at "om") (by walk_at "om") (by walk_at "om") (by walk_at "om")) ?_
 refine zak8 ?_
 cases ek:zl4 sd (w0*((xss.getD 0 []).map fun z=>z.2.2).sum) (T 0 (othH sd n m)*w1)
 ·walk_at "wh"
  refine br_F ?_
  refine zd6 (fun r H2 f2 s2 h2=>?_)
  walk_at "wh"
  exact q2 ek r H2 (s1.free f2) (s1.trans s2) h2
 ·walk_at "wh"
  refine br_T ?_
  walk_at "wh"
  exact q1 ek _ s1
@[irreducible] def zg3 (zci6 zci7:Addr):Sp:=fun vs H Q E=>∃ (b w:Addr) (x:Str) (v:V),vs=[.ref b,.str x,.ref w,v] /\
 ((∃ j:Int,BadB H b j/\∀ d H',H d=none->Same H H'->H' d=some (.xd [("field",.int j)])->E (.ref zci6) (some d) H') ∨
  (∃ (l:Addr) (ps:List Addr) (n m:Nat) (fs:List Fd),zi9 H b l ps n m fs/\OkB n m fs/\x≠"first"/\x≠"second"/\∀ H',Same H H'->E (.ref zci7) none H') ∨
  ∃ (l p st tb:Addr) (ps:List Addr) (n m:Nat) (sd:Bool) (fs:List Fd) (rs:List (Addr×List Addr)) (xss:List (List (Int×Int×Int))) (qs:List Addr) (T:Nat->Nat->Int) (w0 w1:Int),x=wd sd/\v=.ref p/\zi9 H b l ps n m fs/\OkB n m fs/\(∀ f∈fs,f.Bd n m)/\PapS H p st tb rs xss qs fs.length (othH sd n m+1) T/\zr9 (ownH sd n m) fs.length (stmD xss)=true/\sml (stmD xss)=true/\xss.length=fs.length/\(∀ xs∈xss,zu6 (ownH sd n m) xs)/\(∀ k c,k<fs.length->c<=othH sd n m->∀ x∈bndS (fun k=>dueS sd (fs.getD k (.more 0 0)) (xss.getD k [])) T fs.length k c,zl4 sd (T k c) x=true) /\
   H w=some (.tup [.int w0,.int w1])/\(-(10 ^ 200)<w0/\w0<10 ^ 200)/\(-(10 ^ 200)<w1/\w1<10 ^ 200)/\(-(10 ^ 200)<T 0 (othH sd n m)/\T 0 (othH sd n m)<10 ^ 200)/\(-(10 ^ 200)<((xss.getD 0 []).map fun z=>z.2.2).sum/\((xss.getD 0 []).map fun z=>z.2.2).sum<10 ^ 200) /\
   (zl4 sd (w0*((xss.getD 0 []).map fun z=>z.2.2).sum) (T 0 (othH sd n m)*w1)=true->∀ H',Same H H'->Q .non H')/\(zl4 sd (w0*((xss.getD 0 []).map fun z=>z.2.2).sum) (T 0 (othH sd n m)*w1)=false->∀ r H',H r=none->Same H H'->H' r=some (.tup [.str "worth"])->Q (.ref r) H'))
theorem zak4 {zci6 zci7:Addr}{H:Hp}{b w:Addr}{x:Str}{v:V}{j:Int}{Q:VK}{E:XK}(B:BadB H b j) (q:∀ d H',H d=none->Same H H'->H' d=some (.xd [("field",.int j)])->E (.ref zci6) (some d) H'):zg3 zci6 zci7 [.ref b,.str x,.ref w,v] H Q E:=by
 unfold zg3;exact⟨b,w,x,v,rfl,.inl ⟨j,B,q⟩⟩
theorem zah0 {zci6 zci7:Addr}{H:Hp}{b w l:Addr}{ps:List Addr}{n m:Nat}{fs:List Fd}{x:Str}{v:V}{Q:VK}{E:XK}(B:zi9 H b l ps n m fs) (O:OkB n m fs) (h1:x≠"first") (h2:x≠"second") (q:∀ H',Same H H'->E (.ref zci7) none H'):zg3 zci6 zci7 [.ref b,.str x,.ref w,v] H Q E:=by
 unfold zg3;exact⟨b,w,x,v,rfl,.inr (.inl ⟨l,ps,n,m,fs,B,O,h1,h2,q⟩)⟩
theorem zav2 {zci6 zci7:Addr}{H:Hp}{b l p st tb w:Addr}{ps:List Addr}{n m:Nat}{sd:Bool}{fs:List Fd}{rs:List (Addr×List Addr)}{xss:List (List (Int×Int×Int))}{qs:List Addr}{T:Nat->Nat->Int}{w0 w1:Int}{Q:VK}{E:XK}(B:zi9 H b l ps n m fs) (O:OkB n m fs) (D:∀ f∈fs,f.Bd n m) (A:PapS H p st tb rs xss qs fs.length (othH sd n m+1) T) (hs:zr9 (ownH sd n m) fs.length (stmD xss)=true) (hm:sml (stmD xss)=true) (hl:xss.length=fs.length) (ok:∀ xs∈xss,zu6 (ownH sd n m) xs) (hb:∀ k c,k<fs.length->c<=othH sd n m->∀ x∈bndS (fun k=>dueS sd (fs.getD k (.more 0 0)) (xss.getD k [])) T fs.length k c,zl4 sd (T k c) x=true)
  (hw:H w=some (.tup [.int w0,.int w1])) (b0:-(10 ^ 200)<w0/\w0<10 ^ 200) (b1:-(10 ^ 200)<w1/\w1<10 ^ 200) (b2:-(10 ^ 200)<T 0 (othH sd n m)/\T 0 (othH sd n m)<10 ^ 200) (b3:-(10 ^ 200)<((xss.getD 0 []).map fun z=>z.2.2).sum/\((xss.getD 0 []).map fun z=>z.2.2).sum<10 ^ 200)
  (q1:zl4 sd (w0*((xss.getD 0 []).map fun z=>z.2.2).sum) (T 0 (othH sd n m)*w1)=true->∀ H',Same H H'->Q .non H') (q2:zl4 sd (w0*((xss.getD 0 []).map fun z=>z.2.2).sum) (T 0 (othH sd n m)*w1)=false->∀ r H',H r=none->Same H H'->H' r=some (.tup [.str "worth"])->Q (.ref r) H'):zg3 zci6 zci7 [.ref b,.str (wd sd),.ref w,.ref p] H Q E:=by
 unfold zg3;exact⟨b,w,wd sd,.ref p,rfl,.inr (.inr ⟨l,p,st,tb,ps,n,m,sd,fs,rs,xss,qs,T,w0,w1,rfl,rfl,B,O,D,A,hs,hm,hl,ok,hb,hw,b0,b1,b2,b3,q1,q2⟩)⟩
set_option maxHeartbeats 0 in
theorem zbl1 {f:Addr}{fd:FuncData}(F:Fun K "judged" "judged" zu1 f fd) (N:Nm mg) (zck8:Def P w K mg base (CXR P w) 6 "look_battle" ["battle"] (zd5 zci6)) (zcm5:Def P w K mg base (CXR P w) 1 "look_side" ["side"] (ze5 zci7)) (zcl4:Def P w K mg base CX0 8 "wrong_form" ["battle","side","paper"] zf6) (zck6:Def P w K mg base CX0 5 "wrong_number" ["battle","side","paper"] ze0) (zck9:Def P w K mg base CX0 2 "wrong_worth" ["battle","side","worth","paper"] ze7):FnOk P w K mg base (CXR P w) 9 f fd ["battle","side","worth","paper"] (zg3 zci6 zci7):=by
 refine F.okR zw5 (fun vs H Q E h=>by unfold zg3 at h;obtain⟨_,_,_,_,rfl,_⟩:=h;rfl) (fun cdv A outer s H vs Q E hr hX h=>?_)
 unfold zg3 at h
 obtain⟨b,w,x,v,rfl,h⟩:=h
 have hu:=hu40 hr
 refine⟨_,(za4 (zs0 (pD zck8 hr (passR hX) (za0 (pq 0) za1)))
   (za4 (zs0 (pD zcm5 hr (passR hX) (za0 (pq 1) za1)))
   (za4 (psS (i:=4) zw5.nd (pD zcl4 hr zb7 (za0 (pq 0) (za0 (pq 1) (za0 (pq 3) za1)))))
   (za4 (psCut (psIf (ptC oIsX (pq 4) zv0) (za5 (psS (i:=4) zw5.nd (pD zck6 hr zb7 (za0 (pq 0) (za0 (pq 1) (za0 (pq 3) za1)))))) zb8))
   (za4 (psCut (psIf (ptC oIsX (pq 4) zv0) (za5 (psS (i:=4) zw5.nd (pD zck9 hr zb7 (za0 (pq 0) (za0 (pq 1) (za0 (pq 2) (za0 (pq 3) za1))))))) zb8))
   (za5 (za9 (pq 4)))))))),?_⟩
 rcases h with ⟨j,B,q⟩|⟨l,ps,n,m,fs,B,O,h1,h2,q⟩|⟨l,p,st,tb,ps,n,m,sd,fs,rs,xss,qs,T,w0,w1,rfl,rfl,B,O,D,PA,hs,hm,hl,ok,hb,hw,b0,b1,b2,b3,q1,q2⟩
 ·walk_at "wh"
  exact zax3 B q
 ·walk_at "wh"
  refine zv3 B O (fun H1 s1=>?_)
  walk_at "wh"
  exact zac0 h1 h2 (fun H2 s2=>q _ (s1.trans s2))
 ·have o2:=O.2
  refine zv3 B O (fun H1 s1=>?_)
  refine zaq3 (fun H2 s2=>?_)
  have s02:=s1.trans s2
  refine zao6 (B.same s02) O (PA.same s02) hs hm (fun H3 s3=>?_)
  have s03:=s02.trans s3
  refine zca4 (fun σ J=>σ=[some (.ref b),some (.str (wd sd)),some (.ref w),some (.ref p),some .non]/\Same H J) ?_ ?_
  ·walk_at "wh"
   first|refine br_T ?_|refine zr3 rfl ?_
   refine zag6 (B.same s03) O D (PA.same s03) hl ok hb (fun H4 s4=>?_)
   walk_at "wh"
   exact⟨rfl,s03.trans s4⟩
  rintro σ H4 ⟨rfl,s04⟩
  refine zca4 (fun σ J=>(σ=[some (.ref b),some (.str (wd sd)),some (.ref w),some (.ref p),some .non]/\Q .non J)∨∃ r,σ=[some (.ref b),some (.str (wd sd)),some (.ref w),some (.ref p),some (.ref r)]/\Q (.ref r) J) ?_ ?_
  ·walk_at "wh"
   first|refine br_T ?_|refine zr3 rfl ?_
   refine zah7 (B.same s04) O (PA.same s04) hl (by
    obtain⟨x0,ex0⟩:∃ x,xss[0]?=some x:=⟨_,zcp1 (by walk_at "om")⟩
    rw[show xss.getD 0 []=x0 by rw[zcp6,ex0];rfl]
    exact (ok x0 (zcp9 ex0)).1) (s04 _ _ hw) b0 b1 b2 b3 (fun ek H5 s5=>?_) (fun ek r H5 f5 s5 h5=>?_)
   ·walk_at "wh"
    exact .inl ⟨rfl,q1 ek _ (s04.trans s5)⟩
   ·walk_at "wh"
    exact .inr ⟨r,rfl,q2 ek r _ (s04.free f5) (s04.trans s5) h5⟩
  rintro σ H5 (⟨rfl,q⟩|⟨r,rfl,q⟩)
  ·walk_at "wh"
   exact q
  ·walk_at "wh"
   exact q
def lg (t b:Int):Int:=if b<0 then 0 - (t.gcd b:Int) else (t.gcd b:Int)
def lowT (t b:Int):Int:=t.fdiv (lg t b)
def lowB (t b:Int):Int:=b.fdiv (lg t b)
theorem zbo9 {t b:Int}(h:b≠0):0<(t.gcd b:Int):=by
 have:0<t.gcd b:=Int.gcd_pos_of_ne_zero_right _ h
 omega
theorem gcd_le {t b:Int}(h:b≠0):(t.gcd b:Int)<=b.natAbs:=by
 have:=Int.gcd_le_natAbs_right t h
 omega
theorem zbd1 (t b:Int):lg t b∣t:=by
 unfold lg;split
 ·rw[Int.zero_sub];exact Int.neg_dvd.mpr (Int.gcd_dvd_left _ _)
 ·exact Int.gcd_dvd_left _ _
theorem zbb4 (t b:Int):lg t b∣b:=by
 unfold lg;split
 ·rw[Int.zero_sub];exact Int.neg_dvd.mpr (Int.gcd_dvd_right _ _)
 ·exact Int.gcd_dvd_right _ _
theorem zam0 (t b:Int):lowT t b=t / lg t b:=Int.fdiv_eq_ediv_of_dvd (zbd1 t b)
theorem zak6 (t b:Int):lowB t b=b / lg t b:=Int.fdiv_eq_ediv_of_dvd (zbb4 t b)
theorem zch7 (t b:Int):(lowT t b).natAbs<=t.natAbs:=by rw[zam0];exact Int.natAbs_ediv_le_natAbs _ _
theorem zcd5 (t b:Int):(lowB t b).natAbs<=b.natAbs:=by rw[zak6];exact Int.natAbs_ediv_le_natAbs _ _
theorem zak2 (t b:Int):b=lg t b*lowB t b:=by rw[zak6];exact (Int.mul_ediv_cancel' (zbb4 t b)).symm
theorem zan6 (t b:Int):t=lg t b*lowT t b:=by rw[zam0];exact (Int.mul_ediv_cancel' (zbd1 t b)).symm
theorem zbs6 {x y:Int}(hx:0<=x) (hy:0<y):y.gcd (x % y)=x.gcd y:=by
 rw[Int.gcd_eq_natAbs_gcd_natAbs,Int.gcd_eq_natAbs_gcd_natAbs,Int.natAbs_emod_of_nonneg hx]
 exact (Nat.gcd_comm _ _).trans ((Nat.gcd_rec _ _).symm.trans (Nat.gcd_comm _ _))
theorem zcd9 {x y:Int}(hx:0<=x) (hy:y=0):((x.gcd y:Nat):Int)=x:=by
 subst hy;rw[Int.gcd_zero_right];omega
@[irreducible] def ze6:Sp:=fun vs H Q _=>∃ t b:Int,vs=[.int t,.int b]/\0<b/\b<10 ^ 100/\∀ p H',H p=none->Same H H'->H' p=some (.tup [.int (lowT t b),.int (lowB t b)])->Q (.ref p) H'
theorem zbl5 {H:Hp}{t b:Int}{Q:VK}{E:XK}(h0:0<b) (h2:b<10 ^ 100) (q:∀ p H',H p=none->Same H H'->H' p=some (.tup [.int (lowT t b),.int (lowB t b)])->Q (.ref p) H'):ze6 [.int t,.int b] H Q E:=by
 unfold ze6;exact⟨t,b,rfl,h0,h2,q⟩
theorem zcf2 (t b:Int):b.gcd (t % b)=t.gcd b:=by
 have e:t % b=t+b*(-(t / b)):=by
  rw[Int.emod_def,Int.mul_neg];rfl
 rw[e,Int.gcd_add_mul_left_right,Int.gcd_comm]
theorem zah5 {f:Addr}{fd:FuncData}(F:Fun K "_law_lowest" "_law_lowest" zj0 f fd) (N:Nm mg):FnOk P w K mg base CX0 1 f fd ["_law_top","_law_bottom"] ze6:=by
 refine F.ok zn1 (fun vs H Q E h=>by unfold ze6 at h;obtain⟨n,k,rfl,_⟩:=h;rfl) (fun cdv A outer s H vs Q E hr h=>?_)
 unfold ze6 at h
 obtain⟨t,b,rfl,hb,hb2,q⟩:=h
 refine⟨_,(za4 (psS (i:=2) zn1.nd (pq 1))
   (za4 (psS (i:=3) zn1.nd (zb5 oMod (pq 0) (pq 1)))
   (za4 (zcd0 PassesOwn.never (ptC oGt (pq 3) za2) (za5 (psPar (i:=2) (j:=3) rfl zn1.nd rfl rfl (by decide) rfl rfl (za0 (pq 3) (za0 (zb5 oMod (pq 2) (pq 3)) za1)) rfl)))
   (za5 (za9 (zn8 (za0 (zb5 oDiv (pq 0) (pq 2)) (za0 (zb5 oDiv (pq 1) (pq 2)) za1)))))))),?_⟩
 refine zbo2 (by walk_at "om") ?_
 refine zbt2 (fun σ H2=>∃ x y:Int,σ=[some (.int t),some (.int b),some (.int x),some (.int y)]/\H2=H/\0<=x/\0<=y/\x.gcd y=t.gcd b) (fun σ _=>match σ with | [_,_,_,some (.int y)]=>y.toNat|_=>0) ?_ ?_
 ·exact⟨_,_,rfl,rfl,by walk_at "om",Int.emod_nonneg t (by walk_at "om"),zcf2 t b⟩
 ·rintro σ H2 ⟨x,y,rfl,rfl,hx,hy,hg⟩
  walk_at "wh"
  refine zce2 (fun h=>?_) (fun h=>?_)
  ·walk_at "wh"
   refine zbo2 (by walk_at "om") ?_
   walk_at "wh"
   have h1:=Int.emod_nonneg x (show y≠0 by walk_at "om")
   have h2:=Int.emod_lt_of_pos x h
   refine⟨⟨_,_,rfl,rfl,hy,h1,?_⟩,?_⟩
   ·rw[zbs6 hx h];exact hg
   ·show (x % y).toNat<y.toNat
    omega
  ·have hy0:y=0:=by walk_at "om"
   have e:x=(t.gcd b:Int):=by rw[← hg];exact (zcd9 hx hy0).symm
   have g1:=zbo9 (t:=t) (b:=b) (by walk_at "om")
   have g2:=gcd_le (t:=t) (b:=b) (by walk_at "om")
   have el:x=lg t b:=by unfold lg;rw[if_neg (by walk_at "om"),e]
   refine zbk5 (by walk_at "om") (by walk_at "om") (by walk_at "om") ?_
   refine zbk5 (by walk_at "om") (by walk_at "om") (by walk_at "om") ?_
   refine zd6 (fun p H' hf hs ha=>?_)
   rw[el] at ha
   exact q _ _ hf hs ha
def sdI (sd:Bool):Int:=if sd then 1 else 0
@[irreducible] def zh6:Sp:=fun vs H Q _=>∃ (b l st:Addr) (ps:List Addr) (n m:Nat) (sd:Bool) (fs:List Fd) (rs:List (Addr×List Addr)) (xss:List (List (Int×Int×Int))),vs=[.ref b,.int (sdI sd),.ref st]/\zi9 H b l ps n m fs/\OkB n m fs/\(∀ f∈fs,f.Bd n m)/\StW H st rs xss/\xss.length=fs.length/\(∀ xs∈xss,zu6 (ownH sd n m) xs)/\∀ (r:Addr) (qs:List Addr) (H':Hp),H r=none->Same H H'->zf1 H' r qs fs.length (othH sd n m+1) (fun k=>dueS sd (fs.getD k (.more 0 0)) (xss.getD k []))->Q (.ref r) H'
theorem zbv4 {H:Hp}{b l st:Addr}{ps:List Addr}{n m:Nat}{sd:Bool}{fs:List Fd}{rs:List (Addr×List Addr)}{xss:List (List (Int×Int×Int))}{Q:VK}{E:XK}(B:zi9 H b l ps n m fs) (O:OkB n m fs) (D:∀ f∈fs,f.Bd n m) (S:StW H st rs xss) (hl:xss.length=fs.length) (ok:∀ xs∈xss,zu6 (ownH sd n m) xs) (q:∀ (r:Addr) (qs:List Addr) (H':Hp),H r=none->Same H H'->zf1 H' r qs fs.length (othH sd n m+1) (fun k=>dueS sd (fs.getD k (.more 0 0)) (xss.getD k []))->Q (.ref r) H'):zh6 [.ref b,.int (sdI sd),.ref st] H Q E:=by
 unfold zh6;exact⟨b,l,st,ps,n,m,sd,fs,rs,xss,rfl,B,O,D,S,hl,ok,q⟩
theorem zar5 {xs:List (Int×Int×Int)}{sd:Bool}{f:Fd}{c i:Nat}{z:Int×Int×Int}(e:xs[i]?=some z):dueS sd f (xs.take (i+1)) c=dueS sd f (xs.take i) c+z.2.2*wonS sd f z.2.1.toNat c:=by
 unfold dueS
 rw[List.take_succ,e,zcr5,List.sum_append]
 simp
set_option maxHeartbeats 0 in
theorem zaq5 {f:Addr}{fd:FuncData}(F:Fun K "_law_dues" "_law_dues" zm5 f fd) (N:Nm mg) (zcm6:Def P w K mg base CX0 1 "_law_paid" ["_law_field","_law_x","_law_y"] zg9):FnOk P w K mg base CX0 2 f fd ["_law_battle_here","_law_side","_law_stream_here"] zh6:=by
 refine F.ok zd0 (fun vs H Q E h=>by unfold zh6 at h;obtain⟨_,_,_,_,_,_,_,_,_,_,rfl,_⟩:=h;rfl) (fun cdv A outer s H vs Q E hr h=>?_)
 unfold zh6 at h
 obtain⟨b,l,st,ps,n,m,sd,fs,rs,xss,rfl,B,O,D,S,hl,ok,q⟩:=h
 have hu:=hu40 hr
 have bl:=B.len
 have sl:=S.len
 have o1:=O.1
 have o2:=O.2
 obtain⟨ho,hw⟩:=zac7 O sd
 refine⟨_,(za4 (psS (i:=3) zd0.nd (zk1 za1))
   (za4 (zu5 PassesOwn.never rfl (zn9 N.range_ (za0 (pB (zq4 (K:=K) rfl) N.len_ zj5 (za0 (za8 (K:=K) rfl (pq 0) za2) za1)) za1)) (za7 (i:=4) zd0.nd rfl (by first|exact Or.inl rfl|exact Or.inr rfl)) (za4 (psS (i:=5) zd0.nd (zk1 za1))
   (za4 (zu5 PassesOwn.never rfl (zn9 N.range_ (za0 (zb5 oAdd (za8 (K:=K) rfl (zk1 (za0 (za8 (K:=K) rfl (pq 0) za2) (za0 (za8 (K:=K) rfl (pq 0) za2) za1))) (pq 1)) za2) za1)) (za7 (i:=6) zd0.nd rfl (by first|exact Or.inl rfl|exact Or.inr rfl)) (za4 (psS (i:=7) zd0.nd za2)
   (za4 (zu5 PassesOwn.never rfl (zi0 (K:=K) rfl (za8 (K:=K) rfl (pq 2) (pq 4))) (zl5 (K:=K) (n:=3) rfl rfl (zb6 (za7 (i:=8) zd0.nd rfl (by first|exact Or.inl rfl|exact Or.inr rfl)) (zb6 (za7 (i:=9) zd0.nd rfl (by first|exact Or.inl rfl|exact Or.inr rfl)) (zb6 (za7 (i:=10) zd0.nd rfl (by first|exact Or.inl rfl|exact Or.inr rfl)) zl6)))) (za4 (zbc0 (za8 (K:=K) rfl (zk1 (za0 (zn8 (za0 (pq 9) (za0 (pq 6) za1))) (za0 (zn8 (za0 (pq 6) (za0 (pq 9) za1))) za1))) (pq 1)) (zl5 (K:=K) (n:=2) rfl rfl (zb6 (za7 (i:=11) zd0.nd rfl (by first|exact Or.inl rfl|exact Or.inr rfl)) (zb6 (za7 (i:=12) zd0.nd rfl (by first|exact Or.inl rfl|exact Or.inr rfl)) zl6))))
   (za5 (psS (i:=7) zd0.nd (zb5 oAdd (pq 7) (zb5 oMul (pq 10) (pD zcm6 hr zb7 (za0 (za8 (K:=K) rfl (za8 (K:=K) rfl (pq 0) za2) (pq 4)) (za0 (pq 11) (za0 (pq 12) za1))))))))))
   (za5 (zs0 (zm7 (pq 5) (za0 (pq 7) za1)))))))
   (za5 (zs0 (zm7 (pq 3) (za0 (pq 5) za1)))))))
   (za5 (za9 (pq 3))))),?_⟩
 refine zc4 (fun fo H1 f1 s1 h1=>?_)
 refine zb1 (v:=.ref l) (s1 _ _ B.out) rfl ?_
 refine zh3 (s1 _ _ B.lst) ?_
 rw[zcp2,bl]
 refine zf2 (by decide) (by decide) (by walk_at "om") (by walk_at "om") ?_
 rw[show ((fs.length:Int) - 0).toNat=fs.length by walk_at "om"]
 refine zk7 (fun k σ I=>∃ (y5 y6 y7 y8 y9 y10 y11 y12 y13:Option V) (qs:List Addr),σ=[some (.ref b),some (.int (sdI sd)),some (.ref st),some (.ref fo),y5,y6,y7,y8,y9,y10,y11,y12,y13]/\Same H I/\I fo=some (.lst (qs.map V.ref))/\qs.length=k/\∀ (i:Nat) q',qs[i]?=some q'->q'≠fo/\I q'=some (.lst (rowV (othH sd n m+1) (dueS sd (fs.getD i (.more 0 0)) (xss.getD i []))))) ?_ ?_ ?_
 ·exact⟨_,_,_,_,_,_,_,_,_,[],rfl,s1,h1,rfl,fun i q' e=>by simp at e⟩
 ·rintro k σ I hk ⟨y5,y6,y7,y8,y9,y10,y11,y12,y13,qs,rfl,sI,hfo,ql,qr⟩
  have hk:k<fs.length:=hk
  obtain⟨f,ef⟩:∃ f,fs[k]?=some f:=⟨_,zcp1 hk⟩
  obtain⟨p,ep⟩:∃ p,ps[k]?=some p:=⟨_,zcp1 (by walk_at "om")⟩
  obtain⟨r,er⟩:∃ r,rs[k]?=some r:=⟨_,zcp1 (by walk_at "om")⟩
  obtain⟨xs,ex⟩:∃ r,xss[k]?=some r:=⟨_,zcp1 (by walk_at "om")⟩
  obtain⟨fdk,fok⟩:=B.fld k p f ep ef
  have fbd:=D f (zcp9 ef)
  have okx:=ok xs (zcp9 ex)
  have R:=S.row k r xs er ex
  have rl:=R.len
  have gk:fs.getD k (.more 0 0)=f:=by rw[zcp6,ef];rfl
  have gx:xss.getD k []=xs:=by rw[zcp6,ex];rfl
  refine zc4 (fun so H2 f2 s2 h2=>?_)
  have s02:=sI.trans s2
  have nso:so≠fo:=Ne.symm (za6 hfo f2)
  refine zb1 (v:=.int m) (s02 _ _ B.out) rfl ?_
  refine zb1 (v:=.int n) (s02 _ _ B.out) rfl ?_
  refine zc4 (fun p3 H3 f3 s3 h3=>?_)
  have s03:=s02.trans s3
  refine zb0 (v:=.int (othH sd n m)) h3 (by cases sd<;>rfl) ?_
  refine zf2 (by decide) (by decide) (by walk_at "om") (by walk_at "om") ?_
  rw[show ((othH sd n m:Int)+1 - 0).toNat=othH sd n m+1 by walk_at "om"]
  refine zk7 (fun c σ J=>∃ (y7 y8 y9 y10 y11 y12 y13:Option V),σ=[some (.ref b),some (.int (sdI sd)),some (.ref st),some (.ref fo),some (.int (0+(k:Int))),some (.ref so),y7,y8,y9,y10,y11,y12,y13]/\Same I J/\J so=some (.lst (rowV c (dueS sd f xs)))) ?_ ?_ ?_
  ·exact⟨_,_,_,_,_,_,_,rfl,s2.trans s3,s3 _ _ h2⟩
  ·rintro c σ J hc ⟨z7,z8,z9,z10,z11,z12,z13,rfl,sJ,hso⟩
   have hc:c<othH sd n m+1:=hc
   have s0J:=sI.trans sJ
   refine zb0 (v:=.ref r.1) (s0J _ _ S.out) (by rw[zcv6];exact zc5 (by rw[zcp5,er];rfl)) ?_
   refine zc6 (s0J _ _ R.out) ?_
   refine zs6 (xs:=r.2.map V.ref) (fun i σ L=>∃ (y9 y10 y11 y12 y13:Option V),σ=[some (.ref b),some (.int (sdI sd)),some (.ref st),some (.ref fo),some (.int (0+(k:Int))),some (.ref so),some (.int (0+(c:Int))),some (.int (dueS sd f (xs.take i) c)),y9,y10,y11,y12,y13]/\Same J L) ?_ ?_ ?_ ?_
   ·exact⟨_,_,_,_,_,rfl,Same.refl _⟩
   ·rintro i σ L _ ⟨_,_,_,_,_,_,sL⟩
    exact SqL.of (sL _ _ (s0J _ _ R.out))
   ·rintro i v σ L hi ⟨w9,w10,w11,w12,w13,rfl,sL⟩
    rw[zcp5] at hi
    obtain⟨t,et,rfl⟩:=zcp7.mp hi
    obtain⟨z,ez⟩:∃ z,xs[i]?=some z:=⟨_,zcp1 (by have:=(zcp4.mp et).1;omega)⟩
    obtain⟨zb,zf⟩:=okx.2 z (zcp9 ez)
    have s0L:=s0J.trans sL
    refine ze3 (s0L _ _ (R.row i t z et ez)) ?_
    refine zd6 (fun p4 L4 f4 s4 h4=>?_)
    refine zd6 (fun p5 L5 f5 s5 h5=>?_)
    refine zc4 (fun p6 L6 f6 s6 h6=>?_)
    have s46:=(s4.trans s5).trans s6
    have BL:=B.same (s0L.trans s46)
    have FL:=fdk.same (s0L.trans s46)
    rw[zcv6] at h4 h5
    cases sd
    ·have zb:0<=z.2.1/\z.2.1<=(n:Int):=zb
     have hc:c<m+1:=hc
     have wb:=Fd.won_bd fok fbd (x:=z.2.1.toNat) (y:=c) (by walk_at "om") (by walk_at "om")
     have h4:L4 p4=some (.tup [.int ((z.2.1.toNat:Nat):Int),.int ((c:Nat):Int)]):=by rw[h4,show ((z.2.1.toNat:Nat):Int)=z.2.1 by walk_at "om"]
     refine zb0 (v:=.ref p4) h6 rfl ?_
     refine ze3 ((s5.trans s6) _ _ h4) ?_
     refine zb1 (v:=.ref l) BL.out rfl ?_
     refine zb0 (v:=.ref p) BL.lst (by rw[zcv6];exact zc5 (by rw[zcp5,ep];rfl)) ?_
     refine zbo8 FL (by walk_at "om") (by walk_at "om") (fun L7 s7=>?_)
     refine zv1 (zr8 (by walk_at "om") (by walk_at "om") (by walk_at "om") (by walk_at "om")) ?_
     walk_at "wh"
     refine⟨some (.int z.1),some (.int z.2.1),some (.int z.2.2),some (.int ((z.2.1.toNat:Nat):Int)),some (.int (c:Int)),?_,(sL.trans s46).trans s7⟩
     rw[zar5 ez]
     rfl
    ·have zb:0<=z.2.1/\z.2.1<=(m:Int):=zb
     have hc:c<n+1:=hc
     have wb:=Fd.won_bd fok fbd (x:=c) (y:=z.2.1.toNat) (by walk_at "om") (by walk_at "om")
     have h5:L5 p5=some (.tup [.int ((c:Nat):Int),.int ((z.2.1.toNat:Nat):Int)]):=by rw[h5,show ((z.2.1.toNat:Nat):Int)=z.2.1 by walk_at "om"]
     refine zb0 (v:=.ref p5) h6 rfl ?_
     refine ze3 (s6 _ _ h5) ?_
     refine zb1 (v:=.ref l) BL.out rfl ?_
     refine zb0 (v:=.ref p) BL.lst (by rw[zcv6];exact zc5 (by rw[zcp5,ep];rfl)) ?_
     refine zbo8 FL (by walk_at "om") (by walk_at "om") (fun L7 s7=>?_)
     refine zv1 (zr8 (by walk_at "om") (by walk_at "om") (by walk_at "om") (by walk_at "om")) ?_
     walk_at "wh"
     refine⟨some (.int z.1),some (.int z.2.1),some (.int z.2.2),some (.int (c:Int)),some (.int ((z.2.1.toNat:Nat):Int)),?_,(sL.trans s46).trans s7⟩
     rw[zar5 ez]
     rfl
   ·rintro σ L ⟨w9,w10,w11,w12,w13,rfl,sL⟩
    rw[zcp2,rl,zcw9]
    have hso':=sL _ _ hso
    refine zaf6 hso' ?_
    refine zad8 hso' (by rw[zl1,sizeLine_eq];omega) (fun L2 c2 h2'=>?_)
    walk_at "wh"
    refine⟨_,_,_,_,_,_,_,rfl,(sJ.trans sL).chg f2 c2,?_⟩
    rw[h2']
    unfold rowV
    rw[List.range_succ,zcr5]
    rfl
  ·rintro σ J ⟨z7,z8,z9,z10,z11,z12,z13,rfl,sJ,hso⟩
   have hfo':=sJ _ _ hfo
   refine zaf6 hfo' ?_
   refine zad8 hfo' (by rw[zcp2,sizeLine_eq];omega) (fun J2 c2 h2'=>?_)
   walk_at "wh"
   refine⟨_,_,_,_,_,_,_,_,_,qs++[so],rfl,(sI.trans sJ).chg f1 c2,by rw[h2',zcr5];rfl,by rw[zcr0,ql];rfl,fun i q' e=>?_⟩
   rcases zj1 e with ⟨e1,e2⟩|⟨e1,rfl⟩
   ·obtain⟨g1,g2⟩:=qr i q' e2
    exact⟨g1,c2 _ _ g1 (sJ _ _ g2)⟩
   ·rw[e1,ql,gk,gx]
    exact⟨nso,c2 _ _ nso hso⟩
 ·rintro σ I ⟨y5,y6,y7,y8,y9,y10,y11,y12,y13,qs,rfl,sI,hfo,ql,qr⟩
  walk_at "wh"
  exact q fo qs I f1 sI ⟨hfo,ql,fun i q' e=>(qr i q' e).2⟩
@[irreducible] def zf9:Sp:=fun vs H Q _=>∃ (o t:Addr) (os ts:List Addr) (F w k c:Nat) (D T:Nat->Nat->Int),vs=[.ref o,.ref t,.int k,.int c]/\zf1 H o os F w D/\zf1 H t ts F w T/\k<F/\c<w/\w<=100/\∀ r H',H r=none->Same H H'->H' r=some (.lst ((bndS D T F k c).map V.int))->Q (.ref r) H'
theorem zbv8 {H:Hp}{o t:Addr}{os ts:List Addr}{F w k c:Nat}{D T:Nat->Nat->Int}{Q:VK}{E:XK}(G:zf1 H o os F w D) (G':zf1 H t ts F w T) (hk:k<F) (hc:c<w) (hw:w<=100) (q:∀ r H',H r=none->Same H H'->H' r=some (.lst ((bndS D T F k c).map V.int))->Q (.ref r) H'):zf9 [.ref o,.ref t,.int k,.int c] H Q E:=by
 unfold zf9;exact⟨o,t,os,ts,F,w,k,c,D,T,rfl,G,G',hk,hc,hw,q⟩
theorem zao4 {f:Addr}{fd:FuncData}(F:Fun K "_law_comes" "_law_comes" zk6 f fd) (N:Nm mg):FnOk P w K mg base CX0 1 f fd ["_law_owed","_law_table_here","_law_k","_law_rest"] zf9:=by
 refine F.ok zal9 (fun vs H Q E h=>by unfold zf9 at h;obtain⟨_,_,_,_,_,_,_,_,_,_,rfl,_⟩:=h;rfl) (fun cdv A outer s H vs Q E hr h=>?_)
 unfold zf9 at h
 obtain⟨o,t,os,ts,F',w,k,c,D,T,rfl,G,G',hk,hc,hw,q⟩:=h
 have hu:=hu40 hr
 obtain⟨ok,eok,hok⟩:=G.some hk
 refine⟨_,(za4 (psIf (ptC (zak0 (K:=K) rfl (by exact hu)) (pq 2) (zb5 oSub (pB (zq4 (K:=K) rfl) N.len_ zj5 (za0 (pq 0) za1)) za2)) (za5 (za9 (zk1 (za0 (za8 (K:=K) rfl (za8 (K:=K) rfl (pq 0) (pq 2)) (pq 3)) za1)))) zb8)
   (za5 (za9 (zf4 (N:=["_law_sent","_law_owed","_law_k","_law_table_here","_law_rest"]) (ks:=[none,some 0,some 2,some 1,some 3]) (zn9 N.range_ (za0 (zb5 oAdd (pq 3) za2) za1)) (fun cl C s3 H3 fp=>(za7 (i:=0) nb_22 rfl (by first|exact Or.inl rfl|exact Or.inr rfl))) (fun cl C s3 H3 fp=>zc7) (fun cl C s3 H3 fp=>(zb5 oAdd (za8 (K:=K) rfl (za8 (K:=K) rfl (pq 1) (pq 2)) (pq 0)) (za8 (K:=K) rfl (za8 (K:=K) rfl (pq 3) (zb5 oAdd (pq 2) za2)) (zb5 oSub (pq 4) (pq 0))))) (.skip (.take rfl rfl (by first|exact Or.inl rfl|exact Or.inr rfl) (.take rfl rfl (by first|exact Or.inl rfl|exact Or.inr rfl) (.take rfl rfl (by first|exact Or.inl rfl|exact Or.inr rfl) (.take rfl rfl (by first|exact Or.inl rfl|exact Or.inr rfl) .nil))))))))),?_⟩
 refine zh3 G.out ?_
 rw[zcp2,G.len]
 refine zf5 (fun e=>?_) (fun e=>?_)
 ·walk_at "wh"
  refine zb0 (v:=.ref ok) G.out (zc5 (by rw[zcp5,eok];rfl)) ?_
  refine zb0 (v:=.int (D k c)) hok (zc5 (zg1 hc)) ?_
  refine zc4 (fun r H1 f1 s1 h1=>?_)
  walk_at "wh"
  exact q r H1 f1 s1 (by unfold bndS;rw[if_neg (by walk_at "om")];exact h1)
 ·have hk1:k+1<F':=by walk_at "om"
  obtain⟨tk,etk,htk⟩:=G'.some hk1
  refine zf2 (by walk_at "om") (by walk_at "om") (by walk_at "om") (by walk_at "om") ?_
  rw[show ((c:Int)+1 - 0).toNat=c+1 by walk_at "om"]
  refine zn6 (n:=c+1) Wk.range (by rw[sizeLine_eq];omega) (fun i=>.int (D k i+T (k+1) (c - i))) (fun _=>true) (fun j σ=>∃ x:Option V,σ=[x,some (.ref o),some (.int k),some (.ref t),some (.int c)]) ⟨none,rfl⟩ ?_ ?_
  ·rintro i x σ I R' S hi s1 hx ⟨_,rfl⟩ kk _
   obtain rfl:x=.int i:=by rw[hx,zcv6]
   refine br_T ?_
   refine zb0 (v:=.ref ok) (s1 _ _ G.out) (zc5 (by rw[zcp5,eok];rfl)) ?_
   refine zb0 (v:=.int (D k i)) (s1 _ _ hok) (zc5 (zg1 (by walk_at "om"))) ?_
   refine zb0 (v:=.ref tk) (s1 _ _ G'.out) (by rw[show (k:Int)+1=((k+1:Nat):Int) by walk_at "om"];exact zc5 (by rw[zcp5,etk];rfl)) ?_
   refine zb0 (v:=.int (T (k+1) (c - i))) (s1 _ _ htk) (by rw[show (c:Int) - (i:Int)=((c - i:Nat):Int) by walk_at "om"];exact zc5 (zg1 (by walk_at "om"))) ?_
   walk_at "wh"
   exact kk rfl _ _ (Same.refl _) ⟨_,rfl⟩
  intro acc H1 f1 s1 h1
  rw[ze4] at h1
  walk_at "wh"
  exact q acc H1 f1 s1 (by unfold bndS;rw[if_pos hk1,h1,zcs9];rfl)
theorem zao1 (sd:Bool) (fs:List Fd) (xss:List (List (Int×Int×Int))):(ze2 sd fs xss).length=fs.length:=by unfold ze2;rw[zcp2,zcr3]
theorem zw4 {sd:Bool}{fs:List Fd}{xss:List (List (Int×Int×Int))}{k:Nat}(hk:k<fs.length):(ze2 sd fs xss).drop k=dueS sd (fs.getD k (.more 0 0)) (xss.getD k []) :: (ze2 sd fs xss).drop (k+1):=by
 rw[List.drop_eq_getElem_cons (by rw[zao1];exact hk)]
 congr 1
 unfold ze2
 rw[List.getElem_map,List.getElem_range]
theorem zbb7 {sd:Bool}{fs:List Fd}{xss:List (List (Int×Int×Int))}{k c:Nat}{T:Nat->Nat->Int}(hk:k<fs.length) (hT:k+1<fs.length->∀ c',T (k+1) c'=tabR sd ((ze2 sd fs xss).drop (k+1)) c'):bndS (fun k=>dueS sd (fs.getD k (.more 0 0)) (xss.getD k [])) T fs.length k c=zas7 sd ((ze2 sd fs xss).drop k) c:=by
 unfold bndS
 rw[zw4 hk]
 by_cases h:k+1<fs.length
 ·rw[if_pos h]
  have e:∀ s,T (k+1) (c - s)=tabR sd (dueS sd (fs.getD (k+1) (.more 0 0)) (xss.getD (k+1) []) :: (ze2 sd fs xss).drop (k+1+1)) (c - s):=fun s=>by rw[hT h,zw4 h]
  rw[zw4 h]
  exact zcr2 fun s _=>by rw[e]
 ·rw[if_neg h,zcw7 (by rw[zao1];omega)]
  rfl
theorem zbr0 {sd:Bool}{fs:List Fd}{xss:List (List (Int×Int×Int))}{k:Nat}(hk:k<fs.length):(ze2 sd fs xss).drop k≠[]:=by rw[zw4 hk];simp
theorem zbw8 (k:Nat):(List.replicate k [V.int 0]).flatten=rowV k fun _=>0:=by
 induction k with
 | zero=>rfl
 | succ k ih=>rw[List.replicate_succ',List.flatten_append,ih,zbr6];simp
def tbN (sd:Bool) (fs:List Fd) (xss:List (List (Int×Int×Int))) (k c:Nat):Nat->Nat->Int:=fun i d=>if k<i∨i=k/\d<c then tabR sd ((ze2 sd fs xss).drop i) d else 0
@[irreducible] def zf7:Sp:=fun vs H Q _=>∃ (b l st:Addr) (ps:List Addr) (n m:Nat) (sd:Bool) (fs:List Fd) (rs:List (Addr×List Addr)) (xss:List (List (Int×Int×Int))),vs=[.ref b,.int (sdI sd),.ref st]/\zi9 H b l ps n m fs/\OkB n m fs/\(∀ f∈fs,f.Bd n m)/\StW H st rs xss/\xss.length=fs.length/\(∀ xs∈xss,zu6 (ownH sd n m) xs)/\∀ (r:Addr) (qs:List Addr) (H':Hp),Same H H'->zf1 (nw H H') r qs fs.length (othH sd n m+1) (fun k=>tabR sd ((ze2 sd fs xss).drop k))->Q (.ref r) H'
theorem zbw9 {H:Hp}{b l st:Addr}{ps:List Addr}{n m:Nat}{sd:Bool}{fs:List Fd}{rs:List (Addr×List Addr)}{xss:List (List (Int×Int×Int))}{Q:VK}{E:XK}(B:zi9 H b l ps n m fs) (O:OkB n m fs) (D:∀ f∈fs,f.Bd n m) (S:StW H st rs xss) (hl:xss.length=fs.length) (ok:∀ xs∈xss,zu6 (ownH sd n m) xs) (q:∀ (r:Addr) (qs:List Addr) (H':Hp),Same H H'->zf1 (nw H H') r qs fs.length (othH sd n m+1) (fun k=>tabR sd ((ze2 sd fs xss).drop k))->Q (.ref r) H'):zf7 [.ref b,.int (sdI sd),.ref st] H Q E:=by
 unfold zf7;exact⟨b,l,st,ps,n,m,sd,fs,rs,xss,rfl,B,O,D,S,hl,ok,q⟩
set_option maxHeartbeats 0 in
theorem zam2 {f:Addr}{fd:FuncData}(F:Fun K "_law_table" "_law_table" zk8 f fd) (N:Nm mg) (zcl5:Def P w K mg base CX0 1 "_law_comes" ["_law_owed","_law_table_here","_law_k","_law_rest"] zf9) (zcm7:Def P w K mg base CX0 2 "_law_dues" ["_law_battle_here","_law_side","_law_stream_here"] zh6):FnOk P w K mg base CX0 3 f fd ["_law_battle_here","_law_side","_law_stream_here"] zf7:=by
 refine F.ok zi6 (fun vs H Q E h=>by unfold zf7 at h;obtain⟨_,_,_,_,_,_,_,_,_,_,rfl,_⟩:=h;rfl) (fun cdv A outer s H vs Q E hr h=>?_)
 unfold zf7 at h
 obtain⟨b,l,st,ps,n,m,sd,fs,rs,xss,rfl,B,O,D,S,hl,ok,q⟩:=h
 have hu:=hu40 hr
 have o1:=O.1
 have o2:=O.2
 obtain⟨ho,hw⟩:=zac7 O sd
 refine⟨_,(za4 (psS (i:=3) zi6.nd (pD zcm7 hr zb7 (za0 (pq 0) (za0 (pq 1) (za0 (pq 2) za1)))))
   (za4 (psC (i:=4) (N:=["_law_row"]) (ks:=[none]) zi6.nd (zi0 (K:=K) rfl (pq 3)) (fun cl C s3 H3 fp=>(za7 (i:=0) nb_23 rfl (by first|exact Or.inl rfl|exact Or.inr rfl))) (fun cl C s3 H3 fp=>zc7) (fun cl C s3 H3 fp=>(zb5 oMul (zk1 (za0 za2 za1)) (pB (zq4 (K:=K) rfl) N.len_ zj5 (za0 (pq 0) za1)))) (.skip .nil))
   (za4 (zu5 PassesOwn.never rfl (piRevR N.reversed_ N.range_ (za0 (pB (zq4 (K:=K) rfl) N.len_ zj5 (za0 (pq 3) za1)) za1)) (za7 (i:=5) zi6.nd rfl (by first|exact Or.inl rfl|exact Or.inr rfl)) (za5 (zu5 PassesOwn.never rfl (zn9 N.range_ (za0 (pB (zq4 (K:=K) rfl) N.len_ zj5 (za0 (za8 (K:=K) rfl (pq 3) (pq 5)) za1)) za1)) (za7 (i:=6) zi6.nd rfl (by first|exact Or.inl rfl|exact Or.inr rfl)) (za4 (psS (i:=7) zi6.nd (pD zcl5 hr zb7 (za0 (pq 3) (za0 (pq 4) (za0 (pq 5) (za0 (pq 6) za1))))))
   (za5 (zbc0 (za8 (K:=K) rfl (zk1 (za0 (pB (cMinK (K:=K) rfl rfl) N.min_ bt_min (za0 (pq 7) za1)) (za0 (pB (cMaxK (K:=K) rfl rfl) N.max_ bt_max (za0 (pq 7) za1)) za1))) (pq 1)) (zbn5 (za8 (K:=K) rfl (pq 4) (pq 5)) (pq 6) setM)))))))
   (za5 (za9 (pq 4)))))),?_⟩
 refine zbv4 B O D S hl ok (fun o os H1 f1 s1 G=>?_)
 have ol:=G.len
 refine zc6 G.out ?_
 refine zaj0 (n:=(os.map V.ref).length) (Wk.list (SqL.of G.out)) (by rw[zcp2,sizeLine_eq];omega) (fun _=>.lst (rowV (othH sd n m+1) fun _=>0)) (fun j σ=>∃ t:Option V,σ=[t]) ⟨none,rfl⟩ ?_ ?_
 ·rintro i x σ I R' S' hi sI hx ⟨_,rfl⟩ kk
  rw[zcp5] at hx
  obtain⟨y,ey,rfl⟩:=zcp7.mp hx
  refine br_T ?_
  refine zc4 (fun p2 I2 f2 s2 h2=>?_)
  refine zh3 ((sI.trans s2) _ _ (G.row i y ey)) ?_
  rw[zl1]
  refine rep_rd h2 (by walk_at "om") (by walk_at "om") (by rw[sizeLine_eq];simp only[zcr8,zcu4];omega) (fun p3 I3 f3 s3 h3=>?_)
  rw[zbw8,zcx3] at h3
  walk_at "wh"
  exact kk _ p3 I3 (s2.free f3) (s2.trans s3) h3 ⟨_,rfl⟩
 intro t ts H2 FL
 rw[zcp2,ol] at FL
 refine zh3 (FL.same _ _ G.out) ?_
 rw[zcp2,ol]
 refine zcb9 (by walk_at "om") (by walk_at "om") ?_
 rw[zcx3]
 have tbl:∀ {I:Hp}{T:Nat->Nat->Int},I t=some (.lst (ts.map V.ref))->(∀ (i:Nat) p,ts[i]?=some p->I p=some (.lst (rowV (othH sd n m+1) (T i))))->zf1 I t ts fs.length (othH sd n m+1) T:=fun h1 h2=>⟨h1,FL.len,h2⟩
 refine zaw0 (fun j σ I=>∃ (y6 y7 y8:Option V),σ=[some (.ref b),some (.int (sdI sd)),some (.ref st),some (.ref o),some (.ref t),y6,y7,y8]/\Same H1 I/\zf1 I t ts fs.length (othH sd n m+1) (fun i d=>if fs.length<=i+j then tabR sd ((ze2 sd fs xss).drop i) d else 0)) ?_ ?_ ?_
 ·refine⟨_,_,_,rfl,FL.same,tbl FL.out fun i p e=>?_⟩
  rw[(FL.row i p e).2]
  have:=(zcp4.mp e).1
  have tl:=FL.len
  exact congrArg some (congrArg HO.lst (zab1 fun c _=>by rw[if_neg (by walk_at "om")]))
 ·rintro j σ I hj ⟨y6,y7,y8,rfl,sI,GI⟩
  have hj:j<fs.length:=hj
  obtain⟨k,ek⟩:∃ k:Nat,k+j+1=fs.length:=⟨fs.length - 1 - j,by walk_at "om"⟩
  have hk:k<fs.length:=by walk_at "om"
  rw[show ((fs.length:Int) - 1 - (j:Int))=(k:Int) by walk_at "om"]
  obtain⟨ok',eok,hok⟩:=G.some hk
  obtain⟨tk,etk,_⟩:=GI.some hk
  have ntk:t≠tk:=fun e=>FL.nin (e▸zcp9 etk)
  have ftk:H1 tk=none:=(FL.row k tk etk).1
  refine zb0 (v:=.ref ok') (sI _ _ G.out) (zc5 (by rw[zcp5,eok];rfl)) ?_
  refine zh3 (sI _ _ hok) ?_
  rw[zl1]
  refine zf2 (by decide) (by decide) (by walk_at "om") (by walk_at "om") ?_
  rw[show (((othH sd n m+1:Nat):Int) - 0).toNat=othH sd n m+1 by walk_at "om"]
  refine zk7 (fun c σ J=>∃ (y7 y8:Option V),σ=[some (.ref b),some (.int (sdI sd)),some (.ref st),some (.ref o),some (.ref t),some (.int k),y7,y8]/\Same H1 J/\zf1 J t ts fs.length (othH sd n m+1) (tbN sd fs xss k c)) ?_ ?_ ?_
  ·refine⟨_,_,rfl,sI,GI.ext fun i d hi hd=>?_⟩
   unfold tbN
   by_cases h:k<i
   ·rw[if_pos (by walk_at "om"),if_pos (.inl h)]
   ·rw[if_neg (by walk_at "om"),if_neg (by walk_at "om")]
  ·rintro c σ J hc ⟨z7,z8,rfl,sJ,GJ⟩
   have hc:c<othH sd n m+1:=hc
   rw[zcv6]
   refine zbv8 (G.same sJ) GJ hk hc (by walk_at "om") (fun r3 J3 f3 s3 h3=>?_)
   have ce:=zbb7 (sd:=sd) (xss:=xss) (c:=c) (T:=tbN sd fs xss k c) hk (fun _ c'=>by unfold tbN;rw[if_pos (.inl (by walk_at "om"))])
   rw[ce] at h3
   obtain⟨te,tn⟩:=zbj7 sd (zbr0 (sd:=sd) (xss:=xss) hk) c
   refine zcf9 (SqL.of h3) (List.length_pos_iff.mpr tn) (fun M1 hM1 hm1=>?_)
   refine zcb5 (SqL.of h3) (List.length_pos_iff.mpr tn) (fun M2 hM2 hm2=>?_)
   refine zc4 (fun p4 J4 f4 s4 h4=>?_)
   walk_at "wh"
   have em:tabR sd ((ze2 sd fs xss).drop k) c=if sd then M2 else M1:=by
    rw[te]
    cases sd
    ·exact (zbk1 (sd:=false) hM1 hm1).symm
    ·exact (zbk1 (sd:=true) hM2 hm2).symm
   refine zb0 (v:=.int (tabR sd ((ze2 sd fs xss).drop k) c)) h4 (by rw[em];cases sd<;>rfl) ?_
   have s34:=s3.trans s4
   have G4:=GJ.same s34
   refine zb0 (v:=.ref tk) G4.out (zc5 (by rw[zcp5,etk];rfl)) ?_
   refine zbi8 (j:=c) (G4.row k tk etk) (by unfold ixN;rw[zl1,if_pos (by walk_at "om"),if_pos (by walk_at "om"),zcx3]) (fun J5 c5 h5=>?_)
   rw[zbs1] at h5
   walk_at "wh"
   refine⟨_,_,rfl,(sJ.trans s34).chg ftk c5,tbl (c5 _ _ ntk G4.out) fun i p e=>?_⟩
   by_cases hik:i=k
   ·subst hik
    have:p=tk:=by rw[etk] at e;exact (Option.some.inj e).symm
    subst this
    rw[h5]
    refine congrArg some (congrArg HO.lst (zab1 fun d _=>?_))
    unfold tbN
    by_cases hd:d=c
    ·rw[if_pos hd,if_pos (.inr ⟨rfl,by walk_at "om"⟩),hd]
    ·rw[if_neg hd]
     by_cases hd2:d<c
     ·rw[if_pos (.inr ⟨rfl,hd2⟩),if_pos (.inr ⟨rfl,by walk_at "om"⟩)]
     ·rw[if_neg (by walk_at "om"),if_neg (by walk_at "om")]
   ·have np:p≠tk:=fun e2=>by
     subst e2
     have l1:=(zcp4.mp e)
     have l2:=(zcp4.mp etk)
     exact hik ((List.getElem_inj FL.nd).mp (l1.2.trans l2.2.symm))
    rw[c5 _ _ np (G4.row i p e)]
    refine congrArg some (congrArg HO.lst (zab1 fun d _=>?_))
    unfold tbN
    by_cases h:k<i
    ·rw[if_pos (.inl h),if_pos (.inl h)]
    ·rw[if_neg (by walk_at "om"),if_neg (by walk_at "om")]
  ·rintro σ J ⟨z7,z8,rfl,sJ,GJ⟩
   walk_at "wh"
   refine⟨_,_,_,rfl,sJ,GJ.ext fun i d hi hd=>?_⟩
   unfold tbN
   by_cases h:k<=i
   ·rw[if_pos (by walk_at "om"),if_pos (by walk_at "om")]
   ·rw[if_neg (by walk_at "om"),if_neg (by walk_at "om")]
 ·rintro σ I ⟨y6,y7,y8,rfl,sI,GI⟩
  walk_at "wh"
  have GN:zf1 (nw H I) t ts fs.length (othH sd n m+1) (fun i d=>if fs.length<=i+fs.length then tabR sd ((ze2 sd fs xss).drop i) d else 0):=⟨zp7 (s1.free FL.facc) GI.out,GI.len,fun i p e=>zp7 (s1.free (FL.row i p e).1) (GI.row i p e)⟩
  exact q t ts I (s1.trans sI) (GN.ext fun i d _ _=>by rw[if_pos (by walk_at "om")])
@[irreducible] def ze8:Sp:=fun vs H Q _=>∃ (a:Addr) (b:Int) (h f:Nat),vs=[.ref a,.int h,.int f]/\zc1 H a b/\b<=50000/\h<=40/\(1<=f/\f<=8)/\∀ r rs xss ms H',Chg a H H'->zc1 H' a (b+200)->StAt (nw H H') r rs xss->zaa5 ms f xss->OkS ms h f->ms.length<=5->(∀ x∈ms,x.2<=10 ^ 20)->Q (.ref r) H'
theorem zbe0 {H:Hp}{a:Addr}{b:Int}{h f:Nat}{Q:VK}{E:XK}(hL:zc1 H a b) (hb:b<=50000) (h1:h<=40) (h2:1<=f) (h3:f<=8) (q:∀ r rs xss ms H',Chg a H H'->zc1 H' a (b+200)->StAt (nw H H') r rs xss->zaa5 ms f xss->OkS ms h f->ms.length<=5->(∀ x∈ms,x.2<=10 ^ 20)->Q (.ref r) H'):ze8 [.ref a,.int h,.int f] H Q E:=by
 unfold ze8;exact⟨a,b,h,f,rfl,hL,hb,h1,⟨h2,h3⟩,q⟩
theorem zag7 {f:Addr}{fd:FuncData}(F:Fun K "_law_stream" "_law_stream" zi2 f fd) (N:Nm mg) (zci8:Def P w K mg base CX0 2 "_law_draw" ["_law_left_here","_law_base"] zc9) (zcl6:Def P w K mg base CX0 1 "_law_flows" ["_law_mix_here"] zf8) (zcm8:Def P w K mg base CX0 3 "_law_plan" ["_law_left_here","_law_hosts","_law_many"] zh0):FnOk P w K mg base CX0 4 f fd ["_law_left_here","_law_hosts","_law_many"] ze8:=by
 refine F.ok zq3 (fun vs H Q E h=>by unfold ze8 at h;obtain⟨_,_,_,_,rfl,_⟩:=h;rfl) (fun cdv A outer s H vs Q E hr h=>?_)
 unfold ze8 at h
 obtain⟨a,b,h,f,rfl,hL,hb,hh,⟨hf1,hf2⟩,q⟩:=h
 have hu:=hu40 hr
 refine⟨_,(za4 (psS (i:=3) zq3.nd (zk1 za1))
   (za4 (zu5 PassesOwn.never rfl (zn9 N.range_ (za0 (zb5 oAdd za2 (pD zci8 hr zb7 (za0 (pq 0) (za0 za2 za1)))) za1)) (za7 (i:=4) zq3.nd rfl (by first|exact Or.inl rfl|exact Or.inr rfl)) (za5 (zs0 (zm7 (pq 3) (za0 (zn8 (za0 (pD zcm8 hr zb7 (za0 (pq 0) (za0 (pq 1) (za0 (pq 2) za1)))) (za0 (zb5 oAdd za2 (pD zci8 hr zb7 (za0 (pq 0) (za0 (za8 (K:=K) rfl (zk1 (za0 za2 (za0 za2 (za0 (zb5 oPow za2 za2) za1)))) (pD zci8 hr zb7 (za0 (pq 0) (za0 za2 za1)))) za1)))) za1))) za1)))))
   (za5 (za9 (pD zcl6 hr zb7 (za0 (pq 3) za1)))))),?_⟩
 refine zc4 (fun l H3 f3 s3 h3=>?_)
 have n1:l≠a:=hL.ne f3
 refine zg2 (hL.same s3) (by walk_at "om") (by walk_at "om") (by walk_at "om") (fun dn H4 dn0 dn1 c4 L4=>?_)
 refine zf2 (by decide) (by decide) (by walk_at "om") (by walk_at "om") ?_
 obtain⟨n,en⟩:∃ n:Nat,(1+dn - 0).toNat=n:=⟨_,rfl⟩
 rw[en]
 have hn1:1<=n/\n<=5:=by walk_at "om"
 refine zk7 (fun i σ I=>∃ (x:Option V) (ts:List (Addr×Addr)) (ms:List (List Int×Int)),σ=[some (.ref a),some (.int h),some (.int f),some (.ref l),x]/\Chg a H I/\zc1 I a (b+4+20*i)/\zr1 I l ts ms/\Off a ts/\Off l ts/\ms.length=i/\∀ x∈ms,((∀ n∈x.1,0<=n)/\x.1.length=f/\x.1.sum=h/\1<=x.2)/\x.2<=10 ^ 20) ?_ ?_ ?_
 ·refine⟨_,[],[],rfl,s3.toChg.trans c4,L4.up (by walk_at "om"),⟨c4 _ _ n1 h3,rfl,fun i t x e=>by simp at e⟩,?_,?_,rfl,?_⟩
  ·intro t ht;cases ht
  ·intro t ht;cases ht
  ·intro x hx;cases hx
 ·rintro i σ I hi ⟨x0,ts,ms,rfl,cI,LI,M,O1,O2,ml,ok⟩
  have hi:i<8:=by walk_at "om"
  refine zaf6 M.out ?_
  refine zci5 LI (by walk_at "om") hh hf1 hf2 (fun pa Ha ns fa ca La na ha k1 k2 k3=>?_)
  have Ma:=M.chg ca n1 O1
  have nal:pa≠l:=Ne.symm (za6 M.out fa)
  walk_at "st"
  refine zc4 (fun p5 H5 f5 s5 h5=>?_)
  refine zg2 (La.same s5) (by walk_at "om") (by walk_at "om") (by walk_at "om") (fun d6 H6 d60 d61 c6 L6=>?_)
  have h56:=c6 _ _ (La.ne f5) h5
  refine zt8 h56 (by walk_at "om") (by simp only[zcr8,zcu4];omega) ?_
  intro v hv
  obtain⟨wm,rfl,wm0,wm1⟩:∃ m:Int,v=.int m/\1<=m/\m<=10 ^ 20:=by
   simp only[zcq6,zcs4,or_false] at hv
   rcases hv with rfl|rfl|rfl<;>exact⟨_,rfl,by walk_at "om",by walk_at "om"⟩
  clear hv h56 h5
  refine zg2 L6 (by walk_at "om") (by walk_at "om") (by walk_at "om") (fun d7 H7 d70 d71 c7 L7=>?_)
  have ca7:Chg a Ha H7:=(s5.toChg.trans c6).trans c7
  have M7:=Ma.chg ca7 n1 O1
  have ha7:=ca7 _ _ na ha
  have wt:1<=1+d7/\1+d7<=10 ^ 20:=by walk_at "om"
  walk_at "wh"
  generalize 1+d7=wt_ at wt ⊢
  refine zd6 (fun pb Hb fb sb hb=>?_)
  have nbl:pb≠l:=Ne.symm (za6 M7.out fb)
  have Mb:=M7.same sb
  refine zad8 Mb.out (by rw[zcp2,sizeLine_eq,Mb.len];omega) (fun Hc cc hc=>?_)
  walk_at "wh"
  have Mc:=Mb.push cc O2 hc (x:=(ns,wt_)) (cc _ _ nbl hb) (cc _ _ nal (sb _ _ ha7))
  have c0b:Chg a H Hb:=((cI.trans ca).trans ca7).same sb
  exact⟨_,_,_,rfl,fun b o z e=>cc _ _ (za6 e f3) (c0b _ _ z e),((L7.same sb).chg cc (Ne.symm n1)).up (by walk_at "om"),Mc,O1.push (L7.ne fb) na,O2.push nbl nal,by rw[zcr0,ml];rfl,zbw5 ok ⟨⟨k3,k1,k2,wt.1⟩,wt.2⟩⟩
 ·rintro σ I ⟨x0,ts,ms,rfl,cI,LI,M,O1,O2,ml,ok⟩
  obtain⟨oa,ea⟩:=LI.some
  refine zbu0 M (by walk_at "om") (by walk_at "om") (by walk_at "om") (fun x hx=>(ok x hx).1.2.1) (fun r rs xss H' s' S' SI=>?_)
  walk_at "wh"
  exact q r rs xss ms H' (cI.same s') ((LI.same s').up (by walk_at "om")) (S'.same (zbf3 ea cI)) SI ⟨by walk_at "om",hf1,fun x hx=>(ok x hx).1⟩ (by walk_at "om") (fun x hx=>(ok x hx).2)
@[irreducible] def zc8:Sp:=fun vs H Q _=>∃ (b:Addr) (x:Str) (v:V),vs=[.ref b,.str x,v]/\((∃ j,BadB H b j/\∀ H',Same H H'->Q (.str "battle") H') ∨
 (∃ (l:Addr) (ps:List Addr) (n m:Nat) (fs:List Fd),zi9 H b l ps n m fs/\OkB n m fs/\x≠"first"/\x≠"second"/\∀ H',Same H H'->Q (.str "side") H'))
theorem zah8 {H:Hp}{b:Addr}{x:Str}{v:V}{j:Int}{Q:VK}{E:XK}(B:BadB H b j) (q:∀ H',Same H H'->Q (.str "battle") H'):zc8 [.ref b,.str x,v] H Q E:=by unfold zc8;exact⟨b,x,v,rfl,.inl ⟨j,B,q⟩⟩
theorem zae2 {H:Hp}{b l:Addr}{ps:List Addr}{n m:Nat}{fs:List Fd}{x:Str}{v:V}{Q:VK}{E:XK}(B:zi9 H b l ps n m fs) (O:OkB n m fs) (h1:x≠"first") (h2:x≠"second") (q:∀ H',Same H H'->Q (.str "side") H'):zc8 [.ref b,.str x,v] H Q E:=by unfold zc8;exact⟨b,x,v,rfl,.inr ⟨l,ps,n,m,fs,B,O,h1,h2,q⟩⟩
set_option maxHeartbeats 0 in
theorem zag5 {f:Addr}{fd:FuncData}(F:Fun K "_law_refused" "_law_refused" zg7 f fd) (N:Nm mg) (zcl0:Def P w K mg base (CXR P w) 9 "judged" ["battle","side","worth","paper"] (zg3 zci6 zci7)) (Z:Cz K mg base zci9 zci6 zcj3 zcj7 zcj0 zci7 zcj2 zcj1 zcj6):FnOk P w K mg base CX0 10 f fd ["_law_battle_here","_law_side","_law_paper"] zc8:=by
 refine F.ok zp5 (fun vs H Q E h=>by unfold zc8 at h;obtain⟨_,_,_,rfl,_⟩:=h;rfl) (fun cdv A outer s H vs Q E hr h=>?_)
 unfold zc8 at h
 obtain⟨b,x,v,rfl,h⟩:=h
 have hu:=hu40 hr
 refine⟨_,(za4 (psS (i:=3) zp5.nd zv0)
   (za4 (psTry (K:=K) (ke:=4) (ky:=3) rfl zp5.nd Z.g_HostError (psxOne (zcc6 zcl0 hr (za0 (pq 0) (za0 (pq 1) (za0 (zn8 (za0 za2 (za0 za2 za1))) (za0 (pq 2) za1)))))))
   (za4 (psIf (ptW (pwOr (ptV (pB (cIsiC (K:=K) rfl) N.isinstance_ zb9 (za0 (pq 3) (za0 (zn8 (za0 (zq8 (v:=.ref zcj2) rfl Z.g_NoAlike rfl) (za0 (zq8 (v:=.ref zcj7) rfl Z.g_NoMix rfl) (za0 (zq8 (v:=.ref zcj1) rfl Z.g_NoNumber rfl) (za0 (zq8 (v:=.ref zcj3) rfl Z.g_NoPlan rfl) (za0 (zq8 (v:=.ref zcj0) rfl Z.g_NoStream rfl) za1)))))) za1)))) (zz7 (zp9 (ptV (pB (cIsiD (K:=K) rfl) N.isinstance_ zb9 (za0 (pq 3) (za0 (pTy N.ValueError_ zam5) za1)))))))) (za5 (za9 zd1)) zb8)
   (za5 (za9 (za8 (K:=K) rfl (zk1 (za0 (za8 (K:=K) rfl (zk1 (za0 zd1 (za0 zd1 za1))) (pT cInt N.int_ zaf4 (za0 (pB (cIsiD (K:=K) rfl) N.isinstance_ zb9 (za0 (pq 3) (za0 (zq8 (v:=.ref zci7) rfl Z.g_NoSide rfl) za1))) za1))) (za0 zd1 za1))) (pT cInt N.int_ zaf4 (za0 (pB (cIsiD (K:=K) rfl) N.isinstance_ zb9 (za0 (pq 3) (za0 (zq8 (v:=.ref zci6) rfl Z.g_NoBattle rfl) za1))) za1)))))))),?_⟩
 rcases h with ⟨j,B,q⟩|⟨l,ps,n,m,fs,B,O,n1,n2,q⟩
 ·walk_at "wh"
  refine zd6 (fun q1 I1 g1 t1 e1=>?_)
  refine zak4 (B.same t1) (fun d H1 f1 s1 h1=>zbd7 Z.m_NoBattle (fun ea H2 f2 s2 h2=>?_))
  have hd2:=s2 _ _ h1
  refine zd6 (fun p3 H3 f3 s3 h3=>?_)
  have h23:=s3 _ _ h2
  have hd3:=s3 _ _ hd2
  refine zbp3 (D:=zci6) (cs:=[zcj2,zcj7,zcj1,zcj3,zcj0]) h3 (.inr ⟨d,_,h23,hd3⟩) Z.k_NoBattle Z.c_NoBattle (fun c hc=>?_) ?_
  ·simp only[zcq6,zcs4,or_false] at hc
   rcases hc with rfl|rfl|rfl|rfl|rfl
   ·exact Z.i_NoBattle_NoAlike
   ·exact Z.i_NoBattle_NoMix
   ·exact Z.i_NoBattle_NoNumber
   ·exact Z.i_NoBattle_NoPlan
   ·exact Z.i_NoBattle_NoStream
  refine br_F ?_
  refine zbv3 (D:=zci6) h23 hd3 Z.k_NoBattle Z.c_NoBattle Z.v_NoBattle ?_
  refine zd2 (br_T ?_)
  refine zc4 (fun p4 H4 f4 s4 h4=>?_)
  refine zbd2 (D:=zci6) (s4 _ _ h23) (s4 _ _ hd3) Z.k_NoBattle Z.c_NoBattle Z.i_NoBattle_NoSide ?_
  refine zb0 (v:=.str "other") h4 rfl ?_
  refine zc4 (fun p5 H5 f5 s5 h5=>?_)
  refine zbd2 (D:=zci6) ((s4.trans s5) _ _ h23) ((s4.trans s5) _ _ hd3) Z.k_NoBattle Z.c_NoBattle Z.i_NoBattle_NoBattle ?_
  refine zb0 (v:=.str "battle") h5 rfl ?_
  walk_at "wh"
  exact q _ (((((t1.trans s1).trans s2).trans s3).trans s4).trans s5)
 ·walk_at "wh"
  refine zd6 (fun q1 I1 g1 t1 e1=>?_)
  refine zah0 (B.same t1) O n1 n2 (fun H1 s1=>zbd7 Z.m_NoSide (fun ea H2 f2 s2 h2=>?_))
  refine zd6 (fun p3 H3 f3 s3 h3=>?_)
  have h23:=s3 _ _ h2
  refine zbp3 (D:=zci7) (cs:=[zcj2,zcj7,zcj1,zcj3,zcj0]) h3 (.inl h23) Z.k_NoSide Z.c_NoSide (fun c hc=>?_) ?_
  ·simp only[zcq6,zcs4,or_false] at hc
   rcases hc with rfl|rfl|rfl|rfl|rfl
   ·exact Z.i_NoSide_NoAlike
   ·exact Z.i_NoSide_NoMix
   ·exact Z.i_NoSide_NoNumber
   ·exact Z.i_NoSide_NoPlan
   ·exact Z.i_NoSide_NoStream
  refine br_F ?_
  walk_at "wh"
  refine zax4 (zbt4 (D:=zci7) h23 Z.k_NoSide Z.c_NoSide Z.v_NoSide ?_)
  refine zd2 (br_T ?_)
  refine zc4 (fun p4 H4 f4 s4 h4=>?_)
  walk_at "wh"
  refine zax4 (zbk2 (D:=zci7) (s4 _ _ h23) Z.k_NoSide Z.c_NoSide Z.i_NoSide_NoSide ?_)
  refine zb0 (v:=.str "side") h4 rfl ?_
  refine zc4 (fun p5 H5 f5 s5 h5=>?_)
  walk_at "wh"
  refine zax4 (zbk2 (D:=zci7) ((s4.trans s5) _ _ h23) Z.k_NoSide Z.c_NoSide Z.i_NoSide_NoBattle ?_)
  refine zb0 (v:=.str "side") h5 rfl ?_
  walk_at "wh"
  exact q _ (((((t1.trans s1).trans s2).trans s3).trans s4).trans s5)
theorem okI (i:Int) (n:Nat):okD n (.int i):=⟨rfl,rfl,zct3 _⟩
theorem zo8 {H:Hp}{α β:Type}{mk:β->V}{D:α->PyData}{P:β->α->Prop}(k:∀ x a,ShV H x (D a)->∃ y,x=mk y/\P y a):∀ {xs:List V}{as:List α},ShL H xs (as.map D)->∃ ys:List β,xs=ys.map mk/\ys.length=as.length/\∀ (i:Nat) y a,ys[i]?=some y->as[i]?=some a->P y a
 | xs,[],h=>by
  cases h
  exact⟨[],rfl,rfl,fun i y a e=>by simp at e⟩
 | xs,a :: as,h=>by
  cases h with
  | cons h1 h2=>
   obtain⟨y,rfl,p⟩:=k _ _ h1
   obtain⟨ys,rfl,l,q⟩:=zo8 k h2
   refine⟨y :: ys,rfl,by rw[zcr8,zcr8,l],fun i y' a' e1 e2=>?_⟩
   cases i with
   | zero=>cases e1;cases e2;exact p
   | succ i=>exact q i y' a' e1 e2
def rowN (k:Nat) (r:Nat->Int):PyData:=.list ((List.range k).map fun y=>.int (r y))
def zbf7 (n m:Nat) (g:Nat->Nat->Int):PyData:=.list ((List.range n).map fun x=>rowN m (g x))
def fdN (n m:Nat):Fd->PyData
 | .more w t=>.tuple [.str "more",.int w,.int t]
 | .lead w t=>.tuple [.str "lead",.int w,.int t]
 | .tab g=>.tuple [.str "table",zbf7 (n+1) (m+1) g]
def batN (n m:Nat) (fs:List Fd):PyData:=.tuple [.int n,.int m,.list (fs.map (fdN n m))]
def papN (xss:List (List (Int×Int×Int))) (F k:Nat) (T:Nat->Nat->Int):PyData:=.tuple [stmD xss,zbf7 F k T]
theorem zcc8 {H:Hp}{p:Addr}{k:Nat}{r:Nat->Int}(h:H p=some (.lst (rowV k r))):ShV H (.ref p) (rowN k r):=by
 unfold rowV at h
 refine .lst h (ShL.idx (by rw[zcp2,zcp2]) fun i x d g1 g2=>?_)
 rw[zcp5] at g1 g2
 obtain⟨t,et,rfl⟩:=zcp7.mp g1
 rw[et] at g2
 cases g2
 exact .int _
theorem zcf3 {H:Hp}{v:V}{k:Nat}{r:Nat->Int}(h:ShV H v (rowN k r)):∃ p,v=.ref p/\H p=some (.lst (rowV k r)):=by
 unfold rowN at h
 cases h with
 | lst e l=>
  obtain⟨ys,rfl,ll,q⟩:=zo8 (mk:=fun y:Int=>V.int y) (D:=fun y:Nat=>PyData.int (r y)) (P:=fun y a=>y=r a) (fun x a h=>by cases h;exact⟨_,rfl,rfl⟩) l
  refine⟨_,rfl,?_⟩
  rw[e]
  refine congrArg some (congrArg HO.lst (zcu7 fun i=>?_))
  unfold rowV
  rw[zcp5,zcp5]
  by_cases hi:i<k
  ·obtain⟨y,ey⟩:∃ y,ys[i]?=some y:=⟨_,zcp1 (by rw[ll,zcr3];exact hi)⟩
   rw[ey,zct8 hi,q i y i ey (zct8 hi)];rfl
  ·rw[zcs1 (by rw[ll,zcr3];omega),zcs1 (by rw[zcr3];omega)];rfl
theorem zbc3 {H:Hp}{q:Addr}{ps:List Addr}{n m:Nat}{g:Nat->Nat->Int}(G:zf1 H q ps n m g):ShV H (.ref q) (zbf7 n m g):=by
 refine .lst G.out (ShL.idx (by rw[zcp2,zcp2,zcr3,G.len]) fun i x d e1 e2=>?_)
 rw[zcp5] at e1 e2
 obtain⟨r,er,rfl⟩:=zcp7.mp e1
 obtain⟨j,ej,rfl⟩:=zcp7.mp e2
 obtain⟨hj1,hj2⟩:=zcp4.mp ej
 rw[List.getElem_range] at hj2
 subst hj2
 exact zcc8 (G.row i r er)
theorem zbc7 {H:Hp}{v:V}{n m:Nat}{g:Nat->Nat->Int}(h:ShV H v (zbf7 n m g)):∃ q ps,v=.ref q/\zf1 H q ps n m g:=by
 unfold zbf7 at h
 cases h with
 | lst e l=>
  obtain⟨ys,rfl,ll,q⟩:=zo8 (mk:=V.ref) (P:=fun p x=>H p=some (.lst (rowV m (g x)))) (fun x a h=>zcf3 h) l
  rw[zcr3] at ll
  exact⟨_,ys,rfl,e,ll,fun i p ep=>q i p i ep (zct8 (by have:=(zcp4.mp ep).1;omega))⟩
theorem fdN_sh {H:Hp}{p:Addr}{n m:Nat}{f:Fd}(F:FdAt H p n m f):ShV H (.ref p) (fdN n m f):=by
 cases f with
 | more w t=>exact .tup F (.cons (.str _) (.cons (.int _) (.cons (.int _) .nil)))
 | lead w t=>exact .tup F (.cons (.str _) (.cons (.int _) (.cons (.int _) .nil)))
 | tab g=>
  obtain⟨q,ps,h1,G⟩:=F
  exact .tup h1 (.cons (.str _) (.cons (zbc3 G) .nil))
theorem fdN_of {H:Hp}{v:V}{n m:Nat}{f:Fd}(h:ShV H v (fdN n m f)):∃ p,v=.ref p/\FdAt H p n m f:=by
 cases f with
 | more w t=>
  cases h with
  | tup e l=>cases l with | cons a l=>cases a;cases l with | cons a l=>cases a;cases l with | cons a l=>cases a;cases l;exact⟨_,rfl,e⟩
 | lead w t=>
  cases h with
  | tup e l=>cases l with | cons a l=>cases a;cases l with | cons a l=>cases a;cases l with | cons a l=>cases a;cases l;exact⟨_,rfl,e⟩
 | tab g=>
  cases h with
  | tup e l=>
   cases l with
   | cons a l=>
    cases a
    cases l with
    | cons a l=>
     obtain⟨q,ps,rfl,G⟩:=zbc7 a
     cases l
     exact⟨_,rfl,q,ps,e,G⟩
theorem zaw2 {H:Hp}{b l:Addr}{ps:List Addr}{n m:Nat}{fs:List Fd}(B:zi9 H b l ps n m fs):ShV H (.ref b) (batN n m fs):=by
 refine .tup B.out (.cons (.int _) (.cons (.int _) (.cons (.lst B.lst (ShL.idx (by rw[zcp2,zcp2,B.len]) fun i x d e1 e2=>?_)) .nil)))
 rw[zcp5] at e1 e2
 obtain⟨p,ep,rfl⟩:=zcp7.mp e1
 obtain⟨f,ef,rfl⟩:=zcp7.mp e2
 exact fdN_sh (B.fld i p f ep ef).1
theorem zcb4 {H:Hp}{v:V}{n m:Nat}{fs:List Fd}(h:ShV H v (batN n m fs)) (ok:∀ f∈fs,f.Ok):∃ b l ps,v=.ref b/\zi9 H b l ps n m fs:=by
 unfold batN at h
 cases h with
 | tup e l=>
  cases l with
  | cons a l=>
   cases a
   cases l with
   | cons a l=>
    cases a
    cases l with
    | cons a l=>
     cases l
     cases a with
     | lst e2 l2=>
      obtain⟨ys,rfl,ll,q⟩:=zo8 (mk:=V.ref) (P:=fun p f=>FdAt H p n m f) (fun x a h=>fdN_of h) l2
      exact⟨_,_,ys,rfl,e,e2,ll,fun i p f e1 e3=>⟨q i p f e1 e3,ok f (zcp9 e3)⟩⟩
theorem zi9.oks {H:Hp}{b l:Addr}{ps:List Addr}{n m:Nat}{fs:List Fd}(B:zi9 H b l ps n m fs):∀ f∈fs,f.Ok:=fun f hf=>by
 obtain⟨i,ei⟩:=zcu9 hf
 have:=(zcp4.mp ei).1
 have bl:=B.len
 exact (B.fld i _ f (zcp1 (by walk_at "om")) ei).2
theorem rwN_of {H:Hp}{v:V}{xs:List (Int×Int×Int)}(h:ShV H v (zi1 xs)):∃ r:Addr×List Addr,v=.ref r.1/\RwAt H r.1 r.2 xs:=by
 unfold zi1 at h
 cases h with
 | lst e l=>
  obtain⟨ys,rfl,ll,q⟩:=zo8 (mk:=V.ref) (P:=fun p (z:Int×Int×Int)=>H p=some (.tup [.int z.1,.int z.2.1,.int z.2.2])) (fun x a h=>by
   unfold zv6 at h
   cases h with
   | tup e l=>cases l with | cons a l=>cases a;cases l with | cons a l=>cases a;cases l with | cons a l=>cases a;cases l;exact⟨_,rfl,e⟩) l
  exact⟨(_,ys),rfl,e,ll,q⟩
theorem stN_of {H:Hp}{v:V}{xss:List (List (Int×Int×Int))}(h:ShV H v (stmD xss)):∃ st rs,v=.ref st/\StW H st rs xss:=by
 unfold stmD at h
 cases h with
 | lst e l=>
  obtain⟨ys,rfl,ll,q⟩:=zo8 (mk:=fun r:Addr×List Addr=>V.ref r.1) (P:=fun r xs=>RwAt H r.1 r.2 xs) (fun x a h=>rwN_of h) l
  exact⟨_,ys,rfl,e,ll,q⟩
theorem zax2 {H:Hp}{p st tb:Addr}{rs:List (Addr×List Addr)}{xss:List (List (Int×Int×Int))}{qs:List Addr}{F k:Nat}{T:Nat->Nat->Int}(A:PapS H p st tb rs xss qs F k T):ShV H (.ref p) (papN xss F k T):=
 .tup A.out (.cons A.stm.sh (.cons (zbc3 A.tab) .nil))
theorem zch4 {H:Hp}{v:V}{xss:List (List (Int×Int×Int))}{F k:Nat}{T:Nat->Nat->Int}(h:ShV H v (papN xss F k T)):∃ p st tb rs qs,v=.ref p/\PapS H p st tb rs xss qs F k T:=by
 unfold papN at h
 cases h with
 | tup e l=>
  cases l with
  | cons a l=>
   obtain⟨st,rs,rfl,S⟩:=stN_of a
   cases l with
   | cons a l=>
    obtain⟨tb,qs,rfl,G⟩:=zbc7 a
    cases l
    exact⟨_,st,tb,rs,qs,rfl,e,S,G⟩
theorem zbc2 {n m:Nat}(hn:n<=1000) (hm:m<=1000) (g:Nat->Nat->Int):okD 2 (zbf7 n m g):=okD.list (n:=1) (by rw[zcp2,zcr3];exact hn) fun d hd=>by
 obtain⟨x,_,rfl⟩:=zcr9.mp hd
 exact okD.list (n:=0) (by rw[zcp2,zcr3];exact hm) fun d hd=>by
  obtain⟨y,_,rfl⟩:=zcr9.mp hd
  exact okI _ _
theorem fdN_ok {n m:Nat}(hn:n<=100) (hm:m<=100) (f:Fd):okD 3 (fdN n m f):=by
 have two:∀ (w:Str) (i j:Int),PyData.strOk w=true->okD 3 (.tuple [.str w,.int i,.int j]):=fun w i j hw=>okD.tuple (n:=2) (by simp) fun d hd=>by
  simp only[zcq6,zcs4,or_false] at hd
  rcases hd with rfl|rfl|rfl
  ·exact⟨rfl,hw,zct3 _⟩
  ·exact okI _ _
  ·exact okI _ _
 cases f with
 | more w t=>exact two _ _ _ (by decide +kernel)
 | lead w t=>exact two _ _ _ (by decide +kernel)
 | tab g=>
  refine okD.tuple (n:=2) (by simp) fun d hd=>?_
  simp only[zcq6,zcs4,or_false] at hd
  rcases hd with rfl|rfl
  ·exact⟨rfl,by decide +kernel,zct3 _⟩
  ·exact zbc2 (by walk_at "om") (by walk_at "om") g
theorem zcb0 {n m:Nat}{fs:List Fd}(O:OkB n m fs):okD 5 (batN n m fs):=okD.tuple (n:=4) (by simp) fun d hd=>by
 have o1:=O.1
 have o2:=O.2
 simp only[zcq6,zcs4,or_false] at hd
 rcases hd with rfl|rfl|rfl
 ·exact okI _ _
 ·exact okI _ _
 ·exact okD.list (n:=3) (by rw[zcp2];omega) fun d hd=>by
   obtain⟨f,_,rfl⟩:=zcr9.mp hd
   exact fdN_ok (by walk_at "om") (by walk_at "om") f
theorem zcg8 {xss:List (List (Int×Int×Int))}{F k:Nat}{T:Nat->Nat->Int}(hl:xss.length<64) (h:∀ xs∈xss,xs.length<64) (hF:F<=1000) (hk:k<=1000):okD 5 (papN xss F k T):=okD.tuple (n:=4) (by simp) fun d hd=>by
 simp only[zcq6,zcs4,or_false] at hd
 rcases hd with rfl|rfl
 ·rw[zba3]
  exact (zbi0 hl h).up (by decide)
 ·exact (zbc2 hF hk T).up (by decide)
theorem zam6 {d e:PyData}{n:Nat}(hd:okD n d) (he:okD n e):okD (n+1) (.list [d,e]):=okD.list (by simp) fun x hx=>by
 simp only[zcq6,zcs4,or_false] at hx
 rcases hx with rfl|rfl
 ·exact hd
 ·exact he
theorem zad1 {α:Type}(c:Int):∀ xs:List α,(xs.map fun _=>c).sum=(xs.length:Int)*c
 | []=>by simp
 | x :: xs=>by
  rw[zcs0,zct9,zad1 c xs,zcr8]
  push_cast
  rw[Int.add_mul,Int.one_mul,Int.add_comm]
theorem zam3 {ms:List (List Int×Int)}{h:Int}{f:Nat}(O:OkS ms h f) (hl:ms.length<=5) (hw:∀ x∈ms,x.2<=10 ^ 20):1<=zj2 ms/\zj2 ms<=5*10 ^ 20:=by
 have ne:=O.ne
 have h1:=zac9 (f:=fun _:List Int×Int=>(1:Int)) (g:=fun x=>x.2) (xs:=ms) fun x hx=>(O.all x hx).2.2.2
 have h2:=zac9 (f:=fun x:List Int×Int=>x.2) (g:=fun _=>(10:Int) ^ 20) (xs:=ms) hw
 rw[zad1] at h1 h2
 unfold zj2
 exact⟨by walk_at "om",by walk_at "om"⟩
theorem zad3 {ms:List (List Int×Int)}{h:Int}{f i:Nat}{xs:List (Int×Int×Int)}(O:OkS ms h f) (hi:i<f) (R:zx3 ms i xs):(xs.map fun z=>z.2.2).sum=zj2 ms:=by
 have e1:(xs.map fun z=>z.2.2)=(xs.map keyT).map fun k=>atG (flw ms i) k*(fun _=>(1:Int)) k:=by
  rw[zcs9]
  exact zcr2 fun z hz=>by
   show z.2.2=atG (flw ms i) (keyT z)*1
   rw[← (zr5 O hi R hz).2.2.1,Int.mul_one]
 rw[e1,zaj9 R.1.1 (fun _=>(1:Int)) fun z hz=>(R.2.1 _).mpr ((zn2 _).2 _ |>.mpr (zcr9.mpr ⟨z,hz,rfl⟩))]
 unfold flw zj2
 rw[zcs9]
 exact congrArg List.sum (zcr2 fun x _=>Int.mul_one _)
theorem zbs9 {ms:List (List Int×Int)}{h:Nat}{f i:Nat}{xs:List (Int×Int×Int)}(O:OkS ms h f) (hl:ms.length<=5) (hw:∀ x∈ms,x.2<=10 ^ 20) (hi:i<f) (R:zx3 ms i xs) (hx:xs.length<=ms.length):zu6 h xs:=by
 refine⟨by walk_at "om",fun z hz=>?_⟩
 obtain⟨x,hx,e1,e2⟩:=zao0 R hz
 obtain⟨nn,xl,xs',_⟩:=O.all x hx
 obtain⟨a,b,c,d⟩:=zr5 O hi R hz
 have m1:=(zp2 nn).1 (x.1.getD i 0) (by
  rw[zcp6,zcp1 (by walk_at "om")]
  exact zcw2 _)
 have m2:z.2.2<=zj2 ms:=by
  rw[← zad3 O hi R]
  exact (zp2 (ns:=xs.map fun z=>z.2.2) (fun y hy=>by
   obtain⟨z',hz',rfl⟩:=zcr9.mp hy
   have:=(zr5 O hi R hz').2.2.2
   omega)).1 _ (zcr9.mpr ⟨z,hz,rfl⟩)
 have:=zam3 O hl hw
 exact⟨⟨a,by walk_at "om"⟩,by walk_at "om",by walk_at "om"⟩
theorem zbb3 {ms:List (List Int×Int)}{h:Nat}{f:Nat}{xss:List (List (Int×Int×Int))}(O:OkS ms h f) (hl:ms.length<=5) (hw:∀ x∈ms,x.2<=10 ^ 20) (S:zaa5 ms f xss):∀ xs∈xss,zu6 h xs/\xs.length<64:=fun xs hx=>by
 obtain⟨i,ei⟩:=zcu9 hx
 have:=(zcp4.mp ei).1
 have sl:=S.1
 obtain⟨R,l⟩:=S.2 i xs ei
 exact⟨zbs9 O hl hw (by walk_at "om") R l,by walk_at "om"⟩
theorem due_bd {ms:List (List Int×Int)}{n m:Nat}{f i c:Nat}{sd:Bool}{fd:Fd}{xs:List (Int×Int×Int)}(O:OkS ms (ownH sd n m:Nat) f) (hl:ms.length<=5) (hw:∀ x∈ms,x.2<=10 ^ 20) (ok:fd.Ok) (bd:fd.Bd n m) (hi:i<f) (R:zx3 ms i xs) (hc:c<=othH sd n m):-(10 ^ 50)<=dueS sd fd xs c/\dueS sd fd xs c<=10 ^ 50:=by
 rw[zbl4 O hi R]
 have each:∀ x∈ms,-(2*10 ^ 48)<=x.2*wonS sd fd (x.1.getD i 0).toNat c/\x.2*wonS sd fd (x.1.getD i 0).toNat c<=2*10 ^ 48:=fun x hx=>by
  obtain⟨nn,xl,xs',x1⟩:=O.all x hx
  have x2:=hw x hx
  have m1:=(zp2 nn).1 (x.1.getD i 0) (by
   rw[zcp6,zcp1 (by walk_at "om")]
   exact zcw2 _)
  have wb:-(2*10 ^ 28)<=wonS sd fd (x.1.getD i 0).toNat c/\wonS sd fd (x.1.getD i 0).toNat c<=2*10 ^ 28:=by
   cases sd
   ·have xs':x.1.sum=(n:Int):=xs'
    have hc:c<=m:=hc
    exact Fd.won_bd ok bd (by walk_at "om") hc
   ·have xs':x.1.sum=(m:Int):=xs'
    have hc:c<=n:=hc
    exact Fd.won_bd ok bd hc (by walk_at "om")
  generalize wonS sd fd (x.1.getD i 0).toNat c=y at wb ⊢
  have p1:=zcv4 wb.2 (show 0<=x.2 by walk_at "om")
  have p2:=zcv4 wb.1 (show 0<=x.2 by walk_at "om")
  generalize x.2*y=z at p1 p2 ⊢
  exact⟨by walk_at "om",by walk_at "om"⟩
 have h1:=zac9 (f:=fun _:List Int×Int=>-(2*(10:Int) ^ 48)) (xs:=ms) fun x hx=>(each x hx).1
 have h2:=zac9 (g:=fun _:List Int×Int=>2*(10:Int) ^ 48) (xs:=ms) fun x hx=>(each x hx).2
 rw[zad1] at h1 h2
 exact⟨by walk_at "om",by walk_at "om"⟩
theorem zbz3 {sd:Bool}{C:Nat}{B:Int}(hB:0<=B):∀ {ds:List (Nat->Int)},(∀ d∈ds,∀ c,c<=C->-B<=d c/\d c<=B)->∀ r,r<=C->-((ds.length:Int)*B)<=tabR sd ds r/\tabR sd ds r<=(ds.length:Int)*B
 | [],_,r,_=>by
  show -(((0:Nat):Int)*B)<=0/\0<=((0:Nat):Int)*B
  simp
 | [d],h,r,hr=>by
  have:=h d (.head _) r hr
  show -(((1:Nat):Int)*B)<=d r/\d r<=((1:Nat):Int)*B
  simpa using this
 | d :: e :: ds,h,r,hr=>by
  have ih:=zbz3 (sd:=sd) hB (ds:=e :: ds) (fun x hx=>h x (.tail _ hx))
  obtain⟨s,hs,es⟩:=zcr9.mp (zan5 sd (xs:=(List.range (r+1)).map fun s=>d s+tabR sd (e :: ds) (r - s)) (by simp))
  have hs:=zcu0.mp hs
  show -(((d :: e :: ds).length:Int)*B)<=optL sd ((List.range (r+1)).map fun s=>d s+tabR sd (e :: ds) (r - s))/\optL sd ((List.range (r+1)).map fun s=>d s+tabR sd (e :: ds) (r - s))<=((d :: e :: ds).length:Int)*B
  rw[← es]
  have a1:=h d (.head _) s (by walk_at "om")
  have a2:=ih (r - s) (by walk_at "om")
  have e3:((d :: e :: ds).length:Int)*B=((e :: ds).length:Int)*B+B:=by
   rw[zcr8]
   push_cast
   rw[Int.add_mul,Int.one_mul]
  rw[e3]
  exact⟨by walk_at "om",by walk_at "om"⟩
theorem top_bd {ms:List (List Int×Int)}{n m:Nat}{sd:Bool}{fs:List Fd}{xss:List (List (Int×Int×Int))}(O:OkS ms (ownH sd n m:Nat) fs.length) (hl:ms.length<=5) (hw:∀ x∈ms,x.2<=10 ^ 20) (S:zaa5 ms fs.length xss) (ok:∀ f∈fs,f.Ok) (bd:∀ f∈fs,f.Bd n m) (h5:fs.length<=5):-(10 ^ 60)<=tabR sd (ze2 sd fs xss) (othH sd n m)/\tabR sd (ze2 sd fs xss) (othH sd n m)<=10 ^ 60:=by
 have t:=zbz3 (sd:=sd) (C:=othH sd n m) (B:=10 ^ 50) (by decide) (ds:=ze2 sd fs xss) (fun d hd c hc=>by
  unfold ze2 at hd
  obtain⟨k,hk,rfl⟩:=zcr9.mp hd
  have hk:=zcu0.mp hk
  have g1:fs.getD k (.more 0 0)∈fs:=by rw[zcp6,zcp1 hk];exact zcw2 _
  have g2:xss[k]?=some (xss.getD k []):=by rw[zcp6,zcp1 (by rw[S.1];exact hk)];rfl
  exact due_bd O hl hw (ok _ g1) (bd _ g1) hk (S.2 k _ g2).1 hc) (othH sd n m) (zcq9 _)
 rw[zao1] at t
 exact⟨by walk_at "om",by walk_at "om"⟩
theorem zaj3 {t b:Int}{m:Int}(hm:0<m) (hb:0<b):lowT (m*t) (m*b)=lowT t b/\lowB (m*t) (m*b)=lowB t b:=by
 have hmb:0<m*b:=Int.mul_pos hm hb
 have g:(((m*t).gcd (m*b):Nat):Int)=m*(t.gcd b:Int):=by
  rw[Int.gcd_mul_left]
  push_cast
  rw[Int.natAbs_of_nonneg (by walk_at "om")]
 have e1:lg (m*t) (m*b)=m*lg t b:=by
  unfold lg
  rw[if_neg (by walk_at "om"),if_neg (by walk_at "om"),g]
 rw[zam0,zak6,zam0,zak6,e1]
 exact⟨Int.mul_ediv_mul_of_pos _ _ hm,Int.mul_ediv_mul_of_pos _ _ hm⟩
theorem zci2 {t b u c:Int}(hb:0<b) (hc:0<c) (e:t*c=u*b):lowT t b=lowT u c/\lowB t b=lowB u c:=by
 have h1:=zaj3 (t:=t) (b:=b) hc hb
 have h2:=zaj3 (t:=u) (b:=c) hb hc
 have e1:c*t=b*u:=by rw[Int.mul_comm c,Int.mul_comm b];exact e
 rw[e1,Int.mul_comm c b] at h1
 exact⟨h1.1.symm.trans h2.1,h1.2.symm.trans h2.2⟩
theorem zby3 {t b:Int}(hb:0<b):0<lg t b:=by
 have:=zbo9 (t:=t) (b:=b) (by walk_at "om")
 unfold lg;rw[if_neg (by walk_at "om")];exact this
theorem zbj0 (t b:Int):lowT t b*b=t*lowB t b:=by
 have e1:=zan6 t b
 have e2:=zak2 t b
 have e3:lowT t b*(lg t b*lowB t b)=(lg t b*lowT t b)*lowB t b:=by
  rw[← Int.mul_assoc,Int.mul_comm (lowT t b)]
 rw[← e1,← e2] at e3
 exact e3
theorem zbp9 {t b u c:Int}(hb:0<b) (hc:0<c):(lowT u c*b<=t*lowB u c↔u*b<=t*c)/\(t*lowB u c<=lowT u c*b↔t*c<=u*b):=by
 have g:=zby3 (t:=u) hc
 have e1:lg u c*(lowT u c*b)=u*b:=by rw[← Int.mul_assoc,← zan6]
 have e2:lg u c*(t*lowB u c)=t*c:=by rw[Int.mul_left_comm,← zak2]
 rw[← e1,← e2]
 exact⟨(Int.mul_le_mul_left g).symm,(Int.mul_le_mul_left g).symm⟩
theorem zch3 {t b u c:Int}(hb:0<b) (hc:0<c):lowT t b*lowB u c<=lowT u c*lowB t b↔t*c<=u*b:=by
 have g:=zby3 (t:=t) hb
 rw[← (zbp9 hb hc).2]
 have e1:lg t b*(lowT t b*lowB u c)=t*lowB u c:=by rw[← Int.mul_assoc,← zan6]
 have e2:lg t b*(lowT u c*lowB t b)=lowT u c*b:=by rw[Int.mul_left_comm,← zak2]
 rw[← e1,← e2]
 exact (Int.mul_le_mul_left g).symm
theorem low_bd {t b:Int}(ht:-(10 ^ 60)<=t/\t<=10 ^ 60) (hb:1<=b/\b<=5*10 ^ 20):(-(10 ^ 200)<lowT t b/\lowT t b<10 ^ 200)/\(-(10 ^ 200)<lowB t b/\lowB t b<10 ^ 200):=by
 have h1:=zch7 t b
 have h2:=zcd5 t b
 have p:(10:Int) ^ 60<10 ^ 200:=by decide
 have p2:5*(10:Int) ^ 20<10 ^ 200:=by decide
 generalize (10:Int) ^ 200=N at p p2 ⊢
 exact⟨⟨by walk_at "om",by walk_at "om"⟩,by walk_at "om",by walk_at "om"⟩
def spLaw (K:zcp3):Sp:=fun vs H Q _=>∃ (a:Addr) (ns:List Int),vs=[.ref a]/\SqL K H a (ns.map V.int)/\ns.length<=63/\∀ H',Q (.bl true) H'
theorem zar1 {ns:List Int}(h:ns.length<=63):[V.int 0].length+(cutV (ns.map V.int) none (some 30)).length<=sizeLine:=by
 rw[zag0 (by decide),zcv1,zcp2,sizeLine_eq,zcw1];omega
theorem zar9 {ns:List Int}{i:Nat}{x:V}(h:([V.int 0]++cutV (ns.map V.int) none (some 30))[i]?=some x):∃ z,x=.int z:=by
 rw[zag0 (by decide)] at h
 rcases zct7.mp (zcp9 h) with h|h
 ·exact⟨0,by simpa using h⟩
 ·obtain⟨z,_,rfl⟩:=zcr9.mp (List.mem_of_mem_take h)
  exact⟨z,rfl⟩
def off3 (a b c:Addr) (H:Hp):Hp:=rm a (rm b (rm c H))
theorem zae0 {a b c x:Addr}{H:Hp}{o:HO}(n1:x≠a) (n2:x≠b) (n3:x≠c) (h:H x=some o):off3 a b c H x=some o:=zw9 n1 (zw9 n2 (zw9 n3 h))
theorem zbi1 {a b c x:Addr}{H:Hp}{o:HO}(h:off3 a b c H x=some o):x≠a/\x≠b/\x≠c/\H x=some o:=⟨(zt1 h).1,(zt1 (zt1 h).2).1,(zt1 (zt1 (zt1 h).2).2).1,(zt1 (zt1 (zt1 h).2).2).2⟩
theorem zar7 (a b c:Addr) (H:Hp):Same (off3 a b c H) H:=fun x o h=>(zbi1 h).2.2.2
theorem zal4 {a b c:Addr}{H H':Hp}(k:∀ x o,x≠a->x≠b->x≠c->H x=some o->H' x=some o):Same (off3 a b c H) (off3 a b c H'):=fun x o h=>by
 obtain⟨n1,n2,n3,e⟩:=zbi1 h
 exact zae0 n1 n2 n3 (k x o n1 n2 n3 e)
theorem zao2 {a b c:Addr}{H H':Hp}(s:Same H H'):Same (off3 a b c H) (off3 a b c H'):=zal4 fun x o _ _ _ e=>s x o e
theorem zbi2 {a b c:Addr}{H H':Hp}(s:Chg a H H'):Same (off3 a b c H) (off3 a b c H'):=zal4 fun x o n _ _ e=>s x o n e
theorem zca0 {a b c:Addr}{H H':Hp}(s:Chg b H H'):Same (off3 a b c H) (off3 a b c H'):=zal4 fun x o _ n _ e=>s x o n e
theorem off3_c {a b c:Addr}{H H':Hp}(s:Chg c H H'):Same (off3 a b c H) (off3 a b c H'):=zal4 fun x o _ _ n e=>s x o n e
theorem zbn7 {a b c:Addr}{H H':Hp}{u v w:HO}(ha:H a=some u) (hb:H b=some v) (hc:H c=some w):Same (nw H H') (off3 a b c H'):=fun x o h=>by
 obtain⟨e1,e2⟩:=zy8 h
 exact zae0 (fun z=>by rw[z,ha] at e1;cases e1) (fun z=>by rw[z,hb] at e1;cases e1) (fun z=>by rw[z,hc] at e1;cases e1) e2
structure Sde where
 p:Addr
 w:Addr
 xss:List (List (Int×Int×Int))
 ms:List (List Int×Int)
def topS (sd:Bool) (n m:Nat) (fs:List Fd) (xss:List (List (Int×Int×Int))):Int:=tabR sd (ze2 sd fs xss) (othH sd n m)
def Sde.t (e:Sde) (sd:Bool) (n m:Nat) (fs:List Fd):Int:=lowT (topS sd n m fs e.xss) (zj2 e.ms)
def Sde.b (e:Sde) (sd:Bool) (n m:Nat) (fs:List Fd):Int:=lowB (topS sd n m fs e.xss) (zj2 e.ms)
structure SdAt (R:Hp) (n m:Nat) (fs:List Fd) (sd:Bool) (e:Sde):Prop where
 pap:∃ st tb rs qs,PapS R e.p st tb rs e.xss qs fs.length (othH sd n m+1) (fun k=>tabR sd ((ze2 sd fs e.xss).drop k))
 wor:R e.w=some (.tup [.int (e.t sd n m fs),.int (e.b sd n m fs)])
 oks:OkS e.ms (ownH sd n m:Nat) fs.length
 stm:zaa5 e.ms fs.length e.xss
 len:e.ms.length<=5
 wts:∀ x∈e.ms,x.2<=10 ^ 20
theorem SdAt.same {R R':Hp}{n m:Nat}{fs:List Fd}{sd:Bool}{e:Sde}(S:SdAt R n m fs sd e) (s:Same R R'):SdAt R' n m fs sd e:=by
 obtain⟨st,tb,rs,qs,P⟩:=S.pap
 exact⟨⟨st,tb,rs,qs,P.same s⟩,s _ _ S.wor,S.oks,S.stm,S.len,S.wts⟩
theorem zat7 {sd:Bool}{fs:List Fd}{xss:List (List (Int×Int×Int))}{k c:Nat}(hk:k<fs.length):∀ x∈bndS (fun k=>dueS sd (fs.getD k (.more 0 0)) (xss.getD k [])) (fun k=>tabR sd ((ze2 sd fs xss).drop k)) fs.length k c,zl4 sd (tabR sd ((ze2 sd fs xss).drop k) c) x=true:=fun x hx=>by
 rw[zbb7 hk (fun _ _=>rfl)] at hx
 rw[zag3,(zbj7 sd (zbr0 (sd:=sd) (xss:=xss) hk) c).1]
 exact zx7 sd x hx
theorem zbb8 (sd:Bool) (t b:Int):zl4 sd (lowT t b*b) (t*lowB t b)=true:=by
 rw[zag3,zbj0]
 unfold leS
 split<;>exact Int.le_refl _
theorem zbh2 {sd:Bool}{t b u c:Int}(hb:0<b) (hc:0<c) (hw:if sd then u*b<=t*c else t*c<=u*b):zl4 sd (lowT u c*b) (t*lowB u c)=decide (lowT u c=lowT t b/\lowB u c=lowB t b):=by
 have eqs:t*c=u*b->lowT u c=lowT t b/\lowB u c=lowB t b:=fun e=>by
  have:=zci2 hb hc e
  exact⟨this.1.symm,this.2.symm⟩
 have back:lowT u c=lowT t b/\lowB u c=lowB t b->zl4 sd (lowT u c*b) (t*lowB u c)=true:=fun ⟨e1,e2⟩=>by rw[e1,e2];exact zbb8 sd t b
 by_cases d:lowT u c=lowT t b/\lowB u c=lowB t b
 ·rw[decide_eq_true d,back d]
 ·rw[decide_eq_false d]
  cases ek:zl4 sd (lowT u c*b) (t*lowB u c) with
  | false=>rfl
  | true=>
   exfalso
   rw[zag3] at ek
   unfold leS at ek
   apply d
   apply eqs
   cases sd
   ·have hw:t*c<=u*b:=hw
    have ek:lowT u c*b<=t*lowB u c:=ek
    have:=(zbp9 hb hc).1.mp ek
    omega
   ·have hw:u*b<=t*c:=hw
    have ek:t*lowB u c<=lowT u c*b:=ek
    have:=(zbp9 hb hc).2.mp ek
    omega
theorem SdAt.bds {R:Hp}{n m:Nat}{fs:List Fd}{sd:Bool}{e:Sde}(S:SdAt R n m fs sd e) (ok:∀ f∈fs,f.Ok) (bd:∀ f∈fs,f.Bd n m) (h5:fs.length<=5):(-(10 ^ 60)<=topS sd n m fs e.xss/\topS sd n m fs e.xss<=10 ^ 60)/\(1<=zj2 e.ms/\zj2 e.ms<=5*10 ^ 20)/\((-(10 ^ 200)<e.t sd n m fs/\e.t sd n m fs<10 ^ 200)/\(-(10 ^ 200)<e.b sd n m fs/\e.b sd n m fs<10 ^ 200)):=by
 have h1:=top_bd S.oks S.len S.wts S.stm ok bd h5
 have h2:=zam3 S.oks S.len S.wts
 exact⟨h1,h2,low_bd h1 h2⟩
theorem SdAt.row0 {R:Hp}{n m:Nat}{fs:List Fd}{sd:Bool}{e:Sde}(S:SdAt R n m fs sd e) (h1:1<=fs.length):((e.xss.getD 0 []).map fun z=>z.2.2).sum=zj2 e.ms:=by
 have xl:=S.stm.1
 have g:e.xss[0]?=some (e.xss.getD 0 []):=by rw[zcp6,zcp1 (by walk_at "om")];rfl
 exact zad3 S.oks (by walk_at "om") (S.stm.2 0 _ g).1
theorem zbg3 {R:Hp}{n m:Nat}{fs:List Fd}{e0 e1:Sde}(S:SdAt R n m fs false e0) (S':SdAt R n m fs true e1):topS false n m fs e0.xss*zj2 e1.ms<=topS true n m fs e1.xss*zj2 e0.ms:=
 weak (a:=n) (c:=m) S.oks S'.oks S.stm S'.stm rfl
theorem zbd3 {x:Int}(h:-(10 ^ 60)<=x/\x<=10 ^ 60):-(10 ^ 200)<x/\x<10 ^ 200:=by
 have p:(10:Int) ^ 60<10 ^ 200:=by decide
 generalize (10:Int) ^ 200=N at p ⊢
 exact⟨by walk_at "om",by walk_at "om"⟩
theorem zau0 {x:Int}(h:1<=x/\x<=5*10 ^ 20):-(10 ^ 200)<x/\x<10 ^ 200:=by
 have p:5*(10:Int) ^ 20<10 ^ 200:=by decide
 generalize (10:Int) ^ 200=N at p ⊢
 exact⟨by walk_at "om",by walk_at "om"⟩
theorem zbj3 {i:Nat}(h:i<2):∃ sd:Bool,decide (i=1)=sd/\(i:Int)=sdI sd:=by
 rcases (show i=0∨i=1 by walk_at "om") with rfl|rfl
 ·exact⟨false,rfl,rfl⟩
 ·exact⟨true,rfl,rfl⟩
theorem two_of {es:List Sde}(h:es.length=2):∃ e0 e1,es=[e0,e1]:=by
 match es,h with
 | [x,y],_=>exact⟨x,y,rfl⟩
def own2 (e0 e1:Sde) (sd:Bool):Sde:=if sd then e1 else e0
set_option maxHeartbeats 0 in
theorem ok_law {f:Addr}{fd:FuncData}(F:Fun K "law" "law" zan2 f fd) (N:Nm mg) (zcl1:Def P w K mg base CX0 5 "_law_battle" ["_law_left_here","_law_most","_law_fields"] zf0) (zck0:Def P w K mg base CX0 10 "_law_deep" ["_law_thing"] zk5) (zci8:Def P w K mg base CX0 2 "_law_draw" ["_law_left_here","_law_base"] zc9) (zcm9:Def P w K mg base CX0 2 "_law_left" ["_law_script","_law_k"] zh1) (zcl2:Def P w K mg base CX0 1 "_law_lowest" ["_law_top","_law_bottom"] ze6) (zck1:Def P w K mg base CX0 10 "_law_refused" ["_law_battle_here","_law_side","_law_paper"] zc8) (zcl3:Def P w K mg base CX0 4 "_law_stream" ["_law_left_here","_law_hosts","_law_many"] ze8) (zcl7:Def P w K mg base CX0 3 "_law_table" ["_law_battle_here","_law_side","_law_stream_here"] zf7) (zcl0:Def P w K mg base (CXR P w) 9 "judged" ["battle","side","worth","paper"] (zg3 zci6 zci7)):FnOk P w K mg base CX0 12 f fd ["_law_script"] (spLaw K):=by
 refine F.ok zp8 (fun vs H Q E h=>by obtain⟨n,k,rfl,_⟩:=h;rfl) (fun cdv A outer s H vs Q E hr h=>?_)
 obtain⟨a,ns0,rfl,hS,hlen,k⟩:=h
 have hu:=hu40 hr
 refine⟨_,(za4 (zu5 PassesOwn.never rfl (zi0 (K:=K) rfl (zb5 oAdd (zk1 (za0 za2 za1)) (zq2 (slXK (K:=K) rfl) (pq 0) zt4 (zz8 za2)))) (za7 (i:=1) zp8.nd rfl (by first|exact Or.inl rfl|exact Or.inr rfl)) (za4 (psS (i:=2) zp8.nd (pD zcm9 hr zb7 (za0 (zk1 (za0 (pq 1) za1)) (za0 za2 za1))))
   (za4 (psS (i:=3) zp8.nd (pD zcl1 hr zb7 (za0 (pq 2) (za0 (za8 (K:=K) rfl (zk1 (za0 za2 (za0 za2 za1))) (pD zci8 hr zb7 (za0 (pq 2) (za0 za2 za1)))) (za0 za2 za1)))))
   (za4 (psS (i:=4) zp8.nd (zk1 za1))
   (za4 (psS (i:=5) zp8.nd (zk1 za1))
   (za4 (zu5 PassesOwn.never rfl (zn9 N.range_ (za0 za2 za1)) (za7 (i:=6) zp8.nd rfl (by first|exact Or.inl rfl|exact Or.inr rfl)) (za4 (psS (i:=7) zp8.nd (pD zcl3 hr zb7 (za0 (pq 2) (za0 (za8 (K:=K) rfl (pq 3) (pq 6)) (za0 (pB (zq4 (K:=K) rfl) N.len_ zj5 (za0 (za8 (K:=K) rfl (pq 3) za2) za1)) za1)))))
   (za4 (zs0 (zm7 (pq 4) (za0 (zn8 (za0 (pq 7) (za0 (pD zcl7 hr zb7 (za0 (pq 3) (za0 (pq 6) (za0 (pq 7) za1)))) za1))) za1)))
   (za5 (zs0 (zm7 (pq 5) (za0 (pD zcl2 hr zb7 (za0 (za8 (K:=K) rfl (za8 (K:=K) rfl (za8 (K:=K) rfl (za8 (K:=K) rfl (pq 4) (pq 6)) za2) za2) (zap3 uNeg za2)) (za0 (pB (zbq8 (K:=K) rfl rfl) N.sum_ zao7 (za0 (zf4 (N:=["_law_part"]) (ks:=[none]) (zi0 (K:=K) rfl (za8 (K:=K) rfl (pq 7) za2)) (fun cl C s3 H3 fp=>(za7 (i:=0) nb_24 rfl (by first|exact Or.inl rfl|exact Or.inr rfl))) (fun cl C s3 H3 fp=>zc7) (fun cl C s3 H3 fp=>(za8 (K:=K) rfl (pq 0) za2)) (.skip .nil)) za1)) za1))) za1)))))))
   (za4 (psIf (ptC oGt (zb5 oMul (za8 (K:=K) rfl (za8 (K:=K) rfl (pq 5) za2) za2) (za8 (K:=K) rfl (za8 (K:=K) rfl (pq 5) za2) za2)) (zb5 oMul (za8 (K:=K) rfl (za8 (K:=K) rfl (pq 5) za2) za2) (za8 (K:=K) rfl (za8 (K:=K) rfl (pq 5) za2) za2))) (za5 (za9 zab7)) zb8)
   (za4 (zu5 PassesOwn.never rfl (zn9 N.range_ (za0 za2 za1)) (za7 (i:=6) zp8.nd rfl (by first|exact Or.inl rfl|exact Or.inr rfl)) (za4 (psS (i:=8) zp8.nd (za8 (K:=K) rfl (zk1 (za0 zd1 (za0 zd1 za1))) (pq 6)))
   (za4 (psS (i:=9) zp8.nd (zk1 (za0 (pD zck0 hr zb7 (za0 (pq 3) za1)) (za0 (pD zck0 hr zb7 (za0 (za8 (K:=K) rfl (pq 4) (pq 6)) za1)) za1))))
   (za4 (psIf (ptW (pwOr (ptC zce7 (pD zcl0 hr zby6 (za0 (za8 (K:=K) rfl (pq 9) za2) (za0 (pq 8) (za0 (za8 (K:=K) rfl (pq 5) (pq 6)) (za0 (za8 (K:=K) rfl (pq 9) za2) za1))))) zv0) (zz7 (ptC (zaw4 (K:=K) rfl (by exact hu)) (pq 9) (zk1 (za0 (pq 3) (za0 (za8 (K:=K) rfl (pq 4) (pq 6)) za1))))))) (za5 (za9 zab7)) zb8)
   (za4 (psS (i:=10) zp8.nd (za8 (K:=K) rfl (pq 5) (zb5 oSub za2 (pq 6))))
   (za4 (psS (i:=11) zp8.nd (pD zcl0 hr zby6 (za0 (za8 (K:=K) rfl (pq 9) za2) (za0 (pq 8) (za0 (pq 10) (za0 (za8 (K:=K) rfl (pq 9) za2) za1))))))
   (za5 (psIf (ptC (zaw4 (K:=K) rfl (by exact hu)) (pq 11) (za8 (K:=K) rfl (zk1 (za0 (zn8 (za0 zd1 za1)) (za0 zv0 za1))) (pT cInt N.int_ zaf4 (za0 (peC (zak0 (K:=K) rfl (by exact hu)) (pq 10) (za8 (K:=K) rfl (pq 5) (pq 6))) za1)))) (za5 (za9 zab7)) zb8))))))))
   (za4 (psS (i:=12) zp8.nd (za8 (K:=K) rfl (zk1 (za0 zd1 (za0 zd1 (za0 zd1 (za0 zd1 (za0 zd1 za1)))))) (pD zci8 hr zb7 (za0 (pq 2) (za0 za2 za1)))))
   (za5 (psIf (ptW (pwOr (ptC (zaw4 (K:=K) rfl (by exact hu)) (pD zck1 hr zb7 (za0 (pq 3) (za0 (pq 12) (za0 (za8 (K:=K) rfl (pq 4) za2) za1)))) zd1) (zz7 (ptC (zaw4 (K:=K) rfl (by exact hu)) (pD zck1 hr zb7 (za0 (zn8 (za0 (zap3 uNeg za2) (za0 za2 (za0 (zk1 za1) za1)))) (za0 (pq 12) (za0 (za8 (K:=K) rfl (pq 4) za2) za1)))) zd1)))) (za5 (za9 zab7)) zb8)))))))))))
   (za5 (za9 zab7))),?_⟩
 refine zc4 (fun p1 H1 hf1 hs1 ha1=>?_)
 refine zai3 (hs1.seq hS) (fun p2 H2 hf2 hs2 ha2=>?_)
 refine zby9 (hs2 _ _ ha1) ha2 (zar1 hlen) (fun p3 H3 hf3 hs3 ha3=>?_)
 refine zc6 ha3 ?_
 refine zs6 (xs:=[V.int 0]++cutV (ns0.map V.int) none (some 30)) (fun i σ H4=>∃ x1 x2 x3 x4 x5 x6 x7 x8 x9 x10 x11 x12:Option V,σ=[some (.ref a),x1,x2,x3,x4,x5,x6,x7,x8,x9,x10,x11,x12]/\Same H3 H4) ?_ ?_ ?_ ?_
 ·exact⟨_,_,_,_,_,_,_,_,_,_,_,_,rfl,Same.refl _⟩
 ·rintro i σ H4 _ ⟨_,_,_,_,_,_,_,_,_,_,_,_,_,h⟩
  exact SqL.of (h _ _ ha3)
 ·rintro i x σ H4 hi ⟨x1,x2,x3,x4,x5,x6,x7,x8,x9,x10,x11,x12,rfl,s4⟩
  obtain⟨z,rfl⟩:=zar9 hi
  refine zc4 (fun c5 H5 f5 s5 h5=>?_)
  refine zcd4 h5 (fun pl H6 f6 s6 L6=>?_)
  have fpl:H3 pl=none:=(s4.trans s5).free f6
  have s36:Same H3 H6:=(s4.trans s5).trans s6
  refine zc4 (fun q7 H7 f7 s7 h7=>?_)
  refine zg2 (L6.same s7) (by walk_at "om") (by walk_at "om") (by walk_at "om") (fun d8 H8 d80 d81 c8 L8=>?_)
  have h78:=c8 _ _ (L6.ne f7) h7
  refine zt8 h78 (by walk_at "om") (by simp only[zcr8,zcu4];omega) ?_
  intro v hv
  obtain⟨t,rfl,ht⟩:∃ t:Nat,v=.int t/\t<=10:=by
   simp only[zcq6,zcs4,or_false] at hv
   rcases hv with rfl|rfl
   ·exact⟨4,rfl,by walk_at "om"⟩
   ·exact⟨10,rfl,by walk_at "om"⟩
  clear hv h78 h7
  have s38:Same H3 H8:=(s36.trans s7).chg fpl c8
  refine zal1 ht L8 (by walk_at "om") (fun bt l ps n m fs H9 c9 L9 B9 O D=>?_)
  have s39:=s38.chg fpl c9
  have bl:=B9.len
  have o1:=O.1
  have o2:=O.2
  have oks:=B9.oks
  refine zc4 (fun pp H10 f10 s10 h10=>?_)
  refine zc4 (fun ww H11 f11 s11 h11=>?_)
  have npp:pp≠pl:=L9.ne f10
  have nww:ww≠pl:=(L9.same s10).ne f11
  have nwp:ww≠pp:=Ne.symm (za6 h10 f11)
  have fpp:H3 pp=none:=s39.free f10
  have fww:H3 ww=none:=(s39.trans s10).free f11
  have k9:Same (rm pl H9) (off3 pl pp ww H11):=fun x o e=>by
   obtain⟨n1,e1⟩:=zt1 e
   exact zae0 n1 (za6 e1 f10) (za6 (s10 _ _ e1) f11) (s11 _ _ (s10 _ _ e1))
  refine zf2 (by decide) (by decide) (by decide) (by decide) ?_
  refine zk7 (n:=2) (fun i σ I=>∃ (y7 y8 y9 y10 y11 y12 y13:Option V) (es:List Sde),σ=[some (.ref a),some (.int z),some (.ref pl),some (.ref bt),some (.ref pp),some (.ref ww),y7,y8,y9,y10,y11,y12,y13]/\Same H3 I/\zc1 I pl (11000+200*i)/\zi9 (off3 pl pp ww I) bt l ps n m fs/\I pp=some (.lst (es.map fun e=>V.ref e.p))/\I ww=some (.lst (es.map fun e=>V.ref e.w))/\es.length=i/\∀ (j:Nat) e,es[j]?=some e->SdAt (off3 pl pp ww I) n m fs (decide (j=1)) e) ?_ ?_ ?_
  ·exact⟨_,_,_,_,_,_,_,[],rfl,(s39.trans s10).trans s11,((L9.same s10).same s11).up (by walk_at "om"),B9.same k9,s11 _ _ h10,h11,rfl,fun j e h=>by simp at h⟩
  ·rintro i σ I hi2 ⟨y7,y8,y9,y10,y11,y12,y13,es,rfl,sI,LI,BI,hpp,hww,el,sd_⟩
   have hi2:i<2:=hi2
   obtain⟨sd,e1,e3⟩:=zbj3 hi2
   obtain⟨ho,hw⟩:=zac7 O sd
   obtain⟨opl,epl⟩:=LI.some
   have off:=zar7 pl pp ww
   rw[zcv6,e3]
   refine zb1 (v:=.int (ownH sd n m)) (off I _ _ BI.out) (by cases sd<;>rfl) ?_
   refine zb1 (v:=.ref l) (off I _ _ BI.out) rfl ?_
   refine zh3 (off I _ _ BI.lst) ?_
   rw[zcp2,bl]
   refine zbe0 LI (by walk_at "om") (by walk_at "om") (by walk_at "om") (by walk_at "om") (fun st rs xss ms I1 c1 L1 S1 SI OS ml mw=>?_)
   have S1:StW (off3 pl pp ww I1) st rs xss:=(S1.same (zbn7 epl hpp hww)).toW
   have B1:=BI.same (zbi2 (b:=pp) (c:=ww) c1)
   have hpp1:=c1 _ _ npp hpp
   have hww1:=c1 _ _ nww hww
   have rowsOk:=zbb3 OS ml mw SI
   have xl:=SI.1
   have whb:=zam3 OS ml mw
   have s31:=sI.chg fpl c1
   obtain⟨o1',epl1⟩:=L1.some
   refine zaf6 hpp1 ?_
   refine zbw9 (B1.same (off I1)) O D (S1.same (off I1)) xl (fun xs hx=>(rowsOk xs hx).1) (fun tb qs I2 s2 G2=>?_)
   have G2:=G2.same (zbn7 epl1 hpp1 hww1)
   have hpp2:=s2 _ _ hpp1
   refine zd6 (fun p I3 f3 s3 h3=>?_)
   have np1:p≠pl:=(L1.same s2).ne f3
   have np2:p≠pp:=Ne.symm (za6 hpp2 f3)
   have np3:p≠ww:=Ne.symm (za6 (s2 _ _ hww1) f3)
   refine zad8 (s3 _ _ hpp2) (by rw[zcp2,sizeLine_eq];omega) (fun I4 c4 h4=>?_)
   have h4:I4 pp=some (.lst ((es.map fun e=>V.ref e.p)++[.ref p])):=h4
   have s23:=s2.trans s3
   have hww4:=c4 _ _ nwp (s23 _ _ hww1)
   have k14:Same (off3 pl pp ww I1) (off3 pl pp ww I4):=(zao2 s23).trans (zca0 c4)
   have k24:Same (off3 pl pp ww I2) (off3 pl pp ww I4):=(zao2 s3).trans (zca0 c4)
   have S4:=S1.same k14
   have G4:=G2.same k24
   have hp4:=c4 _ _ np2 h3
   have L4:=((L1.same s23).chg c4 (Ne.symm npp))
   have P4:PapS (off3 pl pp ww I4) p st tb rs xss qs fs.length (othH sd n m+1) (fun k=>tabR sd ((ze2 sd fs xss).drop k)):=⟨zae0 np1 np2 np3 hp4,S4,G4⟩
   obtain⟨q0,eq0,hq0⟩:=(G4.same (off I4)).some (i:=0) (by walk_at "om")
   obtain⟨r,er⟩:∃ r,rs[0]?=some r:=⟨_,zcp1 (by have:=S4.len;omega)⟩
   obtain⟨xs,ex⟩:∃ r,xss[0]?=some r:=⟨_,zcp1 (by walk_at "om")⟩
   have R:=(S4.row 0 r xs er ex).same (off I4)
   have rl:=R.len
   have xs64:=(rowsOk xs (zcp9 ex)).2
   refine zaf6 hww4 ?_
   refine zb0 (v:=.ref p) h4 (by rw[← e3];exact zc5 (by rw[zct2 (by rw[zcp2];omega),zcp2,el,Nat.sub_self];rfl)) ?_
   refine zb1 (v:=.ref tb) hp4 rfl ?_
   refine zb0 (v:=.ref q0) (off I4 _ _ G4.out) (zc5 (j:=0) (by rw[zcp5,eq0];rfl)) ?_
   refine zb0 (v:=.int (topS sd n m fs xss)) hq0 (zay8 (n:=othH sd n m) (zl1 _ _) (zg1 (by walk_at "om"))) ?_
   refine zb0 (v:=.ref r.1) (off I4 _ _ S4.out) (zc5 (j:=0) (by rw[zcp5,er];rfl)) ?_
   refine zc6 R.out ?_
   refine zn6 (n:=(r.2.map V.ref).length) (Wk.list (SqL.of R.out)) (by rw[zcp2,sizeLine_eq];omega) (fun j=>.int (xs.getD j (0,0,0)).2.2) (fun _=>true) (fun j σ=>∃ t:Option V,σ=[t]) ⟨none,rfl⟩ ?_ ?_
   ·rintro j x σ J R' S' hj sJ hx ⟨_,rfl⟩ kk _
    rw[zcp5] at hx
    obtain⟨b,eb,rfl⟩:=zcp7.mp hx
    obtain⟨y,ey⟩:∃ y,xs[j]?=some y:=⟨_,zcp1 (by have:=(zcp4.mp eb).1;omega)⟩
    rw[show xs.getD j (0,0,0)=y by rw[zcp6,ey];rfl] at kk
    refine br_T ?_
    refine zb1 (v:=.int y.2.2) (sJ _ _ (R.row j b y eb ey)) rfl ?_
    walk_at "wh"
    exact kk rfl _ _ (Same.refl _) ⟨_,rfl⟩
   intro acc I5 f5 s5 h5
   rw[ze4,zau2 (by rw[zcp2,rl])] at h5
   refine zao8 h5 ?_
   rw[zad3 OS (by walk_at "om") (SI.2 0 xs ex).1]
   refine zbl5 (by walk_at "om") (by walk_at "om") (fun w I6 f6' s6' h6'=>?_)
   have hww6:=(s5.trans s6') _ _ hww4
   have nw1:w≠pl:=(L4.same s5).ne f6'
   have nw2:w≠pp:=Ne.symm (za6 (s5 _ _ h4) f6')
   have nw3:w≠ww:=Ne.symm (za6 (s5 _ _ hww4) f6')
   refine zad8 hww6 (by rw[zcp2,sizeLine_eq];omega) (fun I7 c7 h7=>?_)
   have k47:Same (off3 pl pp ww I4) (off3 pl pp ww I7):=(zao2 (s5.trans s6')).trans (off3_c c7)
   have k17:=k14.trans k47
   walk_at "wh"
   refine⟨_,_,_,_,_,_,_,es++[⟨p,w,xss,ms⟩],rfl,((((s31.trans s23).chg fpp c4).trans s5).trans s6').chg fww c7,(((L4.same s5).same s6').chg c7 (Ne.symm nww)).up (by push_cast;omega),B1.same k17,?_,?_,by rw[zcr0,el];rfl,fun j e ej=>?_⟩
   ·rw[c7 _ _ (Ne.symm nwp) ((s5.trans s6') _ _ h4),zcr5];rfl
   ·rw[h7,zcr5];rfl
   ·rcases zj1 ej with ⟨hj,ej⟩|⟨rfl,rfl⟩
    ·exact ((sd_ j e ej).same (zbi2 c1)).same k17
    ·rw[el,e1]
     exact⟨⟨st,tb,rs,qs,P4.same k47⟩,zae0 nw1 nw2 nw3 (c7 _ _ nw3 h6'),OS,SI,ml,mw⟩
  ·rintro σ I ⟨y7,y8,y9,y10,y11,y12,y13,es,rfl,sI,LI,BI,hpp,hww,el,sd_⟩
   have off:=zar7 pl pp ww
   obtain⟨e0,e1,rfl⟩:=two_of el
   have E0:SdAt I n m fs false e0:=(sd_ 0 e0 rfl).same (off I)
   have E1:SdAt I n m fs true e1:=(sd_ 1 e1 rfl).same (off I)
   have own:∀ sd,SdAt I n m fs sd (own2 e0 e1 sd):=fun sd=>by cases sd;exact E0;exact E1
   have B:=BI.same (off I)
   obtain⟨t0,b0,u0,v0⟩:=E0.bds oks D (by walk_at "om")
   obtain⟨t1,b1,u1,v1⟩:=E1.bds oks D (by walk_at "om")
   have wk:=zbg3 E0 E1
   have cmp:¬ (e0.t false n m fs*e1.b true n m fs>e1.t true n m fs*e0.b false n m fs):=by
    have:=(zch3 (t:=topS false n m fs e0.xss) (b:=zj2 e0.ms) (u:=topS true n m fs e1.xss) (c:=zj2 e1.ms) (by walk_at "om") (by walk_at "om")).mpr wk
    unfold Sde.t Sde.b
    omega
   have big:(10:Int) ^ 200<10 ^ 240:=by decide
   have mok:∀ {x y:Int},(-(10 ^ 200)<x/\x<10 ^ 200)->(-(10 ^ 200)<y/\y<10 ^ 200)->IntMulOk x y:=fun {x y} h1 h2=>by
    generalize (10:Int) ^ 200=N at *
    exact zr8 (by walk_at "om") (by walk_at "om") (by walk_at "om") (by walk_at "om")
   refine zb0 (v:=.ref e0.w) hww rfl ?_
   refine zb1 (v:=.int (e0.t false n m fs)) E0.wor rfl ?_
   refine zb0 (v:=.ref e1.w) hww rfl ?_
   refine zb1 (v:=.int (e1.b true n m fs)) E1.wor rfl ?_
   refine zv1 (mok u0 v1) ?_
   refine zb0 (v:=.ref e1.w) hww rfl ?_
   refine zb1 (v:=.int (e1.t true n m fs)) E1.wor rfl ?_
   refine zb0 (v:=.ref e0.w) hww rfl ?_
   refine zb1 (v:=.int (e0.b false n m fs)) E0.wor rfl ?_
   refine zv1 (mok u1 v0) ?_
   refine zq7 cmp ?_
   refine zf2 (by decide) (by decide) (by decide) (by decide) ?_
   refine zk7 (n:=2) (fun i σ J=>∃ (y7 y8 y9 y10 y11 y12 y13:Option V),σ=[some (.ref a),some (.int z),some (.ref pl),some (.ref bt),some (.ref pp),some (.ref ww),y7,y8,y9,y10,y11,y12,y13]/\Same I J) ?_ ?_ ?_
   ·exact⟨_,_,_,_,_,_,_,rfl,Same.refl _⟩
   ·rintro i σ J hi2 ⟨y7,y8,y9,y10,y11,y12,y13,rfl,sJ⟩
    have hi2:i<2:=hi2
    obtain⟨sd,_,e3⟩:=zbj3 hi2
    obtain⟨ho,hw⟩:=zac7 O sd
    have So:=own sd
    have Sx:=own (!sd)
    obtain⟨to,bo,uo,vo⟩:=So.bds oks D (by walk_at "om")
    obtain⟨tx,bx,ux,vx⟩:=Sx.bds oks D (by walk_at "om")
    obtain⟨st,tb,rs,qs,PS⟩:=So.pap
    have ko:=zbb8 sd (topS sd n m fs (own2 e0 e1 sd).xss) (zj2 (own2 e0 e1 sd).ms)
    have kx:=zbh2 (sd:=sd) (t:=topS sd n m fs (own2 e0 e1 sd).xss) (b:=zj2 (own2 e0 e1 sd).ms) (u:=topS (!sd) n m fs (own2 e0 e1 (!sd)).xss) (c:=zj2 (own2 e0 e1 (!sd)).ms) (by walk_at "om") (by walk_at "om") (by cases sd;exact wk;exact wk)
    have r0:=So.row0 (by walk_at "om")
    have xl:=So.stm.1
    have rowsOk:=zbb3 So.oks So.len So.wts So.stm
    have sok:=stm_ok So.oks So.stm
    have pok:=zcg8 (xss:=(own2 e0 e1 sd).xss) (F:=fs.length) (k:=othH sd n m+1) (T:=fun k=>tabR sd ((ze2 sd fs (own2 e0 e1 sd).xss).drop k)) (by walk_at "om") (fun xs hx=>(rowsOk xs hx).2) (by walk_at "om") (by walk_at "om")
    have bok:=zcb0 O
    have ssm:sml (stmD (own2 e0 e1 sd).xss)=true:=by
     rw[zba3]
     exact (zbi0 (by walk_at "om") (fun xs hx=>(rowsOk xs hx).2)).1
    have gp:atI (([e0,e1].map fun e=>V.ref e.p)) (sdI sd)=some (.ref (own2 e0 e1 sd).p):=by cases sd<;>rfl
    have gw:atI (([e0,e1].map fun e=>V.ref e.w)) (sdI sd)=some (.ref (own2 e0 e1 sd).w):=by cases sd<;>rfl
    have gx:atI (([e0,e1].map fun e=>V.ref e.w)) (1 - sdI sd)=some (.ref (own2 e0 e1 (!sd)).w):=by cases sd<;>rfl
    generalize own2 e0 e1 sd=eo at *
    generalize own2 e0 e1 (!sd)=ex at *
    rw[zcv6,e3]
    refine zc4 (fun q1 J1 f1 s1 h1=>?_)
    refine zb0 (v:=.str (wd sd)) h1 (by cases sd<;>rfl) ?_
    have sJ1:=sJ.trans s1
    refine zba1 (zaw2 (B.same sJ1)) bok.1 (zcu1 bok.2.2 (by decide)) (fun v2 J2 s2 N2=>?_)
    obtain⟨b',l',ps',rfl,B'⟩:=zcb4 (N2.same (zav7 _ _)) oks
    have sJ2:=sJ1.trans s2
    refine zb0 (v:=.ref eo.p) (sJ2 _ _ hpp) gp ?_
    refine zba1 (zax2 (PS.same sJ2)) pok.1 (zcu1 pok.2.2 (by decide)) (fun v3 J3 s3 N3=>?_)
    obtain⟨p',st',tb',rs',qs',rfl,P'⟩:=zch4 (N3.same (zav7 _ _))
    have sJ3:=sJ2.trans s3
    refine zc4 (fun hd J4 f4 s4' h4=>?_)
    have sJ4:=sJ3.trans s4'
    have B4:=(B'.same s3).same s4'
    have P4:=P'.same s4'
    refine zb0 (v:=.ref b') h4 rfl ?_
    refine zb0 (v:=.ref eo.w) (sJ4 _ _ hww) gw ?_
    refine zb0 (v:=.ref p') h4 rfl ?_
    refine zav2 B4 O D P4 sok ssm xl (fun xs hx=>(rowsOk xs hx).1) (fun k c hk _=>zat7 hk) (sJ4 _ _ So.wor) uo vo (zbd3 to) (by rw[r0];exact zau0 bo) (fun _ J5 s5=>?_) (fun ek=>?_)
    ·have sJ5:=sJ4.trans s5
     refine zd2 (br_T ?_)
     refine zb0 (v:=.ref eo.p) (sJ5 _ _ hpp) gp ?_
     refine zc4 (fun q6 J6 f6' s6' h6'=>?_)
     have sJ6:=sJ5.trans s6'
     refine zbi6 (d:=.list [batN n m fs,papN eo.xss fs.length (othH sd n m+1) (fun k=>tabR sd ((ze2 sd fs eo.xss).drop k))]) (e:=.list [batN n m fs,papN eo.xss fs.length (othH sd n m+1) (fun k=>tabR sd ((ze2 sd fs eo.xss).drop k))]) (.lst ((s5.trans s6') _ _ h4) (.cons (zaw2 (B4.same (s5.trans s6'))) (.cons (zax2 (P4.same (s5.trans s6'))) .nil))) (.lst h6' (.cons (zaw2 (B.same sJ6)) (.cons (zax2 (PS.same sJ6)) .nil))) (zam6 bok pok).2.1 (zam6 bok pok).2.1 (zcu1 (zam6 bok pok).2.2 (by decide)) ?_
     rw[(zam6 bok pok).eqv]
     refine zd2 (br_T ?_)
     refine zb0 (v:=.ref ex.w) (sJ6 _ _ hww) gx ?_
     refine zb0 (v:=.ref b') ((s5.trans s6') _ _ h4) rfl ?_
     refine zb0 (v:=.ref p') ((s5.trans s6') _ _ h4) rfl ?_
     walk_at "wh"
     have B6:=B4.same (s5.trans s6')
     have P6:=P4.same (s5.trans s6')
     refine zav2 B6 O D P6 sok ssm xl (fun xs hx=>(rowsOk xs hx).1) (fun k c hk _=>zat7 hk) (sJ6 _ _ Sx.wor) ux vx (zbd3 to) (by rw[r0];exact zau0 bo) (fun ek J7 s7'=>?_) (fun ek r7 J7 f7' s7' h7'=>?_)
     ·rw[r0] at ek
      have dk:=kx.symm.trans ek
      have sJ7:=sJ6.trans s7'
      refine zd6 (fun q8 J8 f8 s8 h8=>?_)
      refine zc4 (fun q9 J9 f9 s9 h9=>?_)
      have sJ9:=(sJ7.trans s8).trans s9
      refine zb0 (v:=.ref eo.w) (sJ9 _ _ hww) gw ?_
      refine zbx4 (EqR.ints2 (sJ9 _ _ Sx.wor) (sJ9 _ _ So.wor)) ?_
      rw[show decide (ex.t (!sd) n m fs=eo.t sd n m fs/\ex.b (!sd) n m fs=eo.b sd n m fs)=true from dk]
      refine zb0 (v:=.non) h9 rfl ?_
      refine zbi6 (d:=.none) (e:=.none) .non .non rfl rfl (by decide) ?_
      refine zd2 (br_T ?_)
      walk_at "wh"
      exact⟨_,_,_,_,_,_,_,rfl,sJ9⟩
     ·rw[r0] at ek
      have dk:=kx.symm.trans ek
      have sJ7:=sJ6.trans s7'
      refine zd6 (fun q8 J8 f8 s8 h8=>?_)
      refine zc4 (fun q9 J9 f9 s9 h9=>?_)
      have sJ9:=(sJ7.trans s8).trans s9
      refine zb0 (v:=.ref eo.w) (sJ9 _ _ hww) gw ?_
      refine zbx4 (EqR.ints2 (sJ9 _ _ Sx.wor) (sJ9 _ _ So.wor)) ?_
      rw[show decide (ex.t (!sd) n m fs=eo.t sd n m fs/\ex.b (!sd) n m fs=eo.b sd n m fs)=false from dk]
      refine zb0 (v:=.ref q8) h9 rfl ?_
      refine zbi6 (d:=.tuple [.str "worth"]) (e:=.tuple [.str "worth"]) (.tup ((s8.trans s9) _ _ h7') (.cons (.str _) .nil)) (.tup (s9 _ _ h8) (.cons (.str _) .nil)) (by decide +kernel) (by decide +kernel) (by decide) ?_
      rw[show PyData.eqv (.tuple [.str "worth"]) (.tuple [.str "worth"])=true by decide +kernel]
      refine zd2 (br_T ?_)
      walk_at "wh"
      exact⟨_,_,_,_,_,_,_,rfl,sJ9⟩
    ·rw[r0] at ek
     exact absurd (ko.symm.trans ek) (by simp)
   ·rintro σ J ⟨y7,y8,y9,y10,y11,y12,y13,rfl,sJ⟩
    have LJ:=LI.same sJ
    refine zc4 (fun q1 J1 f1 s1 h1=>?_)
    refine zg2 (LJ.same s1) (by walk_at "om") (by walk_at "om") (by walk_at "om") (fun d2 J2 d20 d21 c2 L2=>?_)
    have h12:=c2 _ _ (LJ.ne f1) h1
    refine zt8 h12 (by walk_at "om") (by simp only[zcr8,zcu4];omega) ?_
    intro v hv
    obtain⟨x,rfl,nx1,nx2⟩:∃ x:Str,v=.str x/\x≠"first"/\x≠"second":=by
     simp only[zcq6,zcs4,or_false] at hv
     rcases hv with rfl|rfl|rfl|rfl|rfl<;>exact⟨_,rfl,by decide +kernel,by decide +kernel⟩
    clear hv h12
    have hpp2:=c2 _ _ npp ((sJ.trans s1) _ _ hpp)
    have B2:zi9 J2 bt l ps n m fs:=(BI.same ((zao2 (sJ.trans s1)).trans (zbi2 c2))).same (off J2)
    have s32:Same H3 J2:=((sI.trans sJ).trans s1).chg fpl c2
    refine zb0 (v:=.ref e0.p) hpp2 rfl ?_
    refine zae2 B2 O nx1 nx2 (fun J3 s3=>?_)
    walk_at "wh"
    first|refine zd2 (zr3 rfl ?_)|refine br_F ?_|refine zq7 (by decide) ?_
    refine zc4 (fun q4 J4 f4 s4' h4=>?_)
    refine zd6 (fun q5 J5 f5' s5' h5'=>?_)
    have s25:=(s3.trans s4').trans s5'
    refine zb0 (v:=.ref e0.p) (s25 _ _ hpp2) rfl ?_
    refine zah8 (j:=-1) ⟨q4,[],-1,0,[],⟨h5',s5' _ _ h4,rfl,fun i p f e=>by simp at e⟩,by simp,.inl ⟨fun z=>by have:=z.1.1.1;omega,rfl⟩⟩ (fun J6 s6'=>?_)
    walk_at "wh"
    first|refine zd2 (zr3 rfl ?_)|refine br_F ?_|refine zq7 (by decide) ?_
    walk_at "wh"
    exact⟨_,_,_,_,_,_,_,_,_,_,_,_,rfl,(s32.trans s25).trans s6'⟩
 ·rintro σ H4 ⟨x1,x2,x3,x4,x5,x6,x7,x8,x9,x10,x11,x12,rfl,s4⟩
  walk_at "wh"
  exact k _
end
theorem all_mk {l:PySem.W.OpenLaw}{w:World}{K:zcp3}{h:Heap}{mg:Str->Option Value}{fa:Addr}(X:K.In h) (G:h.Ns mainGlobals mg) (hfa:mg "law"=some (.ref fa))
  {zck7:Tok}{zck4:Tok}{f_0:Addr}{od_0 an_0:Option Addr}{sl_0:Array (Option Value)}{oc_0 kV_0 dc_0 pm_0 cd_0 ct_0:Value}{f_1:Addr}{od_1 an_1:Option Addr}{sl_1:Array (Option Value)}{oc_1 kV_1 dc_1 pm_1 cd_1 ct_1:Value}{f_2:Addr}{od_2 an_2:Option Addr}{sl_2:Array (Option Value)}{oc_2 kV_2 dc_2 pm_2 cd_2 ct_2:Value}{f_3:Addr}{od_3 an_3:Option Addr}{sl_3:Array (Option Value)}{oc_3 kV_3 dc_3 pm_3 cd_3 ct_3:Value}{f_4:Addr}{od_4 an_4:Option Addr}{sl_4:Array (Option Value)}{oc_4 kV_4 dc_4 pm_4 cd_4 ct_4:Value}{f_5:Addr}{od_5 an_5:Option Addr}{sl_5:Array (Option Value)}{oc_5 kV_5 dc_5 pm_5 cd_5 ct_5:Value}{f_6:Addr}{od_6 an_6:Option Addr}{sl_6:Array (Option Value)}{oc_6 kV_6 dc_6 pm_6 cd_6 ct_6:Value}{f_7:Addr}{od_7 an_7:Option Addr}{sl_7:Array (Option Value)}{oc_7 kV_7 dc_7 pm_7 cd_7 ct_7:Value}{f_8:Addr}{od_8 an_8:Option Addr}{sl_8:Array (Option Value)}{oc_8 kV_8 dc_8 pm_8 cd_8 ct_8:Value}{f_9:Addr}{od_9 an_9:Option Addr}{sl_9:Array (Option Value)}{oc_9 kV_9 dc_9 pm_9 cd_9 ct_9:Value}{f_10:Addr}{od_10 an_10:Option Addr}{sl_10:Array (Option Value)}{oc_10 kV_10 dc_10 pm_10 cd_10 ct_10:Value}{f_11:Addr}{od_11 an_11:Option Addr}{sl_11:Array (Option Value)}{oc_11 kV_11 dc_11 pm_11 cd_11 ct_11:Value}{f_12:Addr}{od_12 an_12:Option Addr}{sl_12:Array (Option Value)}{oc_12 kV_12 dc_12 pm_12 cd_12 ct_12:Value}{f_13:Addr}{od_13 an_13:Option Addr}{sl_13:Array (Option Value)}{oc_13 kV_13 dc_13 pm_13 cd_13 ct_13:Value}{f_14:Addr}{od_14 an_14:Option Addr}{sl_14:Array (Option Value)}{oc_14 kV_14 dc_14 pm_14 cd_14 ct_14:Value}{f_15:Addr}{od_15 an_15:Option Addr}{sl_15:Array (Option Value)}{oc_15 kV_15 dc_15 pm_15 cd_15 ct_15:Value}{f_16:Addr}{od_16 an_16:Option Addr}{sl_16:Array (Option Value)}{oc_16 kV_16 dc_16 pm_16 cd_16 ct_16:Value}{f_17:Addr}{od_17 an_17:Option Addr}{sl_17:Array (Option Value)}{oc_17 kV_17 dc_17 pm_17 cd_17 ct_17:Value}{f_18:Addr}{od_18 an_18:Option Addr}{sl_18:Array (Option Value)}{oc_18 kV_18 dc_18 pm_18 cd_18 ct_18:Value}{f_19:Addr}{od_19 an_19:Option Addr}{sl_19:Array (Option Value)}{oc_19 kV_19 dc_19 pm_19 cd_19 ct_19:Value}{f_20:Addr}{od_20 an_20:Option Addr}{sl_20:Array (Option Value)}{oc_20 kV_20 dc_20 pm_20 cd_20 ct_20:Value}{f_21:Addr}{od_21 an_21:Option Addr}{sl_21:Array (Option Value)}{oc_21 kV_21 dc_21 pm_21 cd_21 ct_21:Value}{f_22:Addr}{od_22 an_22:Option Addr}{sl_22:Array (Option Value)}{oc_22 kV_22 dc_22 pm_22 cd_22 ct_22:Value}{f_23:Addr}{od_23 an_23:Option Addr}{sl_23:Array (Option Value)}{oc_23 kV_23 dc_23 pm_23 cd_23 ct_23:Value}{f_24:Addr}{od_24 an_24:Option Addr}{sl_24:Array (Option Value)}{oc_24 kV_24 dc_24 pm_24 cd_24 ct_24:Value}{f_25:Addr}{od_25 an_25:Option Addr}{sl_25:Array (Option Value)}{oc_25 kV_25 dc_25 pm_25 cd_25 ct_25:Value}{f_26:Addr}{od_26 an_26:Option Addr}{sl_26:Array (Option Value)}{oc_26 kV_26 dc_26 pm_26 cd_26 ct_26:Value}{f_27:Addr}{od_27 an_27:Option Addr}{sl_27:Array (Option Value)}{oc_27 kV_27 dc_27 pm_27 cd_27 ct_27:Value}{f_28:Addr}{od_28 an_28:Option Addr}{sl_28:Array (Option Value)}{oc_28 kV_28 dc_28 pm_28 cd_28 ct_28:Value}{f_29:Addr}{od_29 an_29:Option Addr}{sl_29:Array (Option Value)}{oc_29 kV_29 dc_29 pm_29 cd_29 ct_29:Value}{f_30:Addr}{od_30 an_30:Option Addr}{sl_30:Array (Option Value)}{oc_30 kV_30 dc_30 pm_30 cd_30 ct_30:Value}{f_31:Addr}{od_31 an_31:Option Addr}{sl_31:Array (Option Value)}{oc_31 kV_31 dc_31 pm_31 cd_31 ct_31:Value}{f_32:Addr}{od_32 an_32:Option Addr}{sl_32:Array (Option Value)}{oc_32 kV_32 dc_32 pm_32 cd_32 ct_32:Value}{f_33:Addr}{od_33 an_33:Option Addr}{sl_33:Array (Option Value)}{oc_33 kV_33 dc_33 pm_33 cd_33 ct_33:Value}{f_34:Addr}{od_34 an_34:Option Addr}{sl_34:Array (Option Value)}{oc_34 kV_34 dc_34 pm_34 cd_34 ct_34:Value}{f_35:Addr}{od_35 an_35:Option Addr}{sl_35:Array (Option Value)}{oc_35 kV_35 dc_35 pm_35 cd_35 ct_35:Value}{f_36:Addr}{od_36 an_36:Option Addr}{sl_36:Array (Option Value)}{oc_36 kV_36 dc_36 pm_36 cd_36 ct_36:Value}{f_37:Addr}{od_37 an_37:Option Addr}{sl_37:Array (Option Value)}{oc_37 kV_37 dc_37 pm_37 cd_37 ct_37:Value}{f_38:Addr}{od_38 an_38:Option Addr}{sl_38:Array (Option Value)}{oc_38 kV_38 dc_38 pm_38 cd_38 ct_38:Value}{f_39:Addr}{od_39 an_39:Option Addr}{sl_39:Array (Option Value)}{oc_39 kV_39 dc_39 pm_39 cd_39 ct_39:Value}{f_40:Addr}{od_40 an_40:Option Addr}{sl_40:Array (Option Value)}{oc_40 kV_40 dc_40 pm_40 cd_40 ct_40:Value}{f_41:Addr}{od_41 an_41:Option Addr}{sl_41:Array (Option Value)}{oc_41 kV_41 dc_41 pm_41 cd_41 ct_41:Value}{f_42:Addr}{od_42 an_42:Option Addr}{sl_42:Array (Option Value)}{oc_42 kV_42 dc_42 pm_42 cd_42 ct_42:Value}{f_43:Addr}{od_43 an_43:Option Addr}{sl_43:Array (Option Value)}{oc_43 kV_43 dc_43 pm_43 cd_43 ct_43:Value}{f_44:Addr}{od_44 an_44:Option Addr}{sl_44:Array (Option Value)}{oc_44 kV_44 dc_44 pm_44 cd_44 ct_44:Value}{f_45:Addr}{od_45 an_45:Option Addr}{sl_45:Array (Option Value)}{oc_45 kV_45 dc_45 pm_45 cd_45 ct_45:Value}{f_46:Addr}{od_46 an_46:Option Addr}{sl_46:Array (Option Value)}{oc_46 kV_46 dc_46 pm_46 cd_46 ct_46:Value}{zci9:Addr}{zco0:ClassData}{zci6:Addr}{zco3:ClassData}{zcj3:Addr}{zco8:ClassData}{zcj7:Addr}{zcp0:ClassData}{zcj0:Addr}{zco4:ClassData}{zci7:Addr}{zco9:ClassData}{zcj2:Addr}{zco6:ClassData}{zcj1:Addr}{zco5:ClassData}{nm_NoBattle qn_NoBattle:Str}{N_NoBattle:Addr}{bs_NoBattle:List Value}{sn_NoBattle:List Str}{sub_NoBattle:List Value}{ab_NoBattle:Bool}{col_NoBattle:Option Bool}{dd_NoBattle:Option Addr}{k0_NoBattle k1_NoBattle k2_NoBattle k3_NoBattle k5_NoBattle:Option Value}{zcj6:Addr}{iod_NoBattle ian_NoBattle:Option Addr}{isl_NoBattle:Array (Option Value)}{ioc_NoBattle ikV_NoBattle idc_NoBattle ipm_NoBattle icd_NoBattle ict_NoBattle:Value}
  (e_MOST_HOSTS:zcq1 K mainGlobals "MOST_HOSTS"=some (some (.int 10 zck7)))
  (e_MOST_FIELDS:zcq1 K mainGlobals "MOST_FIELDS"=some (some (.int 5 zck4)))
  (a_0:zcq1 K mainGlobals "is_whole"=some (some (.ref f_0)))
  (l_0:K.lookup f_0=some ⟨oc_0,od_0,.func (zcq8 "is_whole" "is_whole" (zb3 zo9) (zb2 zo9) (za3 zo9) .none kV_0 dc_0 pm_0 an_0 cd_0 ct_0),sl_0⟩)
  (c_0:zcq5 K cd_0 "is_whole"=true)
  (k_0:zcq3 K (.ref f_0)=true)
  (a_1:zcq1 K mainGlobals "is_from"=some (some (.ref f_1)))
  (l_1:K.lookup f_1=some ⟨oc_1,od_1,.func (zcq8 "is_from" "is_from" (zb3 zr4) (zb2 zr4) (za3 zr4) .none kV_1 dc_1 pm_1 an_1 cd_1 ct_1),sl_1⟩)
  (c_1:zcq5 K cd_1 "is_from"=true)
  (k_1:zcq3 K (.ref f_1)=true)
  (a_2:zcq1 K mainGlobals "is_between"=some (some (.ref f_2)))
  (l_2:K.lookup f_2=some ⟨oc_2,od_2,.func (zcq8 "is_between" "is_between" (zb3 zk9) (zb2 zk9) (za3 zk9) .none kV_2 dc_2 pm_2 an_2 cd_2 ct_2),sl_2⟩)
  (c_2:zcq5 K cd_2 "is_between"=true)
  (k_2:zcq3 K (.ref f_2)=true)
  (a_3:zcq1 K mainGlobals "are_hosts"=some (some (.ref f_3)))
  (l_3:K.lookup f_3=some ⟨oc_3,od_3,.func (zcq8 "are_hosts" "are_hosts" (zb3 zm1) (zb2 zm1) (za3 zm1) .none kV_3 dc_3 pm_3 an_3 cd_3 ct_3),sl_3⟩)
  (c_3:zcq5 K cd_3 "are_hosts"=true)
  (k_3:zcq3 K (.ref f_3)=true)
  (a_4:zcq1 K mainGlobals "has_size"=some (some (.ref f_4)))
  (l_4:K.lookup f_4=some ⟨oc_4,od_4,.func (zcq8 "has_size" "has_size" (zb3 zo3) (zb2 zo3) (za3 zo3) .none kV_4 dc_4 pm_4 an_4 cd_4 ct_4),sl_4⟩)
  (c_4:zcq5 K cd_4 "has_size"=true)
  (k_4:zcq3 K (.ref f_4)=true)
  (a_5:zcq1 K mainGlobals "is_table_row"=some (some (.ref f_5)))
  (l_5:K.lookup f_5=some ⟨oc_5,od_5,.func (zcq8 "is_table_row" "is_table_row" (zb3 zg5) (zb2 zg5) (za3 zg5) .none kV_5 dc_5 pm_5 an_5 cd_5 ct_5),sl_5⟩)
  (c_5:zcq5 K cd_5 "is_table_row"=true)
  (k_5:zcq3 K (.ref f_5)=true)
  (a_6:zcq1 K mainGlobals "is_table"=some (some (.ref f_6)))
  (l_6:K.lookup f_6=some ⟨oc_6,od_6,.func (zcq8 "is_table" "is_table" (zb3 zo6) (zb2 zo6) (za3 zo6) .none kV_6 dc_6 pm_6 an_6 cd_6 ct_6),sl_6⟩)
  (c_6:zcq5 K cd_6 "is_table"=true)
  (k_6:zcq3 K (.ref f_6)=true)
  (a_7:zcq1 K mainGlobals "is_field"=some (some (.ref f_7)))
  (l_7:K.lookup f_7=some ⟨oc_7,od_7,.func (zcq8 "is_field" "is_field" (zb3 zp0) (zb2 zp0) (za3 zp0) .none kV_7 dc_7 pm_7 an_7 cd_7 ct_7),sl_7⟩)
  (c_7:zcq5 K cd_7 "is_field"=true)
  (k_7:zcq3 K (.ref f_7)=true)
  (a_8:zcq1 K mainGlobals "look_battle"=some (some (.ref f_8)))
  (l_8:K.lookup f_8=some ⟨oc_8,od_8,.func (zcq8 "look_battle" "look_battle" (zb3 zi5) (zb2 zi5) (za3 zi5) .none kV_8 dc_8 pm_8 an_8 cd_8 ct_8),sl_8⟩)
  (c_8:zcq5 K cd_8 "look_battle"=true)
  (k_8:zcq3 K (.ref f_8)=true)
  (a_9:zcq1 K mainGlobals "won"=some (some (.ref f_9)))
  (l_9:K.lookup f_9=some ⟨oc_9,od_9,.func (zcq8 "won" "won" (zb3 zbg6) (zb2 zbg6) (za3 zbg6) .none kV_9 dc_9 pm_9 an_9 cd_9 ct_9),sl_9⟩)
  (c_9:zcq5 K cd_9 "won"=true)
  (k_9:zcq3 K (.ref f_9)=true)
  (a_10:zcq1 K mainGlobals "is_flow"=some (some (.ref f_10)))
  (l_10:K.lookup f_10=some ⟨oc_10,od_10,.func (zcq8 "is_flow" "is_flow" (zb3 zr2) (zb2 zr2) (za3 zr2) .none kV_10 dc_10 pm_10 an_10 cd_10 ct_10),sl_10⟩)
  (c_10:zcq5 K cd_10 "is_flow"=true)
  (k_10:zcq3 K (.ref f_10)=true)
  (a_11:zcq1 K mainGlobals "is_row"=some (some (.ref f_11)))
  (l_11:K.lookup f_11=some ⟨oc_11,od_11,.func (zcq8 "is_row" "is_row" (zb3 zt6) (zb2 zt6) (za3 zt6) .none kV_11 dc_11 pm_11 an_11 cd_11 ct_11),sl_11⟩)
  (c_11:zcq5 K cd_11 "is_row"=true)
  (k_11:zcq3 K (.ref f_11)=true)
  (a_12:zcq1 K mainGlobals "begins"=some (some (.ref f_12)))
  (l_12:K.lookup f_12=some ⟨oc_12,od_12,.func (zcq8 "begins" "begins" (zb3 zt7) (zb2 zt7) (za3 zt7) .none kV_12 dc_12 pm_12 an_12 cd_12 ct_12),sl_12⟩)
  (c_12:zcq5 K cd_12 "begins"=true)
  (k_12:zcq3 K (.ref f_12)=true)
  (a_13:zcq1 K mainGlobals "summed"=some (some (.ref f_13)))
  (l_13:K.lookup f_13=some ⟨oc_13,od_13,.func (zcq8 "summed" "summed" (zb3 zt9) (zb2 zt9) (za3 zt9) .none kV_13 dc_13 pm_13 an_13 cd_13 ct_13),sl_13⟩)
  (c_13:zcq5 K cd_13 "summed"=true)
  (k_13:zcq3 K (.ref f_13)=true)
  (a_14:zcq1 K mainGlobals "meets"=some (some (.ref f_14)))
  (l_14:K.lookup f_14=some ⟨oc_14,od_14,.func (zcq8 "meets" "meets" (zb3 zz4) (zb2 zz4) (za3 zz4) .none kV_14 dc_14 pm_14 an_14 cd_14 ct_14),sl_14⟩)
  (c_14:zcq5 K cd_14 "meets"=true)
  (k_14:zcq3 K (.ref f_14)=true)
  (a_15:zcq1 K mainGlobals "is_stream"=some (some (.ref f_15)))
  (l_15:K.lookup f_15=some ⟨oc_15,od_15,.func (zcq8 "is_stream" "is_stream" (zb3 zm9) (zb2 zm9) (za3 zm9) .none kV_15 dc_15 pm_15 an_15 cd_15 ct_15),sl_15⟩)
  (c_15:zcq5 K cd_15 "is_stream"=true)
  (k_15:zcq3 K (.ref f_15)=true)
  (a_16:zcq1 K mainGlobals "whole_in"=some (some (.ref f_16)))
  (l_16:K.lookup f_16=some ⟨oc_16,od_16,.func (zcq8 "whole_in" "whole_in" (zb3 zo7) (zb2 zo7) (za3 zo7) .none kV_16 dc_16 pm_16 an_16 cd_16 ct_16),sl_16⟩)
  (c_16:zcq5 K cd_16 "whole_in"=true)
  (k_16:zcq3 K (.ref f_16)=true)
  (a_17:zcq1 K mainGlobals "look_side"=some (some (.ref f_17)))
  (l_17:K.lookup f_17=some ⟨oc_17,od_17,.func (zcq8 "look_side" "look_side" (zb3 zm2) (zb2 zm2) (za3 zm2) .none kV_17 dc_17 pm_17 an_17 cd_17 ct_17),sl_17⟩)
  (c_17:zcq5 K cd_17 "look_side"=true)
  (k_17:zcq3 K (.ref f_17)=true)
  (a_18:zcq1 K mainGlobals "own_hosts"=some (some (.ref f_18)))
  (l_18:K.lookup f_18=some ⟨oc_18,od_18,.func (zcq8 "own_hosts" "own_hosts" (zb3 zn0) (zb2 zn0) (za3 zn0) .none kV_18 dc_18 pm_18 an_18 cd_18 ct_18),sl_18⟩)
  (c_18:zcq5 K cd_18 "own_hosts"=true)
  (k_18:zcq3 K (.ref f_18)=true)
  (a_19:zcq1 K mainGlobals "other_hosts"=some (some (.ref f_19)))
  (l_19:K.lookup f_19=some ⟨oc_19,od_19,.func (zcq8 "other_hosts" "other_hosts" (zb3 zi7) (zb2 zi7) (za3 zi7) .none kV_19 dc_19 pm_19 an_19 cd_19 ct_19),sl_19⟩)
  (c_19:zcq5 K cd_19 "other_hosts"=true)
  (k_19:zcq3 K (.ref f_19)=true)
  (a_20:zcq1 K mainGlobals "due"=some (some (.ref f_20)))
  (l_20:K.lookup f_20=some ⟨oc_20,od_20,.func (zcq8 "due" "due" (zb3 zbg9) (zb2 zbg9) (za3 zbg9) .none kV_20 dc_20 pm_20 an_20 cd_20 ct_20),sl_20⟩)
  (c_20:zcq5 K cd_20 "due"=true)
  (k_20:zcq3 K (.ref f_20)=true)
  (a_21:zcq1 K mainGlobals "row_dues"=some (some (.ref f_21)))
  (l_21:K.lookup f_21=some ⟨oc_21,od_21,.func (zcq8 "row_dues" "row_dues" (zb3 zo2) (zb2 zo2) (za3 zo2) .none kV_21 dc_21 pm_21 an_21 cd_21 ct_21),sl_21⟩)
  (c_21:zcq5 K cd_21 "row_dues"=true)
  (k_21:zcq3 K (.ref f_21)=true)
  (a_22:zcq1 K mainGlobals "dues"=some (some (.ref f_22)))
  (l_22:K.lookup f_22=some ⟨oc_22,od_22,.func (zcq8 "dues" "dues" (zb3 zaj2) (zb2 zaj2) (za3 zaj2) .none kV_22 dc_22 pm_22 an_22 cd_22 ct_22),sl_22⟩)
  (c_22:zcq5 K cd_22 "dues"=true)
  (k_22:zcq3 K (.ref f_22)=true)
  (a_23:zcq1 K mainGlobals "bounds"=some (some (.ref f_23)))
  (l_23:K.lookup f_23=some ⟨oc_23,od_23,.func (zcq8 "bounds" "bounds" (zb3 zu3) (zb2 zu3) (za3 zu3) .none kV_23 dc_23 pm_23 an_23 cd_23 ct_23),sl_23⟩)
  (c_23:zcq5 K cd_23 "bounds"=true)
  (k_23:zcq3 K (.ref f_23)=true)
  (a_24:zcq1 K mainGlobals "keeps"=some (some (.ref f_24)))
  (l_24:K.lookup f_24=some ⟨oc_24,od_24,.func (zcq8 "keeps" "keeps" (zb3 zz0) (zb2 zz0) (za3 zz0) .none kV_24 dc_24 pm_24 an_24 cd_24 ct_24),sl_24⟩)
  (c_24:zcq5 K cd_24 "keeps"=true)
  (k_24:zcq3 K (.ref f_24)=true)
  (a_25:zcq1 K mainGlobals "wrong_form"=some (some (.ref f_25)))
  (l_25:K.lookup f_25=some ⟨oc_25,od_25,.func (zcq8 "wrong_form" "wrong_form" (zb3 zk3) (zb2 zk3) (za3 zk3) .none kV_25 dc_25 pm_25 an_25 cd_25 ct_25),sl_25⟩)
  (c_25:zcq5 K cd_25 "wrong_form"=true)
  (k_25:zcq3 K (.ref f_25)=true)
  (a_26:zcq1 K mainGlobals "wrong_number"=some (some (.ref f_26)))
  (l_26:K.lookup f_26=some ⟨oc_26,od_26,.func (zcq8 "wrong_number" "wrong_number" (zb3 zg8) (zb2 zg8) (za3 zg8) .none kV_26 dc_26 pm_26 an_26 cd_26 ct_26),sl_26⟩)
  (c_26:zcq5 K cd_26 "wrong_number"=true)
  (k_26:zcq3 K (.ref f_26)=true)
  (a_27:zcq1 K mainGlobals "wrong_worth"=some (some (.ref f_27)))
  (l_27:K.lookup f_27=some ⟨oc_27,od_27,.func (zcq8 "wrong_worth" "wrong_worth" (zb3 zi3) (zb2 zi3) (za3 zi3) .none kV_27 dc_27 pm_27 an_27 cd_27 ct_27),sl_27⟩)
  (c_27:zcq5 K cd_27 "wrong_worth"=true)
  (k_27:zcq3 K (.ref f_27)=true)
  (a_28:zcq1 K mainGlobals "judged"=some (some (.ref f_28)))
  (l_28:K.lookup f_28=some ⟨oc_28,od_28,.func (zcq8 "judged" "judged" (zb3 zu1) (zb2 zu1) (za3 zu1) .none kV_28 dc_28 pm_28 an_28 cd_28 ct_28),sl_28⟩)
  (c_28:zcq5 K cd_28 "judged"=true)
  (k_28:zcq3 K (.ref f_28)=true)
  (a_29:zcq1 K mainGlobals "_law_mix"=some (some (.ref f_29)))
  (l_29:K.lookup f_29=some ⟨oc_29,od_29,.func (zcq8 "_law_mix" "_law_mix" (zb3 zo5) (zb2 zo5) (za3 zo5) .none kV_29 dc_29 pm_29 an_29 cd_29 ct_29),sl_29⟩)
  (c_29:zcq5 K cd_29 "_law_mix"=true)
  (k_29:zcq3 K (.ref f_29)=true)
  (a_30:zcq1 K mainGlobals "_law_cell_at"=some (some (.ref f_30)))
  (l_30:K.lookup f_30=some ⟨oc_30,od_30,.func (zcq8 "_law_cell_at" "_law_cell_at" (zb3 zg6) (zb2 zg6) (za3 zg6) .none kV_30 dc_30 pm_30 an_30 cd_30 ct_30),sl_30⟩)
  (c_30:zcq5 K cd_30 "_law_cell_at"=true)
  (k_30:zcq3 K (.ref f_30)=true)
  (a_31:zcq1 K mainGlobals "_law_left"=some (some (.ref f_31)))
  (l_31:K.lookup f_31=some ⟨oc_31,od_31,.func (zcq8 "_law_left" "_law_left" (zb3 zm6) (zb2 zm6) (za3 zm6) .none kV_31 dc_31 pm_31 an_31 cd_31 ct_31),sl_31⟩)
  (c_31:zcq5 K cd_31 "_law_left"=true)
  (k_31:zcq3 K (.ref f_31)=true)
  (a_32:zcq1 K mainGlobals "_law_draw"=some (some (.ref f_32)))
  (l_32:K.lookup f_32=some ⟨oc_32,od_32,.func (zcq8 "_law_draw" "_law_draw" (zb3 zl8) (zb2 zl8) (za3 zl8) .none kV_32 dc_32 pm_32 an_32 cd_32 ct_32),sl_32⟩)
  (c_32:zcq5 K cd_32 "_law_draw"=true)
  (k_32:zcq3 K (.ref f_32)=true)
  (a_33:zcq1 K mainGlobals "_law_some"=some (some (.ref f_33)))
  (l_33:K.lookup f_33=some ⟨oc_33,od_33,.func (zcq8 "_law_some" "_law_some" (zb3 zl9) (zb2 zl9) (za3 zl9) .none kV_33 dc_33 pm_33 an_33 cd_33 ct_33),sl_33⟩)
  (c_33:zcq5 K cd_33 "_law_some"=true)
  (k_33:zcq3 K (.ref f_33)=true)
  (a_34:zcq1 K mainGlobals "_law_rule"=some (some (.ref f_34)))
  (l_34:K.lookup f_34=some ⟨oc_34,od_34,.func (zcq8 "_law_rule" "_law_rule" (zb3 zm3) (zb2 zm3) (za3 zm3) .none kV_34 dc_34 pm_34 an_34 cd_34 ct_34),sl_34⟩)
  (c_34:zcq5 K cd_34 "_law_rule"=true)
  (k_34:zcq3 K (.ref f_34)=true)
  (a_35:zcq1 K mainGlobals "_law_battle"=some (some (.ref f_35)))
  (l_35:K.lookup f_35=some ⟨oc_35,od_35,.func (zcq8 "_law_battle" "_law_battle" (zb3 zi4) (zb2 zi4) (za3 zi4) .none kV_35 dc_35 pm_35 an_35 cd_35 ct_35),sl_35⟩)
  (c_35:zcq5 K cd_35 "_law_battle"=true)
  (k_35:zcq3 K (.ref f_35)=true)
  (a_36:zcq1 K mainGlobals "_law_deep"=some (some (.ref f_36)))
  (l_36:K.lookup f_36=some ⟨oc_36,od_36,.func (zcq8 "_law_deep" "_law_deep" (zb3 zm4) (zb2 zm4) (za3 zm4) .none kV_36 dc_36 pm_36 an_36 cd_36 ct_36),sl_36⟩)
  (c_36:zcq5 K cd_36 "_law_deep"=true)
  (k_36:zcq3 K (.ref f_36)=true)
  (a_37:zcq1 K mainGlobals "_law_paid"=some (some (.ref f_37)))
  (l_37:K.lookup f_37=some ⟨oc_37,od_37,.func (zcq8 "_law_paid" "_law_paid" (zb3 zm0) (zb2 zm0) (za3 zm0) .none kV_37 dc_37 pm_37 an_37 cd_37 ct_37),sl_37⟩)
  (c_37:zcq5 K cd_37 "_law_paid"=true)
  (k_37:zcq3 K (.ref f_37)=true)
  (a_38:zcq1 K mainGlobals "_law_plan"=some (some (.ref f_38)))
  (l_38:K.lookup f_38=some ⟨oc_38,od_38,.func (zcq8 "_law_plan" "_law_plan" (zb3 zl7) (zb2 zl7) (za3 zl7) .none kV_38 dc_38 pm_38 an_38 cd_38 ct_38),sl_38⟩)
  (c_38:zcq5 K cd_38 "_law_plan"=true)
  (k_38:zcq3 K (.ref f_38)=true)
  (a_39:zcq1 K mainGlobals "_law_flows"=some (some (.ref f_39)))
  (l_39:K.lookup f_39=some ⟨oc_39,od_39,.func (zcq8 "_law_flows" "_law_flows" (zb3 zl0) (zb2 zl0) (za3 zl0) .none kV_39 dc_39 pm_39 an_39 cd_39 ct_39),sl_39⟩)
  (c_39:zcq5 K cd_39 "_law_flows"=true)
  (k_39:zcq3 K (.ref f_39)=true)
  (a_40:zcq1 K mainGlobals "_law_stream"=some (some (.ref f_40)))
  (l_40:K.lookup f_40=some ⟨oc_40,od_40,.func (zcq8 "_law_stream" "_law_stream" (zb3 zi2) (zb2 zi2) (za3 zi2) .none kV_40 dc_40 pm_40 an_40 cd_40 ct_40),sl_40⟩)
  (c_40:zcq5 K cd_40 "_law_stream"=true)
  (k_40:zcq3 K (.ref f_40)=true)
  (a_41:zcq1 K mainGlobals "_law_lowest"=some (some (.ref f_41)))
  (l_41:K.lookup f_41=some ⟨oc_41,od_41,.func (zcq8 "_law_lowest" "_law_lowest" (zb3 zj0) (zb2 zj0) (za3 zj0) .none kV_41 dc_41 pm_41 an_41 cd_41 ct_41),sl_41⟩)
  (c_41:zcq5 K cd_41 "_law_lowest"=true)
  (k_41:zcq3 K (.ref f_41)=true)
  (a_42:zcq1 K mainGlobals "_law_dues"=some (some (.ref f_42)))
  (l_42:K.lookup f_42=some ⟨oc_42,od_42,.func (zcq8 "_law_dues" "_law_dues" (zb3 zm5) (zb2 zm5) (za3 zm5) .none kV_42 dc_42 pm_42 an_42 cd_42 ct_42),sl_42⟩)
  (c_42:zcq5 K cd_42 "_law_dues"=true)
  (k_42:zcq3 K (.ref f_42)=true)
  (a_43:zcq1 K mainGlobals "_law_comes"=some (some (.ref f_43)))
  (l_43:K.lookup f_43=some ⟨oc_43,od_43,.func (zcq8 "_law_comes" "_law_comes" (zb3 zk6) (zb2 zk6) (za3 zk6) .none kV_43 dc_43 pm_43 an_43 cd_43 ct_43),sl_43⟩)
  (c_43:zcq5 K cd_43 "_law_comes"=true)
  (k_43:zcq3 K (.ref f_43)=true)
  (a_44:zcq1 K mainGlobals "_law_table"=some (some (.ref f_44)))
  (l_44:K.lookup f_44=some ⟨oc_44,od_44,.func (zcq8 "_law_table" "_law_table" (zb3 zk8) (zb2 zk8) (za3 zk8) .none kV_44 dc_44 pm_44 an_44 cd_44 ct_44),sl_44⟩)
  (c_44:zcq5 K cd_44 "_law_table"=true)
  (k_44:zcq3 K (.ref f_44)=true)
  (a_45:zcq1 K mainGlobals "_law_refused"=some (some (.ref f_45)))
  (l_45:K.lookup f_45=some ⟨oc_45,od_45,.func (zcq8 "_law_refused" "_law_refused" (zb3 zg7) (zb2 zg7) (za3 zg7) .none kV_45 dc_45 pm_45 an_45 cd_45 ct_45),sl_45⟩)
  (c_45:zcq5 K cd_45 "_law_refused"=true)
  (k_45:zcq3 K (.ref f_45)=true)
  (a_46:zcq1 K mainGlobals "law"=some (some (.ref f_46)))
  (l_46:K.lookup f_46=some ⟨oc_46,od_46,.func (zcq8 "law" "law" (zb3 zan2) (zb2 zan2) (za3 zan2) .none kV_46 dc_46 pm_46 an_46 cd_46 ct_46),sl_46⟩)
  (c_46:zcq5 K cd_46 "law"=true)
  (k_46:zcq3 K (.ref f_46)=true)
  (z_ValueError:zcq1 K mainGlobals "ValueError"=some none)
  (z_all:zcq1 K mainGlobals "all"=some none)
  (z_bool:zcq1 K mainGlobals "bool"=some none)
  (z_enumerate:zcq1 K mainGlobals "enumerate"=some none)
  (z_int:zcq1 K mainGlobals "int"=some none)
  (z_isinstance:zcq1 K mainGlobals "isinstance"=some none)
  (z_len:zcq1 K mainGlobals "len"=some none)
  (z_list:zcq1 K mainGlobals "list"=some none)
  (z_max:zcq1 K mainGlobals "max"=some none)
  (z_min:zcq1 K mainGlobals "min"=some none)
  (z_range:zcq1 K mainGlobals "range"=some none)
  (z_reversed:zcq1 K mainGlobals "reversed"=some none)
  (z_sorted:zcq1 K mainGlobals "sorted"=some none)
  (z_sum:zcq1 K mainGlobals "sum"=some none)
  (z_tuple:zcq1 K mainGlobals "tuple"=some none)
  (z_zip:zcq1 K mainGlobals "zip"=some none)
  (e_HostError:zcq1 K mainGlobals "HostError"=some (some (.ref zci9)))
  (kk_HostError:zct5 K zci9=some zco0)
  (tt_HostError:zcu5 K (.ref zci9)=some (.type "type"))
  (nn_HostError:zcs2 K (.type "NoneType") (.ref zci9)=some false)
  (e_NoBattle:zcq1 K mainGlobals "NoBattle"=some (some (.ref zci6)))
  (kk_NoBattle:zct5 K zci6=some zco3)
  (tt_NoBattle:zcu5 K (.ref zci6)=some (.type "type"))
  (nn_NoBattle:zcs2 K (.type "NoneType") (.ref zci6)=some false)
  (e_NoPlan:zcq1 K mainGlobals "NoPlan"=some (some (.ref zcj3)))
  (kk_NoPlan:zct5 K zcj3=some zco8)
  (tt_NoPlan:zcu5 K (.ref zcj3)=some (.type "type"))
  (nn_NoPlan:zcs2 K (.type "NoneType") (.ref zcj3)=some false)
  (e_NoMix:zcq1 K mainGlobals "NoMix"=some (some (.ref zcj7)))
  (kk_NoMix:zct5 K zcj7=some zcp0)
  (tt_NoMix:zcu5 K (.ref zcj7)=some (.type "type"))
  (nn_NoMix:zcs2 K (.type "NoneType") (.ref zcj7)=some false)
  (e_NoStream:zcq1 K mainGlobals "NoStream"=some (some (.ref zcj0)))
  (kk_NoStream:zct5 K zcj0=some zco4)
  (tt_NoStream:zcu5 K (.ref zcj0)=some (.type "type"))
  (nn_NoStream:zcs2 K (.type "NoneType") (.ref zcj0)=some false)
  (e_NoSide:zcq1 K mainGlobals "NoSide"=some (some (.ref zci7)))
  (kk_NoSide:zct5 K zci7=some zco9)
  (tt_NoSide:zcu5 K (.ref zci7)=some (.type "type"))
  (nn_NoSide:zcs2 K (.type "NoneType") (.ref zci7)=some false)
  (e_NoAlike:zcq1 K mainGlobals "NoAlike"=some (some (.ref zcj2)))
  (kk_NoAlike:zct5 K zcj2=some zco6)
  (tt_NoAlike:zcu5 K (.ref zcj2)=some (.type "type"))
  (nn_NoAlike:zcs2 K (.type "NoneType") (.ref zcj2)=some false)
  (e_NoNumber:zcq1 K mainGlobals "NoNumber"=some (some (.ref zcj1)))
  (kk_NoNumber:zct5 K zcj1=some zco5)
  (tt_NoNumber:zcu5 K (.ref zcj1)=some (.type "type"))
  (nn_NoNumber:zcs2 K (.type "NoneType") (.ref zcj1)=some false)
  (bb_HostError:zcs2 K (.ref zci9) (.type "BaseException")=some true)
  (x_HostError:PySem.W.excIn K zci9 bmV newV=true)
  (ob_NoBattle:K.lookup zci6=some (excClassObj nm_NoBattle qn_NoBattle zci6 N_NoBattle bs_NoBattle (.ref zci9 :: bmV) true sn_NoBattle sub_NoBattle ab_NoBattle col_NoBattle dd_NoBattle k0_NoBattle k1_NoBattle k2_NoBattle k3_NoBattle k5_NoBattle newV))
  (in_NoBattle:zct4 K (.ref zci6) "__init__"=some (some (.ref zcj6)))
  (ty_NoBattle:zcu5 K (.ref zcj6)=some (.type "function"))
  (sa_NoBattle:zct4 K (.ref zci6) "__setattr__"=some (some (.builtin "object.__setattr__")))
  (nf_NoBattle:zct4 K (.ref zci6) "field"=some none)
  (hd_NoBattle:PySem.W.hasDictIn K zci6=true)
  (li_NoBattle:K.lookup zcj6=some ⟨ioc_NoBattle,iod_NoBattle,.func (zcq8 "__init__" "NoBattle.__init__" (zb3 zk2) (zb2 zk2) (za3 zk2) .none ikV_NoBattle idc_NoBattle ipm_NoBattle ian_NoBattle icd_NoBattle ict_NoBattle),isl_NoBattle⟩)
  (ci_NoBattle:zcq5 K icd_NoBattle "NoBattle.__init__"=true)
  (ki_NoBattle:zcq3 K (.ref zcj6)=true)
  (f1_NoBattle:zct4 K (.ref zci6) "__getattribute__"=some (some (.builtin "BaseException.__getattribute__")))
  (f2_NoBattle:zct4 K (.ref zci6) "__getattr__"=some none)
  (f3_NoBattle:zct4 K (.ref zci6) "__class__"=some (some (.builtin "object.__class__")))
  (f4_NoBattle:zcs2 K (.ref zci6) (.type "BaseException")=some true)
  (f5_NoBattle:PySem.W.mroIn K zci6 (.type "object")=some true)
  (f6_NoBattle:zcs2 K (.ref zci6) (.type "ValueError")=some true)
  (s_NoBattle_HostError:zcs2 K (.ref zci6) (.ref zci9)=some true)
  (s_NoBattle_NoBattle:zcs2 K (.ref zci6) (.ref zci6)=some true)
  (s_NoBattle_NoPlan:zcs2 K (.ref zci6) (.ref zcj3)=some false)
  (s_NoBattle_NoMix:zcs2 K (.ref zci6) (.ref zcj7)=some false)
  (s_NoBattle_NoStream:zcs2 K (.ref zci6) (.ref zcj0)=some false)
  (s_NoBattle_NoSide:zcs2 K (.ref zci6) (.ref zci7)=some false)
  (s_NoBattle_NoAlike:zcs2 K (.ref zci6) (.ref zcj2)=some false)
  (s_NoBattle_NoNumber:zcs2 K (.ref zci6) (.ref zcj1)=some false)
  (x_NoSide:PySem.W.excIn K zci7 bmV newV=true)
  (f1_NoSide:zct4 K (.ref zci7) "__getattribute__"=some (some (.builtin "BaseException.__getattribute__")))
  (f2_NoSide:zct4 K (.ref zci7) "__getattr__"=some none)
  (f3_NoSide:zct4 K (.ref zci7) "__class__"=some (some (.builtin "object.__class__")))
  (f4_NoSide:zcs2 K (.ref zci7) (.type "BaseException")=some true)
  (f5_NoSide:PySem.W.mroIn K zci7 (.type "object")=some true)
  (f6_NoSide:zcs2 K (.ref zci7) (.type "ValueError")=some true)
  (s_NoSide_HostError:zcs2 K (.ref zci7) (.ref zci9)=some true)
  (s_NoSide_NoBattle:zcs2 K (.ref zci7) (.ref zci6)=some false)
  (s_NoSide_NoPlan:zcs2 K (.ref zci7) (.ref zcj3)=some false)
  (s_NoSide_NoMix:zcs2 K (.ref zci7) (.ref zcj7)=some false)
  (s_NoSide_NoStream:zcs2 K (.ref zci7) (.ref zcj0)=some false)
  (s_NoSide_NoSide:zcs2 K (.ref zci7) (.ref zci7)=some true)
  (s_NoSide_NoAlike:zcs2 K (.ref zci7) (.ref zcj2)=some false)
  (s_NoSide_NoNumber:zcs2 K (.ref zci7) (.ref zcj1)=some false) :
  ∃ fd:FuncData,(∀ (s:Shared) (v:Value),BindsTo s fd ⟨[v],[]⟩ [("_law_script",v)])/\∀ base:Heap,K.In base->base.Ns mainGlobals mg->FnOk l.prog w K mg base CX0 12 fa fd ["_law_script"] (spLaw K):=by
 have e:=hfa.symm.trans (zcq4 X G a_46)
 cases e
 have N:Nm mg:=⟨zct1 X G z_ValueError,zct1 X G z_all,zct1 X G z_bool,zct1 X G z_enumerate,zct1 X G z_int,zct1 X G z_isinstance,zct1 X G z_len,zct1 X G z_list,zct1 X G z_max,zct1 X G z_min,zct1 X G z_range,zct1 X G z_reversed,zct1 X G z_sorted,zct1 X G z_sum,zct1 X G z_tuple,zct1 X G z_zip⟩
 have zco1:=zcq4 X G e_MOST_HOSTS
 have zcn9:=zcq4 X G e_MOST_FIELDS
 have F_0:=zc3 (st:=zo9) l_0 c_0 k_0
 have F_1:=zc3 (st:=zr4) l_1 c_1 k_1
 have F_2:=zc3 (st:=zk9) l_2 c_2 k_2
 have F_3:=zc3 (st:=zm1) l_3 c_3 k_3
 have F_4:=zc3 (st:=zo3) l_4 c_4 k_4
 have F_5:=zc3 (st:=zg5) l_5 c_5 k_5
 have F_6:=zc3 (st:=zo6) l_6 c_6 k_6
 have F_7:=zc3 (st:=zp0) l_7 c_7 k_7
 have F_8:=zc3 (st:=zi5) l_8 c_8 k_8
 have F_9:=zc3 (st:=zbg6) l_9 c_9 k_9
 have F_10:=zc3 (st:=zr2) l_10 c_10 k_10
 have F_11:=zc3 (st:=zt6) l_11 c_11 k_11
 have F_12:=zc3 (st:=zt7) l_12 c_12 k_12
 have F_13:=zc3 (st:=zt9) l_13 c_13 k_13
 have F_14:=zc3 (st:=zz4) l_14 c_14 k_14
 have F_15:=zc3 (st:=zm9) l_15 c_15 k_15
 have F_16:=zc3 (st:=zo7) l_16 c_16 k_16
 have F_17:=zc3 (st:=zm2) l_17 c_17 k_17
 have F_18:=zc3 (st:=zn0) l_18 c_18 k_18
 have F_19:=zc3 (st:=zi7) l_19 c_19 k_19
 have F_20:=zc3 (st:=zbg9) l_20 c_20 k_20
 have F_21:=zc3 (st:=zo2) l_21 c_21 k_21
 have F_22:=zc3 (st:=zaj2) l_22 c_22 k_22
 have F_23:=zc3 (st:=zu3) l_23 c_23 k_23
 have F_24:=zc3 (st:=zz0) l_24 c_24 k_24
 have F_25:=zc3 (st:=zk3) l_25 c_25 k_25
 have F_26:=zc3 (st:=zg8) l_26 c_26 k_26
 have F_27:=zc3 (st:=zi3) l_27 c_27 k_27
 have F_28:=zc3 (st:=zu1) l_28 c_28 k_28
 have F_29:=zc3 (st:=zo5) l_29 c_29 k_29
 have F_30:=zc3 (st:=zg6) l_30 c_30 k_30
 have F_31:=zc3 (st:=zm6) l_31 c_31 k_31
 have F_32:=zc3 (st:=zl8) l_32 c_32 k_32
 have F_33:=zc3 (st:=zl9) l_33 c_33 k_33
 have F_34:=zc3 (st:=zm3) l_34 c_34 k_34
 have F_35:=zc3 (st:=zi4) l_35 c_35 k_35
 have F_36:=zc3 (st:=zm4) l_36 c_36 k_36
 have F_37:=zc3 (st:=zm0) l_37 c_37 k_37
 have F_38:=zc3 (st:=zl7) l_38 c_38 k_38
 have F_39:=zc3 (st:=zl0) l_39 c_39 k_39
 have F_40:=zc3 (st:=zi2) l_40 c_40 k_40
 have F_41:=zc3 (st:=zj0) l_41 c_41 k_41
 have F_42:=zc3 (st:=zm5) l_42 c_42 k_42
 have F_43:=zc3 (st:=zk6) l_43 c_43 k_43
 have F_44:=zc3 (st:=zk8) l_44 c_44 k_44
 have F_45:=zc3 (st:=zg7) l_45 c_45 k_45
 have F_46:=zc3 (st:=zan2) l_46 c_46 k_46
 refine⟨zcq8 "law" "law" (zb3 zan2) (zb2 zan2) (za3 zan2) .none kV_46 dc_46 pm_46 an_46 cd_46 ct_46,fun s v=>.of_eq rfl,fun base XB GB=>?_⟩
 have Z:Cz K mg base zci9 zci6 zcj3 zcj7 zcj0 zci7 zcj2 zcj1 zcj6:=⟨zcq4 X G e_HostError,zcq4 X G e_NoBattle,zcq4 X G e_NoPlan,zcq4 X G e_NoMix,zcq4 X G e_NoStream,zcq4 X G e_NoSide,zcq4 X G e_NoAlike,zcq4 X G e_NoNumber,⟨⟨_,_,_,_,_,_,_,_,_,_,_,_,_,_,ob_NoBattle⟩,fun h X=>zbj2 X x_HostError,in_NoBattle,ty_NoBattle,sa_NoBattle,nf_NoBattle⟩,⟨_,zc3 (st:=zk2) li_NoBattle ci_NoBattle ki_NoBattle,(zc3 (st:=zk2) li_NoBattle ci_NoBattle ki_NoBattle).binds fun _ _ _ _ _ _ us hl=>match us,hl with | [_,_],_=>rfl⟩,hd_NoBattle,⟨f1_NoBattle,f2_NoBattle,f3_NoBattle,f4_NoBattle,f5_NoBattle⟩,by rw[kk_NoBattle];rfl,zbo0 bb_HostError kk_HostError tt_HostError s_NoBattle_HostError,zv4 f6_NoBattle,zj3 kk_HostError tt_HostError s_NoBattle_HostError s_NoBattle_NoBattle,zj3 kk_NoBattle tt_NoBattle s_NoBattle_NoBattle s_NoBattle_NoBattle,zj3 kk_NoPlan tt_NoPlan s_NoBattle_NoPlan s_NoBattle_NoBattle,zj3 kk_NoMix tt_NoMix s_NoBattle_NoMix s_NoBattle_NoBattle,zj3 kk_NoStream tt_NoStream s_NoBattle_NoStream s_NoBattle_NoBattle,zj3 kk_NoSide tt_NoSide s_NoBattle_NoSide s_NoBattle_NoBattle,zj3 kk_NoAlike tt_NoAlike s_NoBattle_NoAlike s_NoBattle_NoBattle,zj3 kk_NoNumber tt_NoNumber s_NoBattle_NoNumber s_NoBattle_NoBattle,zbx0 XB GB e_NoSide x_NoSide,⟨f1_NoSide,f2_NoSide,f3_NoSide,f4_NoSide,f5_NoSide⟩,by rw[kk_NoSide];rfl,zbo0 bb_HostError kk_HostError tt_HostError s_NoSide_HostError,zv4 f6_NoSide,zj3 kk_HostError tt_HostError s_NoSide_HostError s_NoSide_NoSide,zj3 kk_NoBattle tt_NoBattle s_NoSide_NoBattle s_NoSide_NoSide,zj3 kk_NoPlan tt_NoPlan s_NoSide_NoPlan s_NoSide_NoSide,zj3 kk_NoMix tt_NoMix s_NoSide_NoMix s_NoSide_NoSide,zj3 kk_NoStream tt_NoStream s_NoSide_NoStream s_NoSide_NoSide,zj3 kk_NoSide tt_NoSide s_NoSide_NoSide s_NoSide_NoSide,zj3 kk_NoAlike tt_NoAlike s_NoSide_NoAlike s_NoSide_NoSide,zj3 kk_NoNumber tt_NoNumber s_NoSide_NoNumber s_NoSide_NoSide,zq0 kk_HostError tt_HostError nn_HostError,zq0 kk_NoBattle tt_NoBattle nn_NoBattle,zq0 kk_NoPlan tt_NoPlan nn_NoPlan,zq0 kk_NoMix tt_NoMix nn_NoMix,zq0 kk_NoStream tt_NoStream nn_NoStream,zq0 kk_NoSide tt_NoSide nn_NoSide,zq0 kk_NoAlike tt_NoAlike nn_NoAlike,zq0 kk_NoNumber tt_NoNumber nn_NoNumber⟩
 have zcj9:Def l.prog w K mg base CX0 1 "is_whole" ["thing"] ze9:=⟨⟨_,_,zax0 (P:=l.prog) (w:=w) (base:=base) F_0 N ,zcq4 X G a_0,k_0,F_0.binds fun _ _ _ _ _ _ us hl=>match us,hl with | [_],_=>rfl⟩⟩
 have zcj8:Def l.prog w K mg base CX0 2 "is_from" ["thing","least"] zg4:=⟨⟨_,_,zbf6 (P:=l.prog) (w:=w) (base:=base) F_1 N zcj9,zcq4 X G a_1,k_1,F_1.binds fun _ _ _ _ _ _ us hl=>match us,hl with | [_,_],_=>rfl⟩⟩
 have zcj5:Def l.prog w K mg base CX0 3 "is_between" ["thing","least","most"] zd4:=⟨⟨_,_,zan1 (P:=l.prog) (w:=w) (base:=base) F_2 N zcj8,zcq4 X G a_2,k_2,F_2.binds fun _ _ _ _ _ _ us hl=>match us,hl with | [_,_,_],_=>rfl⟩⟩
 have zcm0:Def l.prog w K mg base CX0 4 "are_hosts" ["first","second"] zh7:=⟨⟨_,_,zas9 (P:=l.prog) (w:=w) (base:=base) F_3 N zco1 zcj5,zcq4 X G a_3,k_3,F_3.binds fun _ _ _ _ _ _ us hl=>match us,hl with | [_,_],_=>rfl⟩⟩
 have zcn0:Def l.prog w K mg base CX0 5 "has_size" ["battle"] zj8:=⟨⟨_,_,zay0 (P:=l.prog) (w:=w) (base:=base) F_4 N zcn9 zcm0,zcq4 X G a_4,k_4,F_4.binds fun _ _ _ _ _ _ us hl=>match us,hl with | [_],_=>rfl⟩⟩
 have zck3:Def l.prog w K mg base CX0 2 "is_table_row" ["many_numbers","row"] ze1:=⟨⟨_,_,zae1 (P:=l.prog) (w:=w) (base:=base) F_5 N zcj9,zcq4 X G a_5,k_5,F_5.binds fun _ _ _ _ _ _ us hl=>match us,hl with | [_,_],_=>rfl⟩⟩
 have zck2:Def l.prog w K mg base CX0 3 "is_table" ["many_rows","many_numbers","rows"] zh5:=⟨⟨_,_,zay9 (P:=l.prog) (w:=w) (base:=base) F_6 N zck3,zcq4 X G a_6,k_6,F_6.binds fun _ _ _ _ _ _ us hl=>match us,hl with | [_,_,_],_=>rfl⟩⟩
 have zcn1:Def l.prog w K mg base CX0 4 "is_field" ["first","second","field"] zj6:=⟨⟨_,_,zaw7 (P:=l.prog) (w:=w) (base:=base) F_7 N zcj5 zcj8 zck2 zcj9,zcq4 X G a_7,k_7,F_7.binds fun _ _ _ _ _ _ us hl=>match us,hl with | [_,_,_],_=>rfl⟩⟩
 have zck8:Def l.prog w K mg base (CXR l.prog w) 6 "look_battle" ["battle"] (zd5 zci6):=⟨⟨_,_,zai0 (P:=l.prog) (w:=w) (base:=base) F_8 N zcn0 zcn1 Z,zcq4 X G a_8,k_8,F_8.binds fun _ _ _ _ _ _ us hl=>match us,hl with | [_],_=>rfl⟩⟩
 have D_won:Def l.prog w K mg base CX0 1 "won" ["field","x","y"] zad2:=⟨⟨_,_,ok_won (P:=l.prog) (w:=w) (base:=base) F_9 N ,zcq4 X G a_9,k_9,F_9.binds fun _ _ _ _ _ _ us hl=>match us,hl with | [_,_,_],_=>rfl⟩⟩
 have zcn6:Def l.prog w K mg base CX0 4 "is_flow" ["thing"] zm8:=⟨⟨_,_,zbg4 (P:=l.prog) (w:=w) (base:=base) F_10 N zcj5 zcj8,zcq4 X G a_10,k_10,F_10.binds fun _ _ _ _ _ _ us hl=>match us,hl with | [_],_=>rfl⟩⟩
 have zcl8:Def l.prog w K mg base CX0 5 "is_row" ["row"] zn4:=⟨⟨_,_,zbr5 (P:=l.prog) (w:=w) (base:=base) F_11 N zcn6,zcq4 X G a_11,k_11,F_11.binds fun _ _ _ _ _ _ us hl=>match us,hl with | [_],_=>rfl⟩⟩
 have zcn7:Def l.prog w K mg base CX0 6 "begins" ["stream"] zp1:=⟨⟨_,_,zbq2 (P:=l.prog) (w:=w) (base:=base) F_12 N zcl8,zcq4 X G a_12,k_12,F_12.binds fun _ _ _ _ _ _ us hl=>match us,hl with | [_],_=>rfl⟩⟩
 have zcn5:Def l.prog w K mg base CX0 1 "summed" ["pairs"] zp3:=⟨⟨_,_,zbo5 (P:=l.prog) (w:=w) (base:=base) F_13 N ,zcq4 X G a_13,k_13,F_13.binds fun _ _ _ _ _ _ us hl=>match us,hl with | [_],_=>rfl⟩⟩
 have zco2:Def l.prog w K mg base CX0 2 "meets" ["ahead","row"] zr6:=⟨⟨_,_,zbt8 (P:=l.prog) (w:=w) (base:=base) F_14 N zcn5,zcq4 X G a_14,k_14,F_14.binds fun _ _ _ _ _ _ us hl=>match us,hl with | [_,_],_=>rfl⟩⟩
 have zcm3:Def l.prog w K mg base CX0 7 "is_stream" ["hosts","fields","stream"] zh8:=⟨⟨_,_,zap7 (P:=l.prog) (w:=w) (base:=base) F_15 N zcn7 zcl8 zco2,zcq4 X G a_15,k_15,F_15.binds fun _ _ _ _ _ _ us hl=>match us,hl with | [_,_,_],_=>rfl⟩⟩
 have zcn4:Def l.prog w K mg base CX0 1 "whole_in" ["stream"] zj7:=⟨⟨_,_,zaw5 (P:=l.prog) (w:=w) (base:=base) F_16 N ,zcq4 X G a_16,k_16,F_16.binds fun _ _ _ _ _ _ us hl=>match us,hl with | [_],_=>rfl⟩⟩
 have zcm5:Def l.prog w K mg base (CXR l.prog w) 1 "look_side" ["side"] (ze5 zci7):=⟨⟨_,_,zaq0 (P:=l.prog) (w:=w) (base:=base) F_17 N Z,zcq4 X G a_17,k_17,F_17.binds fun _ _ _ _ _ _ us hl=>match us,hl with | [_],_=>rfl⟩⟩
 have zcm4:Def l.prog w K mg base CX0 1 "own_hosts" ["battle","side"] zh9:=⟨⟨_,_,zar4 (P:=l.prog) (w:=w) (base:=base) F_18 N ,zcq4 X G a_18,k_18,F_18.binds fun _ _ _ _ _ _ us hl=>match us,hl with | [_,_],_=>rfl⟩⟩
 have zcj4:Def l.prog w K mg base CX0 1 "other_hosts" ["battle","side"] zd3:=⟨⟨_,_,zah9 (P:=l.prog) (w:=w) (base:=base) F_19 N ,zcq4 X G a_19,k_19,F_19.binds fun _ _ _ _ _ _ us hl=>match us,hl with | [_,_],_=>rfl⟩⟩
 have D_due:Def l.prog w K mg base CX0 2 "due" ["field","side","row","count"] zad5:=⟨⟨_,_,ok_due (P:=l.prog) (w:=w) (base:=base) F_20 N D_won,zcq4 X G a_20,k_20,F_20.binds fun _ _ _ _ _ _ us hl=>match us,hl with | [_,_,_,_],_=>rfl⟩⟩
 have zcn2:Def l.prog w K mg base CX0 3 "row_dues" ["field","side","row","most"] zk0:=⟨⟨_,_,zay5 (P:=l.prog) (w:=w) (base:=base) F_21 N D_due,zcq4 X G a_21,k_21,F_21.binds fun _ _ _ _ _ _ us hl=>match us,hl with | [_,_,_,_],_=>rfl⟩⟩
 have zco7:Def l.prog w K mg base CX0 4 "dues" ["battle","side","stream"] zv8:=⟨⟨_,_,zcg1 (P:=l.prog) (w:=w) (base:=base) F_22 N zcj4 zcn2,zcq4 X G a_22,k_22,F_22.binds fun _ _ _ _ _ _ us hl=>match us,hl with | [_,_,_],_=>rfl⟩⟩
 have zcn8:Def l.prog w K mg base CX0 1 "bounds" ["field_dues","behind","count"] zl2:=⟨⟨_,_,zbl0 (P:=l.prog) (w:=w) (base:=base) F_23 N ,zcq4 X G a_23,k_23,F_23.binds fun _ _ _ _ _ _ us hl=>match us,hl with | [_,_,_],_=>rfl⟩⟩
 have zcn3:Def l.prog w K mg base CX0 1 "keeps" ["side","number","bound"] zq1:=⟨⟨_,_,zbt1 (P:=l.prog) (w:=w) (base:=base) F_24 N ,zcq4 X G a_24,k_24,F_24.binds fun _ _ _ _ _ _ us hl=>match us,hl with | [_,_,_],_=>rfl⟩⟩
 have zcl4:Def l.prog w K mg base CX0 8 "wrong_form" ["battle","side","paper"] zf6:=⟨⟨_,_,zam1 (P:=l.prog) (w:=w) (base:=base) F_25 N zcm3 zck2 zcj4 zcm4,zcq4 X G a_25,k_25,F_25.binds fun _ _ _ _ _ _ us hl=>match us,hl with | [_,_,_],_=>rfl⟩⟩
 have zck6:Def l.prog w K mg base CX0 5 "wrong_number" ["battle","side","paper"] ze0:=⟨⟨_,_,zag4 (P:=l.prog) (w:=w) (base:=base) F_26 N zcn8 zco7 zcn3,zcq4 X G a_26,k_26,F_26.binds fun _ _ _ _ _ _ us hl=>match us,hl with | [_,_,_],_=>rfl⟩⟩
 have zck9:Def l.prog w K mg base CX0 2 "wrong_worth" ["battle","side","worth","paper"] ze7:=⟨⟨_,_,zah6 (P:=l.prog) (w:=w) (base:=base) F_27 N zcn3 zcj4 zcn4,zcq4 X G a_27,k_27,F_27.binds fun _ _ _ _ _ _ us hl=>match us,hl with | [_,_,_,_],_=>rfl⟩⟩
 have zcl0:Def l.prog w K mg base (CXR l.prog w) 9 "judged" ["battle","side","worth","paper"] (zg3 zci6 zci7):=⟨⟨_,_,zbl1 (P:=l.prog) (w:=w) (base:=base) F_28 N zck8 zcm5 zcl4 zck6 zck9,zcq4 X G a_28,k_28,F_28.binds fun _ _ _ _ _ _ us hl=>match us,hl with | [_,_,_,_],_=>rfl⟩⟩
 have zcl9:Def l.prog w K mg base CX0 1 "_law_mix" ["_law_number","_law_k"] zj9:=⟨⟨_,_,zay6 (P:=l.prog) (w:=w) (base:=base) F_29 N ,zcq4 X G a_29,k_29,F_29.binds fun _ _ _ _ _ _ us hl=>match us,hl with | [_,_],_=>rfl⟩⟩
 have zck5:Def l.prog w K mg base CX0 1 "_law_cell_at" ["_law_script","_law_k"] zd8:=⟨⟨_,_,zac4 (P:=l.prog) (w:=w) (base:=base) F_30 N ,zcq4 X G a_30,k_30,F_30.binds fun _ _ _ _ _ _ us hl=>match us,hl with | [_,_],_=>rfl⟩⟩
 have zcm9:Def l.prog w K mg base CX0 2 "_law_left" ["_law_script","_law_k"] zh1:=⟨⟨_,_,zap6 (P:=l.prog) (w:=w) (base:=base) F_31 N zck5,zcq4 X G a_31,k_31,F_31.binds fun _ _ _ _ _ _ us hl=>match us,hl with | [_,_],_=>rfl⟩⟩
 have zci8:Def l.prog w K mg base CX0 2 "_law_draw" ["_law_left_here","_law_base"] zc9:=⟨⟨_,_,zas5 (P:=l.prog) (w:=w) (base:=base) F_32 N zcl9,zcq4 X G a_32,k_32,F_32.binds fun _ _ _ _ _ _ us hl=>match us,hl with | [_,_],_=>rfl⟩⟩
 have zcm1:Def l.prog w K mg base CX0 3 "_law_some" ["_law_left_here"] zh4:=⟨⟨_,_,zaq6 (P:=l.prog) (w:=w) (base:=base) F_33 N zci8,zcq4 X G a_33,k_33,F_33.binds fun _ _ _ _ _ _ us hl=>match us,hl with | [_],_=>rfl⟩⟩
 have zcm2:Def l.prog w K mg base CX0 4 "_law_rule" ["_law_left_here","_law_first","_law_second"] zh2:=⟨⟨_,_,zap5 (P:=l.prog) (w:=w) (base:=base) F_34 N zci8 zcm1,zcq4 X G a_34,k_34,F_34.binds fun _ _ _ _ _ _ us hl=>match us,hl with | [_,_,_],_=>rfl⟩⟩
 have zcl1:Def l.prog w K mg base CX0 5 "_law_battle" ["_law_left_here","_law_most","_law_fields"] zf0:=⟨⟨_,_,zah1 (P:=l.prog) (w:=w) (base:=base) F_35 N zci8 zcm2,zcq4 X G a_35,k_35,F_35.binds fun _ _ _ _ _ _ us hl=>match us,hl with | [_,_,_],_=>rfl⟩⟩
 have zck0:Def l.prog w K mg base CX0 10 "_law_deep" ["_law_thing"] zk5:=⟨⟨_,_,zar8 (P:=l.prog) (w:=w) (base:=base) F_36 N  (zcq4 X G a_36) k_36 (F_36.binds fun _ _ _ _ _ _ us hl=>match us,hl with | [_],_=>rfl),zcq4 X G a_36,k_36,F_36.binds fun _ _ _ _ _ _ us hl=>match us,hl with | [_],_=>rfl⟩⟩
 have zcm6:Def l.prog w K mg base CX0 1 "_law_paid" ["_law_field","_law_x","_law_y"] zg9:=⟨⟨_,_,zaq8 (P:=l.prog) (w:=w) (base:=base) F_37 N ,zcq4 X G a_37,k_37,F_37.binds fun _ _ _ _ _ _ us hl=>match us,hl with | [_,_,_],_=>rfl⟩⟩
 have zcm8:Def l.prog w K mg base CX0 3 "_law_plan" ["_law_left_here","_law_hosts","_law_many"] zh0:=⟨⟨_,_,zaq1 (P:=l.prog) (w:=w) (base:=base) F_38 N zci8,zcq4 X G a_38,k_38,F_38.binds fun _ _ _ _ _ _ us hl=>match us,hl with | [_,_,_],_=>rfl⟩⟩
 have zcl6:Def l.prog w K mg base CX0 1 "_law_flows" ["_law_mix_here"] zf8:=⟨⟨_,_,zal3 (P:=l.prog) (w:=w) (base:=base) F_39 N ,zcq4 X G a_39,k_39,F_39.binds fun _ _ _ _ _ _ us hl=>match us,hl with | [_],_=>rfl⟩⟩
 have zcl3:Def l.prog w K mg base CX0 4 "_law_stream" ["_law_left_here","_law_hosts","_law_many"] ze8:=⟨⟨_,_,zag7 (P:=l.prog) (w:=w) (base:=base) F_40 N zci8 zcl6 zcm8,zcq4 X G a_40,k_40,F_40.binds fun _ _ _ _ _ _ us hl=>match us,hl with | [_,_,_],_=>rfl⟩⟩
 have zcl2:Def l.prog w K mg base CX0 1 "_law_lowest" ["_law_top","_law_bottom"] ze6:=⟨⟨_,_,zah5 (P:=l.prog) (w:=w) (base:=base) F_41 N ,zcq4 X G a_41,k_41,F_41.binds fun _ _ _ _ _ _ us hl=>match us,hl with | [_,_],_=>rfl⟩⟩
 have zcm7:Def l.prog w K mg base CX0 2 "_law_dues" ["_law_battle_here","_law_side","_law_stream_here"] zh6:=⟨⟨_,_,zaq5 (P:=l.prog) (w:=w) (base:=base) F_42 N zcm6,zcq4 X G a_42,k_42,F_42.binds fun _ _ _ _ _ _ us hl=>match us,hl with | [_,_,_],_=>rfl⟩⟩
 have zcl5:Def l.prog w K mg base CX0 1 "_law_comes" ["_law_owed","_law_table_here","_law_k","_law_rest"] zf9:=⟨⟨_,_,zao4 (P:=l.prog) (w:=w) (base:=base) F_43 N ,zcq4 X G a_43,k_43,F_43.binds fun _ _ _ _ _ _ us hl=>match us,hl with | [_,_,_,_],_=>rfl⟩⟩
 have zcl7:Def l.prog w K mg base CX0 3 "_law_table" ["_law_battle_here","_law_side","_law_stream_here"] zf7:=⟨⟨_,_,zam2 (P:=l.prog) (w:=w) (base:=base) F_44 N zcl5 zcm7,zcq4 X G a_44,k_44,F_44.binds fun _ _ _ _ _ _ us hl=>match us,hl with | [_,_,_],_=>rfl⟩⟩
 have zck1:Def l.prog w K mg base CX0 10 "_law_refused" ["_law_battle_here","_law_side","_law_paper"] zc8:=⟨⟨_,_,zag5 (P:=l.prog) (w:=w) (base:=base) F_45 N zcl0 Z,zcq4 X G a_45,k_45,F_45.binds fun _ _ _ _ _ _ us hl=>match us,hl with | [_,_,_],_=>rfl⟩⟩
 exact ok_law (P:=l.prog) (w:=w) (base:=base) F_46 N zcl1 zck0 zci8 zcm9 zcl2 zck1 zcl3 zcl7 zcl0
theorem walk {l:PySem.W.OpenLaw}{q:Program}{loose:List Str}{XP:(Str->Option Value)->Heap->Prop}{YP:World->Heap->Prop}{d:DefRec}{K:Params->zcp3}(hn:l.most=some 63) (hdf:d.params.defaults=[])
  (hY:∀ (w:World) (h:Heap),YP w h->(K w.params).In h)
  (F:∀ (w:World) (mg:Str->Option Value) (fa:Addr) (h:Heap),(K w.params).In h->h.Ns mainGlobals mg->mg d.name=some (.ref fa) ->
   ∃ fd:FuncData,(∀ (s:Shared) (u:Value),BindsTo s fd ⟨[u],[]⟩ [("_law_script",u)])/\∀ base:Heap,(K w.params).In base->base.Ns mainGlobals mg->FnOk l.prog w (K w.params) mg base CX0 12 fa fd ["_law_script"] (spLaw (K w.params))) :
  PySem.W.WalkO q loose XP YP l.row.toRowW d [] (fun f vs=>PySem.call f vs):=
 L2.walk_of (n:=63) (k:=12) (x:="_law_script") (CX:=fun _=>CX0) (sp:=fun w=>spLaw (K w.params)) hn (by decide) hdf ⟨rfl,by decide,by decide,rfl⟩ hY F (fun _ _ a ns hl _ hS=>⟨a,ns,rfl,hS,hl,fun _=>rfl⟩) fun _ _ _ _ _ z=>z
end G
theorem PySem.W.Fast.tw16108965830784426413 : True := trivial
theorem PySem.W.Fast.tw3270376942454040008 : True := trivial
theorem PySem.W.Fast.tw11082302268439571740 : True := trivial
theorem PySem.W.Fast.tw4592932372434888537 : True := trivial
theorem PySem.W.Fast.tw907619850201529612 : True := trivial
theorem PySem.W.Fast.tw9258225441463058668 : True := trivial
theorem PySem.W.Fast.tw18075445371662052849 : True := trivial
theorem PySem.W.Fast.tw13344087498969847539 : True := trivial
theorem PySem.W.Fast.tw9698218352830618939 : True := trivial
theorem PySem.W.Fast.tw3663211859949308944 : True := trivial
theorem PySem.W.Fast.tw14600160506433100256 : True := trivial
theorem PySem.W.Fast.tw7149638018100602822 : True := trivial
theorem PySem.W.Fast.tw11755994049653745515 : True := trivial
theorem PySem.W.Fast.tw17561148574310191468 : True := trivial
theorem PySem.W.Fast.tw8878925804194037547 : True := trivial
theorem PySem.W.Fast.tw6322052423577600240 : True := trivial
theorem PySem.W.Fast.tw14002516828934029137 : True := trivial
theorem PySem.W.Fast.tw990058577196158797 : True := trivial
theorem PySem.W.Fast.tw2459267899322696449 : True := trivial
theorem PySem.W.Fast.tw12137487959969758854 : True := trivial
theorem PySem.W.Fast.tw5931597038731247448 : True := trivial
theorem PySem.W.Fast.tw11940473086232161150 : True := trivial
theorem PySem.W.Fast.tw424349782843115115 : True := trivial
theorem PySem.W.Fast.tw10370068435389915148 : True := trivial
theorem PySem.W.Fast.tw17608750615728335529 : True := trivial
theorem PySem.W.Fast.tw11943929677824901819 : True := trivial
theorem PySem.W.Fast.tw12626256920919278426 : True := trivial
theorem PySem.W.Fast.tw17835161246109683411 : True := trivial
open PySem PySem.W PyProof.Rows
set_option maxRecDepth 100000 in
set_option maxHeartbeats 0 in
theorem PySem.Challenge.cw_hostfields_k33_whole_two_papers_one_wort_holds : PySem.Challenge.rw_hostfields_k33_whole_two_papers_one_wort.Holds := by
 w_on;o_law;k_head;(case hw=>w_witness2)
 k_fill
 first|refine G.walk (l:=PySem.Challenge.rw_hostfields_k33_whole_two_papers_one_wort) rfl rfl (fun w h Y=>PySem.W.kIn_of Y) ?F|refine G.walk (l:=PySem.Challenge.rw_hostfields_k33_whole_two_papers_one_wort) rfl rfl (fun w h Y=>PySem.W.km_in_of Y) ?F
 case F=>
  intro w mg fa h KX GG hmg
  refine' G.all_mk KX GG hmg ?e_MOST_HOSTS ?e_MOST_FIELDS ?a_0 ?l_0 ?c_0 ?k_0 ?a_1 ?l_1 ?c_1 ?k_1 ?a_2 ?l_2 ?c_2 ?k_2 ?a_3 ?l_3 ?c_3 ?k_3 ?a_4 ?l_4 ?c_4 ?k_4 ?a_5 ?l_5 ?c_5 ?k_5 ?a_6 ?l_6 ?c_6 ?k_6 ?a_7 ?l_7 ?c_7 ?k_7 ?a_8 ?l_8 ?c_8 ?k_8 ?a_9 ?l_9 ?c_9 ?k_9 ?a_10 ?l_10 ?c_10 ?k_10 ?a_11 ?l_11 ?c_11 ?k_11 ?a_12 ?l_12 ?c_12 ?k_12 ?a_13 ?l_13 ?c_13 ?k_13 ?a_14 ?l_14 ?c_14 ?k_14 ?a_15 ?l_15 ?c_15 ?k_15 ?a_16 ?l_16 ?c_16 ?k_16 ?a_17 ?l_17 ?c_17 ?k_17 ?a_18 ?l_18 ?c_18 ?k_18 ?a_19 ?l_19 ?c_19 ?k_19 ?a_20 ?l_20 ?c_20 ?k_20 ?a_21 ?l_21 ?c_21 ?k_21 ?a_22 ?l_22 ?c_22 ?k_22 ?a_23 ?l_23 ?c_23 ?k_23 ?a_24 ?l_24 ?c_24 ?k_24 ?a_25 ?l_25 ?c_25 ?k_25 ?a_26 ?l_26 ?c_26 ?k_26 ?a_27 ?l_27 ?c_27 ?k_27 ?a_28 ?l_28 ?c_28 ?k_28 ?a_29 ?l_29 ?c_29 ?k_29 ?a_30 ?l_30 ?c_30 ?k_30 ?a_31 ?l_31 ?c_31 ?k_31 ?a_32 ?l_32 ?c_32 ?k_32 ?a_33 ?l_33 ?c_33 ?k_33 ?a_34 ?l_34 ?c_34 ?k_34 ?a_35 ?l_35 ?c_35 ?k_35 ?a_36 ?l_36 ?c_36 ?k_36 ?a_37 ?l_37 ?c_37 ?k_37 ?a_38 ?l_38 ?c_38 ?k_38 ?a_39 ?l_39 ?c_39 ?k_39 ?a_40 ?l_40 ?c_40 ?k_40 ?a_41 ?l_41 ?c_41 ?k_41 ?a_42 ?l_42 ?c_42 ?k_42 ?a_43 ?l_43 ?c_43 ?k_43 ?a_44 ?l_44 ?c_44 ?k_44 ?a_45 ?l_45 ?c_45 ?k_45 ?a_46 ?l_46 ?c_46 ?k_46 ?z_ValueError ?z_all ?z_bool ?z_enumerate ?z_int ?z_isinstance ?z_len ?z_list ?z_max ?z_min ?z_range ?z_reversed ?z_sorted ?z_sum ?z_tuple ?z_zip ?e_HostError ?kk_HostError ?tt_HostError ?nn_HostError ?e_NoBattle ?kk_NoBattle ?tt_NoBattle ?nn_NoBattle ?e_NoPlan ?kk_NoPlan ?tt_NoPlan ?nn_NoPlan ?e_NoMix ?kk_NoMix ?tt_NoMix ?nn_NoMix ?e_NoStream ?kk_NoStream ?tt_NoStream ?nn_NoStream ?e_NoSide ?kk_NoSide ?tt_NoSide ?nn_NoSide ?e_NoAlike ?kk_NoAlike ?tt_NoAlike ?nn_NoAlike ?e_NoNumber ?kk_NoNumber ?tt_NoNumber ?nn_NoNumber ?bb_HostError ?x_HostError ?ob_NoBattle ?in_NoBattle ?ty_NoBattle ?sa_NoBattle ?nf_NoBattle ?hd_NoBattle ?li_NoBattle ?ci_NoBattle ?ki_NoBattle ?f1_NoBattle ?f2_NoBattle ?f3_NoBattle ?f4_NoBattle ?f5_NoBattle ?f6_NoBattle ?s_NoBattle_HostError ?s_NoBattle_NoBattle ?s_NoBattle_NoPlan ?s_NoBattle_NoMix ?s_NoBattle_NoStream ?s_NoBattle_NoSide ?s_NoBattle_NoAlike ?s_NoBattle_NoNumber ?x_NoSide ?f1_NoSide ?f2_NoSide ?f3_NoSide ?f4_NoSide ?f5_NoSide ?f6_NoSide ?s_NoSide_HostError ?s_NoSide_NoBattle ?s_NoSide_NoPlan ?s_NoSide_NoMix ?s_NoSide_NoStream ?s_NoSide_NoSide ?s_NoSide_NoAlike ?s_NoSide_NoNumber
  (case e_MOST_HOSTS=>k_is)
  (case e_MOST_FIELDS=>k_is)
  (case a_0=>k_is)
  (case l_0=>k_is)
  (case c_0=>k_is)
  (case k_0=>k_is)
  (case a_1=>k_is)
  (case l_1=>k_is)
  (case c_1=>k_is)
  (case k_1=>k_is)
  (case a_2=>k_is)
  (case l_2=>k_is)
  (case c_2=>k_is)
  (case k_2=>k_is)
  (case a_3=>k_is)
  (case l_3=>k_is)
  (case c_3=>k_is)
  (case k_3=>k_is)
  (case a_4=>k_is)
  (case l_4=>k_is)
  (case c_4=>k_is)
  (case k_4=>k_is)
  (case a_5=>k_is)
  (case l_5=>k_is)
  (case c_5=>k_is)
  (case k_5=>k_is)
  (case a_6=>k_is)
  (case l_6=>k_is)
  (case c_6=>k_is)
  (case k_6=>k_is)
  (case a_7=>k_is)
  (case l_7=>k_is)
  (case c_7=>k_is)
  (case k_7=>k_is)
  (case a_8=>k_is)
  (case l_8=>k_is)
  (case c_8=>k_is)
  (case k_8=>k_is)
  (case a_9=>k_is)
  (case l_9=>k_is)
  (case c_9=>k_is)
  (case k_9=>k_is)
  (case a_10=>k_is)
  (case l_10=>k_is)
  (case c_10=>k_is)
  (case k_10=>k_is)
  (case a_11=>k_is)
  (case l_11=>k_is)
  (case c_11=>k_is)
  (case k_11=>k_is)
  (case a_12=>k_is)
  (case l_12=>k_is)
  (case c_12=>k_is)
  (case k_12=>k_is)
  (case a_13=>k_is)
  (case l_13=>k_is)
  (case c_13=>k_is)
  (case k_13=>k_is)
  (case a_14=>k_is)
  (case l_14=>k_is)
  (case c_14=>k_is)
  (case k_14=>k_is)
  (case a_15=>k_is)
  (case l_15=>k_is)
  (case c_15=>k_is)
  (case k_15=>k_is)
  (case a_16=>k_is)
  (case l_16=>k_is)
  (case c_16=>k_is)
  (case k_16=>k_is)
  (case a_17=>k_is)
  (case l_17=>k_is)
  (case c_17=>k_is)
  (case k_17=>k_is)
  (case a_18=>k_is)
  (case l_18=>k_is)
  (case c_18=>k_is)
  (case k_18=>k_is)
  (case a_19=>k_is)
  (case l_19=>k_is)
  (case c_19=>k_is)
  (case k_19=>k_is)
  (case a_20=>k_is)
  (case l_20=>k_is)
  (case c_20=>k_is)
  (case k_20=>k_is)
  (case a_21=>k_is)
  (case l_21=>k_is)
  (case c_21=>k_is)
  (case k_21=>k_is)
  (case a_22=>k_is)
  (case l_22=>k_is)
  (case c_22=>k_is)
  (case k_22=>k_is)
  (case a_23=>k_is)
  (case l_23=>k_is)
  (case c_23=>k_is)
  (case k_23=>k_is)
  (case a_24=>k_is)
  (case l_24=>k_is)
  (case c_24=>k_is)
  (case k_24=>k_is)
  (case a_25=>k_is)
  (case l_25=>k_is)
  (case c_25=>k_is)
  (case k_25=>k_is)
  (case a_26=>k_is)
  (case l_26=>k_is)
  (case c_26=>k_is)
  (case k_26=>k_is)
  (case a_27=>k_is)
  (case l_27=>k_is)
  (case c_27=>k_is)
  (case k_27=>k_is)
  (case a_28=>k_is)
  (case l_28=>k_is)
  (case c_28=>k_is)
  (case k_28=>k_is)
  (case a_29=>k_is)
  (case l_29=>k_is)
  (case c_29=>k_is)
  (case k_29=>k_is)
  (case a_30=>k_is)
  (case l_30=>k_is)
  (case c_30=>k_is)
  (case k_30=>k_is)
  (case a_31=>k_is)
  (case l_31=>k_is)
  (case c_31=>k_is)
  (case k_31=>k_is)
  (case a_32=>k_is)
  (case l_32=>k_is)
  (case c_32=>k_is)
  (case k_32=>k_is)
  (case a_33=>k_is)
  (case l_33=>k_is)
  (case c_33=>k_is)
  (case k_33=>k_is)
  (case a_34=>k_is)
  (case l_34=>k_is)
  (case c_34=>k_is)
  (case k_34=>k_is)
  (case a_35=>k_is)
  (case l_35=>k_is)
  (case c_35=>k_is)
  (case k_35=>k_is)
  (case a_36=>k_is)
  (case l_36=>k_is)
  (case c_36=>k_is)
  (case k_36=>k_is)
  (case a_37=>k_is)
  (case l_37=>k_is)
  (case c_37=>k_is)
  (case k_37=>k_is)
  (case a_38=>k_is)
  (case l_38=>k_is)
  (case c_38=>k_is)
  (case k_38=>k_is)
  (case a_39=>k_is)
  (case l_39=>k_is)
  (case c_39=>k_is)
  (case k_39=>k_is)
  (case a_40=>k_is)
  (case l_40=>k_is)
  (case c_40=>k_is)
  (case k_40=>k_is)
  (case a_41=>k_is)
  (case l_41=>k_is)
  (case c_41=>k_is)
  (case k_41=>k_is)
  (case a_42=>k_is)
  (case l_42=>k_is)
  (case c_42=>k_is)
  (case k_42=>k_is)
  (case a_43=>k_is)
  (case l_43=>k_is)
  (case c_43=>k_is)
  (case k_43=>k_is)
  (case a_44=>k_is)
  (case l_44=>k_is)
  (case c_44=>k_is)
  (case k_44=>k_is)
  (case a_45=>k_is)
  (case l_45=>k_is)
  (case c_45=>k_is)
  (case k_45=>k_is)
  (case a_46=>k_is)
  (case l_46=>k_is)
  (case c_46=>k_is)
  (case k_46=>k_is)
  (case z_ValueError=>k_is)
  (case z_all=>k_is)
  (case z_bool=>k_is)
  (case z_enumerate=>k_is)
  (case z_int=>k_is)
  (case z_isinstance=>k_is)
  (case z_len=>k_is)
  (case z_list=>k_is)
  (case z_max=>k_is)
  (case z_min=>k_is)
  (case z_range=>k_is)
  (case z_reversed=>k_is)
  (case z_sorted=>k_is)
  (case z_sum=>k_is)
  (case z_tuple=>k_is)
  (case z_zip=>k_is)
  (case e_HostError=>k_is)
  (case kk_HostError=>k_is)
  (case tt_HostError=>k_is)
  (case nn_HostError=>k_is)
  (case e_NoBattle=>k_is)
  (case kk_NoBattle=>k_is)
  (case tt_NoBattle=>k_is)
  (case nn_NoBattle=>k_is)
  (case e_NoPlan=>k_is)
  (case kk_NoPlan=>k_is)
  (case tt_NoPlan=>k_is)
  (case nn_NoPlan=>k_is)
  (case e_NoMix=>k_is)
  (case kk_NoMix=>k_is)
  (case tt_NoMix=>k_is)
  (case nn_NoMix=>k_is)
  (case e_NoStream=>k_is)
  (case kk_NoStream=>k_is)
  (case tt_NoStream=>k_is)
  (case nn_NoStream=>k_is)
  (case e_NoSide=>k_is)
  (case kk_NoSide=>k_is)
  (case tt_NoSide=>k_is)
  (case nn_NoSide=>k_is)
  (case e_NoAlike=>k_is)
  (case kk_NoAlike=>k_is)
  (case tt_NoAlike=>k_is)
  (case nn_NoAlike=>k_is)
  (case e_NoNumber=>k_is)
  (case kk_NoNumber=>k_is)
  (case tt_NoNumber=>k_is)
  (case nn_NoNumber=>k_is)
  (case bb_HostError=>k_is)
  (case x_HostError=>k_exc)
  (case ob_NoBattle=>k_is)
  (case in_NoBattle=>k_is)
  (case ty_NoBattle=>k_is)
  (case sa_NoBattle=>k_is)
  (case nf_NoBattle=>k_is)
  (case hd_NoBattle=>k_is)
  (case li_NoBattle=>k_is)
  (case ci_NoBattle=>k_is)
  (case ki_NoBattle=>k_is)
  (case f1_NoBattle=>k_is)
  (case f2_NoBattle=>k_is)
  (case f3_NoBattle=>k_is)
  (case f4_NoBattle=>k_is)
  (case f5_NoBattle=>k_is)
  (case f6_NoBattle=>k_is)
  (case s_NoBattle_HostError=>k_is)
  (case s_NoBattle_NoBattle=>k_is)
  (case s_NoBattle_NoPlan=>k_is)
  (case s_NoBattle_NoMix=>k_is)
  (case s_NoBattle_NoStream=>k_is)
  (case s_NoBattle_NoSide=>k_is)
  (case s_NoBattle_NoAlike=>k_is)
  (case s_NoBattle_NoNumber=>k_is)
  (case x_NoSide=>k_exc)
  (case f1_NoSide=>k_is)
  (case f2_NoSide=>k_is)
  (case f3_NoSide=>k_is)
  (case f4_NoSide=>k_is)
  (case f5_NoSide=>k_is)
  (case f6_NoSide=>k_is)
  (case s_NoSide_HostError=>k_is)
  (case s_NoSide_NoBattle=>k_is)
  (case s_NoSide_NoPlan=>k_is)
  (case s_NoSide_NoMix=>k_is)
  (case s_NoSide_NoStream=>k_is)
  (case s_NoSide_NoSide=>k_is)
  (case s_NoSide_NoAlike=>k_is)
  (case s_NoSide_NoNumber=>k_is)
