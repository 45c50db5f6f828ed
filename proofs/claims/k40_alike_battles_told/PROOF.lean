import PyProof.Rows.All
import Wide.All
import OpenK.AllK
import Wide.FinOn
import Lean
import PyProof.EqAt
import PyProof.EqKinds
import PyProof.TupleCall
import PyProof.NeKinds
import PyProof.CompFree
import PyProof.EnumMake
import KE.KTryMore
import PyProof.ExcArgsOwn
import PyProof.ZipIter
import PyProof.ListRange
import KE.KIsAll
import PyProof.InstStoreFacts
import PyProof.ExcInit
import PyProof.ReprRoads
import PyProof.CallStr
import KE.KEqDict
import PyProof.EqLayable
import PyProof.StrLawsRepr
import PySem.Challenge.RW_hostfields_k40_alike_battles_told
set_option Elab.async false
set_option linter.all false
set_option maxRecDepth 100000
/-! THE HAND LAYER, for ints, bools, texts, own classes, LISTS and tuples (index, slices, in, append, pop ..), calls, loops. Paste it whole ahead of your own text; what your proof does not reach may be deleted. -/
namespace L2
open PySem PySem.Spec PyProof.Rows

/-- a key: an int or a str -/
abbrev Key := Sum Int Str
def keyIs : Key → Value → Bool
  | .inl k, v => Value.isInt k v
  | .inr x, v => Value.isStrOf x v
def keyH (w : World) : Key → Int
  | .inl k => hashInt k
  | .inr x => hashStr w x
theorem keyIs_shape : ∀ {k : Key} {v : Value}, keyIs k v = true → (∃ i t, k = Sum.inl i ∧ v = Value.int i t) ∨ (∃ x t, k = Sum.inr x ∧ v = Value.str x t)
  | .inl i, v, h => by
    obtain ⟨t, e⟩ := Value.isInt_shape (k := i) (v := v) h
    exact .inl ⟨i, t, rfl, e⟩
  | .inr x, v, h => by
    obtain ⟨t, e⟩ := Value.isStrOf_shape (x := x) (v := v) h
    exact .inr ⟨x, t, rfl, e⟩
theorem key_ll (a b : Int) : decide ((Sum.inl a : Key) = Sum.inl b) = (a == b) := by
  by_cases e : a = b
  · subst e; simp
  · have h : ¬ (Sum.inl a : Key) = Sum.inl b := fun q => e (Sum.inl.inj q)
    rw [decide_eq_false h]
    exact (beq_eq_false_iff_ne.mpr e).symm
theorem key_rr (a b : Str) : decide ((Sum.inr a : Key) = Sum.inr b) = decide (a = b) := by
  by_cases e : a = b
  · subst e; simp
  · have h : ¬ (Sum.inr a : Key) = Sum.inr b := fun q => e (Sum.inr.inj q)
    rw [decide_eq_false h, decide_eq_false e]
theorem key_lr (a : Int) (b : Str) : decide ((Sum.inl a : Key) = Sum.inr b) = false := decide_eq_false (fun q => nomatch q)
theorem key_rl (a : Str) (b : Int) : decide ((Sum.inr a : Key) = Sum.inl b) = false := decide_eq_false (fun q => nomatch q)

def mixKind (prog : Program) (w : World) : PySem.KeyKind prog w Key where
  is := keyIs
  hash := keyH w
  inj := fun v a b ha hb => by
    rcases keyIs_shape ha with ⟨i, t, rfl, rfl⟩ | ⟨x, t, rfl, rfl⟩
    · rcases keyIs_shape hb with ⟨j, u, rfl, e⟩ | ⟨y, u, rfl, e⟩
      · injection e with e1 _; rw [e1]
      · exact nomatch e
    · rcases keyIs_shape hb with ⟨j, u, rfl, e⟩ | ⟨y, u, rfl, e⟩
      · exact nomatch e
      · injection e with e1 _; rw [e1]
  byValue := fun k v h => by
    rcases keyIs_shape h with ⟨i, t, rfl, rfl⟩ | ⟨x, t, rfl, rfl⟩ <;> rfl
  pyHash := fun hv h => by
    rcases keyIs_shape hv with ⟨i, t, rfl, rfl⟩ | ⟨x, t, rfl, rfl⟩
    · exact wpAny_pyHash_int h
    · exact wpAny_pyHash_str h
  eqBool := fun hu hv h => by
    rcases keyIs_shape hu with ⟨i, t, rfl, rfl⟩ | ⟨x, t, rfl, rfl⟩
    · rcases keyIs_shape hv with ⟨j, u, rfl, rfl⟩ | ⟨y, u, rfl, rfl⟩
      · rw [key_ll] at h; exact wpAny_eqBool_int h
      · rw [key_lr] at h; exact SeqAt.EqAt.int_str i t y u _ _ _ _ h
    · rcases keyIs_shape hv with ⟨j, u, rfl, rfl⟩ | ⟨y, u, rfl, rfl⟩
      · rw [key_rl] at h; exact SeqAt.EqAt.str_int x t j u _ _ _ _ h
      · rw [key_rr] at h; exact wpAny_eqBool_str h
  «strs» := fun k x t v h => by
    rcases keyIs_shape h with ⟨i, u, rfl, e⟩ | ⟨y, u, rfl, e⟩
    · exact nomatch e
    · injection e with e1 _
      subst e1
      cases v <;> rfl

end L2

namespace L2
open PySem PySem.Spec PyProof.Rows

/-- a value, without the heap -/
inductive V where
  | non | bl (b : Bool) | int (i : Int) | str (x : Str) | byt (b : Array UInt8) | flt (b : UInt64) | ref (a : Addr) | ty (n : String)
  deriving DecidableEq

def RelV : V → Value → Prop
  | .non, u => u = Value.none
  | .bl b, u => u = Value.bool b
  | .int i, u => ∃ t, u = Value.int i t
  | .str x, u => ∃ t, u = Value.str x t
  | .byt b, u => ∃ t, u = Value.bytes b t
  | .flt b, u => ∃ t, u = Value.float b t
  | .ref a, u => u = Value.ref a
  | .ty n, u => u = Value.type n

abbrev Vals : List V → List Value → Prop := Paired RelV
theorem Vals.length {xs : List V} {us : List Value} (r : Vals xs us) : xs.length = us.length := Paired.length r
theorem Vals.get : ∀ {xs : List V} {us : List Value} {i : Nat} {x : V}, Vals xs us → xs[i]? = some x → ∃ u, us[i]? = some u ∧ RelV x u
  | _, _, _, _, .nil, e => by simp at e
  | _, _, 0, _, .cons r _, e => by simp at e; subst e; exact ⟨_, rfl, r⟩
  | _, _, i + 1, x, .cons _ t, e => by
    obtain ⟨u, h1, h2⟩ := Vals.get (i := i) (x := x) t (by simpa using e)
    exact ⟨u, by simpa using h1, h2⟩
theorem Vals.set {x : V} {u : Value} (r : RelV x u) : ∀ {xs : List V} {us : List Value} (i : Nat), Vals xs us → Vals (xs.set i x) (us.set i u)
  | _, _, _, .nil => .nil
  | _, _, 0, .cons _ t => .cons r t
  | _, _, i + 1, .cons q t => .cons q (Vals.set r i t)
theorem Vals.append : ∀ {xs ys : List V} {us ws : List Value}, Vals xs us → Vals ys ws → Vals (xs ++ ys) (us ++ ws)
  | _, _, _, _, .nil, s => s
  | _, _, _, _, .cons r t, s => .cons r (Vals.append t s)
theorem Vals.take : ∀ {xs : List V} {us : List Value} (n : Nat), Vals xs us → Vals (xs.take n) (us.take n)
  | _, _, 0, _ => .nil
  | _, _, _ + 1, .nil => .nil
  | _, _, n + 1, .cons r t => .cons r (Vals.take n t)
theorem Vals.drop : ∀ {xs : List V} {us : List Value} (n : Nat), Vals xs us → Vals (xs.drop n) (us.drop n)
  | _, _, 0, r => r
  | _, _, _ + 1, .nil => .nil
  | _, _, n + 1, .cons _ t => Vals.drop n t
def RelO : Option V → Option Value → Prop
  | some v, some u => RelV v u
  | none, none => True
  | _, _ => False
def KV {κ : Type} : List (κ × V) → List (κ × Value) → Prop := Paired fun (p : κ × V) (q : κ × Value) => p.1 = q.1 ∧ RelV p.2 q.2

/-- a key of a dict (00_mix): an int or a text -/
def kV : Key → V
  | .inl i => .int i
  | .inr x => .str x

/-- what stands at a tracked address -/
inductive HO where
  /-- a list -/
  | lst (xs : List V)
  /-- a tuple (never changes) -/
  | tup (xs : List V)
  /-- a dict whose keys are ints and texts; one whose keys are tuples of ints and texts (the empty one is both) -/
  | dK (kvs : List (Key × V)) | dT (kvs : List (List Key × V))
  /-- a set of ints: its members, its size -/
  | set (S : Int → Bool) (n : Nat)
  /-- an instance of the class at C, its dict at dx, its attributes -/
  | ins (C dx : Addr) (fs : List (Str × V))
  /-- the dict of the instance at x -/
  | own (x : Addr)
  /-- the dict of an exception -/
  | xd (fs : List (Str × V))
  /-- a bound method, f of x -/
  | met (f x : Addr)
  /-- a range object lo, lo + 1, .. below hi -/
  | rng (lo hi : Int)
  /-- a thing that is known to the object (the script; a dict while a loop walks it): read, never written while it is so -/
  | frz (o : Obj) (u : HO)
  /-- a code object's table -/
  | tbl (ps : Array Value)
  /-- any other thing, by what is true of its one object (a def of one's own: SetO a S n := HO.ext fun h => ..) -/
  | ext (φ : Heap → Prop)

abbrev Hp := Addr → Option HO
def upd (H : Hp) (a : Addr) (o : HO) : Hp := fun b => if b = a then some o else H b
theorem upd_same {H : Hp} {a : Addr} {o : HO} : upd H a o a = some o := by unfold upd; rw [if_pos rfl]
theorem upd_ne {H : Hp} {a b : Addr} {o : HO} (h : b ≠ a) : upd H a o b = H b := by unfold upd; rw [if_neg h]
theorem ne_of_none {H : Hp} {a b : Addr} {o : HO} (h : H a = some o) (h' : H b = none) : a ≠ b := by
  intro e; subst e; rw [h] at h'; cases h'

section
variable (P : Program) (w : World)
def ObjOk (H : Hp) (h : Heap) (a : Addr) : HO → Prop
  | .lst xs => xs.length ≤ sizeLine ∧ ∃ (its : List Value) (n : Nat), Vals xs its ∧ h.get? a = some { cls := .type "list", data := .seq its.toArray n }
  | .tup xs => xs.length ≤ sizeLine ∧ ∃ its : List Value, Vals xs its ∧ IsTup h a its.toArray
  | .dK kvs => kvs.length ≤ sizeLine ∧ (a == sysModules) = false ∧ ∃ vs, KV kvs vs ∧ h.DictOf (mixKind P w) a vs
  | .dT kvs => kvs.length ≤ sizeLine ∧ (a == sysModules) = false ∧ ∃ xs : List (List Key × Addr × Value),
      Paired (fun (p : List Key × V) (q : List Key × Addr × Value) => p.1 = q.1 ∧ H q.2.1 = some (.tup (p.1.map kV)) ∧ RelV p.2 q.2.2) kvs xs ∧
      ∃ o es ep, h.get? a = some o ∧ o.ExactDict ∧ o.data = .dict es ep ∧ es.toList = xs.map (entryOfKey (tupleKind (mixKind P w))) ∧ (xs.map (·.1)).Nodup
  | .set S n => h.SetOf (intKind P w) a S n
  | .ins C dx fs => H dx = some (.own a) ∧ fs.length ≤ 1000 ∧ dx ≠ a ∧ h.get? a = some (PySem.W.instObj C dx) ∧
      ∃ mA, h.Ns1 dx mA ∧ (∀ f, RelO (fs.lookup f) (mA f)) ∧ PySem.Within mA (fs.map (·.1))
  | .own _ => ∃ o, h.get? a = some o
  | .xd fs => ∃ mA, h.Ns1 a mA ∧ ∀ f, RelO (fs.lookup f) (mA f)
  | .rng lo hi => ∃ t u v, h.get? a = some { cls := .type "range", data := .fields #[.int lo t, .int hi u, .int 1 v] }
  | .frz o u => h.get? a = some o ∧ ObjOk H h a u
  | .tbl ps => h.get? a = some { cls := .none, data := .fields ps }
  | .met f x => h.get? a = some (PySem.W.methodObj (.ref f) (.ref x))
  | .ext φ => φ h ∧ (∃ o, h.get? a = some o) ∧ ∀ h1 h2 : Heap, φ h1 → (∀ o, h1.get? a = some o → h2.get? a = some o) → φ h2
/-- the abstract heap is held -/
def HOk (H : Hp) (h : Heap) : Prop := ∀ a o, H a = some o → ObjOk P w H h a o
end

section
variable {P : Program} {w : World} {H H' : Hp} {h h' : Heap} {a : Addr} {o : HO}
theorem ObjOk.lt (x : ObjOk P w H h a o) : a < h.objs.size := by
  cases o with
  | lst xs => obtain ⟨_, _, _, _, e⟩ := x; exact Heap.lt_size e
  | tup xs => obtain ⟨_, _, _, p⟩ := x; exact p.lt
  | dK kvs => obtain ⟨_, _, _, _, o, _, _, e, _⟩ := x; exact Heap.lt_size e
  | dT kvs => obtain ⟨_, _, _, _, o, _, _, e, _⟩ := x; exact Heap.lt_size e
  | set S n => obtain ⟨o, _, _, _, e, _⟩ := x; exact Heap.lt_size e
  | ins C dx fs => obtain ⟨_, _, _, e, _⟩ := x; exact Heap.lt_size e
  | own y => obtain ⟨_, e⟩ := x; exact Heap.lt_size e
  | xd fs => obtain ⟨_, ⟨_, _, _, e, _⟩, _⟩ := x; exact Heap.lt_size e
  | rng lo hi => obtain ⟨_, _, _, e⟩ := x; exact Heap.lt_size e
  | frz ob u => obtain ⟨e, _⟩ := x; exact Heap.lt_size e
  | tbl ps => exact Heap.lt_size (show h.get? a = some _ from x)
  | met f y => exact Heap.lt_size (show h.get? a = some _ from x)
  | ext φ => obtain ⟨_, ⟨_, e⟩, _⟩ := x; exact Heap.lt_size e
theorem Paired.mapP {α β : Type} {F G : α → β → Prop} : ∀ {l₁ : List α} {l₂ : List β}, Paired F l₁ l₂ → (∀ a b, F a b → G a b) → Paired G l₁ l₂
  | _, _, .nil, _ => .nil
  | _, _, .cons r t, f => .cons (f _ _ r) (Paired.mapP t f)
/-- what an object's description leans on: its own object, its own dict, the tuples -/
theorem ObjOk.stay (x : ObjOk P w H h a o) (k : ∀ b u, (b = a ∨ H b = some (.own a)) → h.get? b = some u → h'.get? b = some u)
    (ho : ∀ b, H b = some (.own a) → H' b = some (.own a)) (ht : ∀ b xs, H b = some (.tup xs) → H' b = some (.tup xs)) : ObjOk P w H' h' a o := by
  induction o with
  | lst xs => obtain ⟨z, its, n, r, e⟩ := x; exact ⟨z, its, n, r, k _ _ (.inl rfl) e⟩
  | tup xs => obtain ⟨z, its, r, ob, e, c⟩ := x; exact ⟨z, its, r, ob, k _ _ (.inl rfl) e, c⟩
  | dK kvs => obtain ⟨z, y, vs, r, ob, es, ep, e, c⟩ := x; exact ⟨z, y, vs, r, ob, es, ep, k _ _ (.inl rfl) e, c⟩
  | dT kvs =>
    obtain ⟨z, y, xs, r, ob, es, ep, e, c⟩ := x
    exact ⟨z, y, xs, Paired.mapP r fun p q z => ⟨z.1, ht _ _ z.2.1, z.2.2⟩, ob, es, ep, k _ _ (.inl rfl) e, c⟩
  | set S n => obtain ⟨ob, es, ep, t, e, c⟩ := x; exact ⟨ob, es, ep, t, k _ _ (.inl rfl) e, c⟩
  | ins C dx fs =>
    obtain ⟨d, z, ne, e, mA, ⟨od, es, ep, e2, c⟩, r⟩ := x
    exact ⟨ho _ d, z, ne, k _ _ (.inl rfl) e, mA, ⟨od, es, ep, k _ _ (.inr d) e2, c⟩, r⟩
  | own y => obtain ⟨ob, e⟩ := x; exact ⟨ob, k _ _ (.inl rfl) e⟩
  | xd fs => obtain ⟨mA, ⟨od, es, ep, e, c⟩, r⟩ := x; exact ⟨mA, ⟨od, es, ep, k _ _ (.inl rfl) e, c⟩, r⟩
  | rng lo hi => obtain ⟨t, u, v, e⟩ := x; exact ⟨t, u, v, k _ _ (.inl rfl) e⟩
  | frz ob u ih => obtain ⟨e, q⟩ := x; exact ⟨k _ _ (.inl rfl) e, ih q⟩
  | tbl ps =>
    have e : h.get? a = some { cls := .none, data := .fields ps } := x
    show h'.get? a = some { cls := .none, data := .fields ps }
    exact k a _ (.inl rfl) e
  | met f y =>
    have e : h.get? a = some (PySem.W.methodObj (.ref f) (.ref y)) := x
    show h'.get? a = some (PySem.W.methodObj (.ref f) (.ref y))
    exact k a _ (.inl rfl) e
  | ext φ => obtain ⟨p, ⟨o, e⟩, st⟩ := x; exact ⟨st _ _ p fun o q => k _ _ (.inl rfl) q, ⟨o, k _ _ (.inl rfl) e⟩, st⟩
theorem HOk.lt (x : HOk P w H h) (e : H a = some o) : a < h.objs.size := (x a o e).lt
theorem HOk.fresh (x : HOk P w H h) (e : h.objs.size ≤ a) : H a = none := by
  cases q : H a with
  | none => rfl
  | some u => exact absurd (Nat.lt_of_lt_of_le (x.lt q) e) (Nat.lt_irrefl _)
/-- every object of the heap is kept -/
theorem HOk.kept (x : HOk P w H h) (k : ∀ b u, h.get? b = some u → h'.get? b = some u) : HOk P w H h' := fun a o e =>
  (x a o e).stay (fun b u _ q => k b u q) (fun _ q => q) fun _ _ q => q
/-- a new object is laid and tracked -/
theorem HOk.laid (x : HOk P w H h) (k : ∀ b u, h.get? b = some u → h'.get? b = some u) (hp : h.objs.size ≤ a) (new : ObjOk P w (upd H a o) h' a o) : HOk P w (upd H a o) h' := fun b u e => by
  have hn := x.fresh hp
  by_cases hb : b = a
  · subst hb; rw [upd_same] at e; cases e; exact new
  · rw [upd_ne hb] at e
    exact (x b u e).stay (fun c v _ q => k c v q) (fun c q => by rw [upd_ne (ne_of_none q hn)]; exact q) fun c xs q => by rw [upd_ne (ne_of_none q hn)]; exact q
end

/-- what may be read as u: it is u, or a known u -/
def Rd (H : Hp) (a : Addr) (u : HO) : Prop := H a = some u ∨ ∃ o, H a = some (.frz o u)
theorem Rd.of {H : Hp} {a : Addr} {u : HO} (h : H a = some u) : Rd H a u := .inl h
theorem Rd.ok {P : Program} {w : World} {H : Hp} {h : Heap} {a : Addr} {u : HO} (r : Rd H a u) (x : HOk P w H h) : ObjOk P w H h a u := by
  rcases r with r | ⟨o, r⟩
  · exact x a u r
  · obtain ⟨_, q⟩ := x a _ r
    exact q
/-- what may be written -/
def Mut : Option HO → Prop
  | some (.lst _) => True
  | some (.dK _) => True
  | some (.dT _) => True
  | some (.set _ _) => True
  | some (.ins _ _ _) => True
  | some (.ext _) => True
  | _ => False
section
variable {P : Program} {w : World} {H : Hp} {h h' : Heap} {x e : Addr} {o' : HO}
/-- the object at e is changed: x itself, or the dict of the instance x -/
theorem HOk.write (ok : HOk P w H h) (mu : Mut (H x)) (he : e = x ∨ H e = some (.own x)) (k : ∀ b u, b ≠ e → h.get? b = some u → h'.get? b = some u) (heo : ∃ u, h'.get? e = some u)
    (new : ObjOk P w (upd H x o') h' x o') : HOk P w (upd H x o') h' := fun b u q => by
  have nown : ∀ c y, H c = some (.own y) → c ≠ x := fun c y r z => by subst z; rw [r] at mu; exact mu
  have ntup : ∀ c xs, H c = some (.tup xs) → c ≠ x := fun c xs r z => by subst z; rw [r] at mu; exact mu
  by_cases hb : b = x
  · subst hb; rw [upd_same] at q; cases q; exact new
  · rw [upd_ne hb] at q
    by_cases hbe : b = e
    · have q' : H b = some (.own x) := by
        rcases he with z | z
        · exact absurd (hbe.trans z) hb
        · rw [hbe]; exact z
      rw [q] at q'; cases q'
      obtain ⟨v, hv⟩ := heo
      exact ⟨v, by rw [hbe]; exact hv⟩
    · refine (ok b u q).stay (fun c v hc r => k c v ?_ r) (fun c r => by rw [upd_ne (nown c b r)]; exact r) fun c xs r => by rw [upd_ne (ntup c xs r)]; exact r
      rcases hc with rfl | hc
      · exact hbe
      · rintro rfl
        rcases he with z | z
        · exact nown c b hc z
        · rw [hc] at z; cases z; exact hb rfl
end

/-! ### kept unless tracked; of the frames at fs (the callers') the slots may change (an exception that passes writes there); of the records at ex (iterators) nothing is said -/
structure Un (fs ex : List Addr) (H H' : Hp) (h h' : Heap) : Prop where
  keep : ∀ b o, h.get? b = some o → H b = none → b ∉ fs → b ∉ ex → h'.get? b = some o
  slot : ∀ b o, h.get? b = some o → H b = none → b ∈ fs → b ∉ ex → ∃ sl, h'.get? b = some { o with slots := sl }
  free : ∀ b o, h.get? b = some o → H b = none → b ∉ ex → H' b = none
  there : ∀ b o, h.get? b = some o → b ∉ ex → ∃ o', h'.get? b = some o'
  tups : ∀ b xs, H b = some (.tup xs) → H' b = some (.tup xs)
  frzs : ∀ b o u, H b = some (.frz o u) → H' b = some (.frz o u)
  tbls : ∀ b ps, H b = some (.tbl ps) → ∃ more, H' b = some (.tbl (ps ++ more))
section
variable {fs fs' ex ex' : List Addr} {H H1 H2 : Hp} {h h1 h2 h' : Heap} {a x e : Addr} {o : HO}
theorem Un.any (u : Un fs ex H H1 h h1) {b : Addr} {ob : Obj} (q : h.get? b = some ob) (n : H b = none) (hx : b ∉ ex) : ∃ sl, h1.get? b = some { ob with slots := sl } := by
  by_cases hb : b ∈ fs
  · exact u.slot b ob q n hb hx
  · exact ⟨ob.slots, u.keep b ob q n hb hx⟩
theorem Un.trans (a : Un fs ex H H1 h h1) (b : Un fs ex H1 H2 h1 h2) : Un fs ex H H2 h h2 where
  keep := fun c ob q n hc hx => b.keep c ob (a.keep c ob q n hc hx) (a.free c ob q n hx) hc hx
  slot := fun c ob q n hc hx => by
    obtain ⟨sl, e1⟩ := a.slot c ob q n hc hx
    obtain ⟨sl', e2⟩ := b.slot c _ e1 (a.free c ob q n hx) hc hx
    exact ⟨sl', e2⟩
  free := fun c ob q n hx => by
    obtain ⟨o', e1⟩ := a.there c ob q hx
    exact b.free c o' e1 (a.free c ob q n hx) hx
  there := fun c ob q hx => by
    obtain ⟨o', e1⟩ := a.there c ob q hx
    exact b.there c o' e1 hx
  tups := fun c xs q => b.tups c xs (a.tups c xs q)
  frzs := fun c ob xs q => b.frzs c ob xs (a.frzs c ob xs q)
  tbls := fun c ps q => by
    obtain ⟨m1, e1⟩ := a.tbls c ps q
    obtain ⟨m2, e2⟩ := b.tbls c _ e1
    exact ⟨m1 ++ m2, by rw [e2, Array.append_assoc]⟩
theorem Un.kept (k : ∀ b u, h.get? b = some u → h'.get? b = some u) : Un fs ex H H h h' :=
  ⟨fun b ob q _ _ _ => k b ob q, fun b ob q _ _ _ => ⟨ob.slots, k b ob q⟩, fun _ _ _ n _ => n, fun b ob q _ => ⟨ob, k b ob q⟩, fun _ _ q => q, fun _ _ _ q => q, fun _ ps q => ⟨#[], by rw [q]; simp⟩⟩
theorem Un.refl : Un fs ex H H h h := Un.kept fun _ _ q => q
theorem Un.laid (k : ∀ b u, h.get? b = some u → h'.get? b = some u) (hp : h.objs.size ≤ a) (hn : H a = none) : Un fs ex H (upd H a o) h h' where
  keep := fun b u q _ _ _ => k b u q
  slot := fun b u q _ _ _ => ⟨u.slots, k b u q⟩
  free := fun b u q n _ => by rw [upd_ne (Nat.ne_of_lt (Nat.lt_of_lt_of_le (Heap.lt_size q) hp))]; exact n
  there := fun b u q _ => ⟨u, k b u q⟩
  tups := fun b xs q => by rw [upd_ne (ne_of_none q hn)]; exact q
  frzs := fun b u xs q => by rw [upd_ne (ne_of_none q hn)]; exact q
  tbls := fun b ps q => ⟨#[], by rw [upd_ne (ne_of_none q hn), q]; simp⟩
theorem Un.write (mu : Mut (H x)) (he : e = x ∨ H e = some (.own x)) (k : ∀ b u, b ≠ e → h.get? b = some u → h'.get? b = some u) (heo : ∃ u, h'.get? e = some u) : Un fs ex H (upd H x o) h h' := by
  have hx : ∀ b, H b = none → b ≠ x := fun b n z => by subst z; rw [n] at mu; exact mu
  have hb : ∀ b, H b = none → b ≠ e := fun b n z => by
    subst z
    rcases he with r | r
    · exact hx b n r
    · rw [n] at r; cases r
  have hm : ∀ b u, H b = some u → ¬ Mut (some u) → b ≠ x := fun b u q nm z => by subst z; rw [q] at mu; exact nm mu
  refine ⟨fun b u q n _ _ => k b u (hb b n) q, fun b u q n _ _ => ⟨u.slots, k b u (hb b n) q⟩, fun b u q n _ => by rw [upd_ne (hx b n)]; exact n, fun b u q _ => ?_,
    fun b xs q => by rw [upd_ne (hm b _ q fun z => z)]; exact q, fun b u xs q => by rw [upd_ne (hm b _ q fun z => z)]; exact q, fun b ps q => ⟨#[], by rw [upd_ne (hm b _ q fun z => z), q]; simp⟩⟩
  by_cases hbe : b = e
  · subst hbe; exact heo
  · exact ⟨u, k b u hbe q⟩
end

/-! ### the heap without what is tracked -/
def trk (h : Heap) (H : Hp) : List Addr := (List.range h.objs.size).filter fun a => (H a).isSome
def hidT (h : Heap) (H : Hp) : Heap := PySem.W.hideAll h (trk h H)
theorem hidT_size (h : Heap) (H : Hp) : (hidT h H).objs.size = h.objs.size := PySem.W.hideAll_size _ _
theorem hidT_get {h : Heap} {H : Hp} {b : Addr} {o : Obj} (e : h.get? b = some o) (n : H b = none) : (hidT h H).get? b = some o :=
  PySem.W.hideAll_get _ e fun hm => by
    have q : (H b).isSome = true := (List.mem_filter.mp hm).2
    rw [n] at q; simp at q
theorem of_hidT {h : Heap} {H : Hp} {b : Addr} {o : Obj} (e : (hidT h H).get? b = some o) : h.get? b = some o ∧ H b = none := by
  have e' : h.get? b = some o := PySem.W.of_hideAll (trk h H) e
  refine ⟨e', ?_⟩
  cases q : H b with
  | none => rfl
  | some x =>
    have hm : b ∈ trk h H := List.mem_filter.mpr ⟨List.mem_range.mpr (Heap.lt_size e'), by simp [q]⟩
    have z : (hidT h H).get? b = none := PySem.W.hideAll_none (trk h H) hm
    rw [z] at e; cases e

/-! ### OpenK's ledger, filled with every new object but one -/
def allNews (g h : Heap) (L : Addr) : List (Addr × Obj) := (List.range h.objs.size).filterMap fun a => if a = L ∨ (g.get? a).isSome = true then none else (h.get? a).map fun o => (a, o)
def rest (g h : Heap) (L d : Addr) : List (Addr × Obj) := (allNews g h L).filter fun p => decide (p.1 ≠ d)
end L2

namespace L2
open PySem PySem.Spec PyProof.Rows

/-- the module's facts, over the base: the heap at the law's entry without what is tracked there -/
structure Mod (K : PySem.W.Frag) (mg : Str → Option Value) (base : Heap) : Prop where
  kin : K.In base
  glob : base.Ns mainGlobals mg
  blt : ∃ mb, base.Ns builtinsNs mb ∧ ∀ x : Str, x ≠ "__name__" → mb x = bootBuiltins x
  nolimit : base.NoLimit

/-- the context: a def's body (or a comprehension's block) running. base: fixed through the whole law; s₀, H₀: the entry; outer: the frames whose slots others may change (a def's callers); stack: all frames that run;
   ex: iterators that were made ahead of the entry and are walked here (a comprehension's); fn: the names whose cells were made at the entry (a def: all; a comprehension's block: its own); calm: not within an except suite; pn: pins that every state bears; xe: what is wanted of an exception that leaves the code -/
structure Cx where
  prog : Program
  w : World
  K : PySem.W.Frag
  mg : Str → Option Value
  base : Heap
  A : Around
  N : List Str
  s₀ : Shared
  H₀ : Hp
  env : Env
  outer : List Env
  stack : List Env
  ex : List Addr
  fn : Str → Bool
  calm : Bool
  pn : List (Addr × Obj)
  xe : Value → Shared → Prop
/-- the callers' frames -/
def frs (l : List Env) : List Addr := l.filterMap (·.frame)
abbrev Cx.fs (X : Cx) : List Addr := frs X.outer

def Vis (sc : Scope) (x : Str) : Prop := sc.names.lookup x = some .local ∨ sc.names.lookup x = some .cell ∨ sc.names.lookup x = some .free
def Loc (sc : Scope) (x : Str) : Prop := sc.names.lookup x = some .local ∨ sc.names.lookup x = some .cell
def Look (env : Env) (h : Heap) (m : Str → Option Value) (x : Str) (u : Value) : Prop :=
  (env.kindOf x = some .local ∧ m x = some u) ∨ ((env.kindOf x = some .cell ∨ env.kindOf x = some .free) ∧ ∃ c, env.cells.lookup x = some c ∧ h.IsCell c (some u))

structure Cx.Ok (X : Cx) : Prop where
  mod : Mod X.K X.mg X.base
  kind : X.env.scope.kind = .function
  glob : X.env.globals = mainGlobals
  blt : X.env.builtins = builtinsNs
  above : X.s₀.heap.objs.size ≤ X.env.locals
  inj : ∀ x y c, X.env.cells.lookup x = some c → X.env.cells.lookup y = some c → x = y
  has : ∀ x, (X.env.kindOf x = some .cell ∨ X.env.kindOf x = some .free) → ∃ c, X.env.cells.lookup x = some c
  cab : ∀ x c, X.fn x = true → X.env.cells.lookup x = some c → X.s₀.heap.objs.size ≤ c
  hd : X.calm = true → X.A.handled = none
  frames : X.A.frames = some X.stack
  stk : X.stack = X.outer ∨ (X.stack = X.env :: X.outer ∧ X.env.frame = some X.env.locals)
  exf : ∀ b ∈ X.ex, b ≠ X.env.locals ∧ ∀ x c, X.env.cells.lookup x = some c → c ≠ b
  bs : ∀ b o, X.base.get? b = some o → X.s₀.heap.get? b = some o ∧ X.H₀ b = none
  bsz : X.base.objs.size ≤ X.s₀.heap.objs.size
  noex : ∀ b o, X.base.get? b = some o → b ∉ X.ex
  exfs : ∀ b ∈ X.ex, b ∉ X.fs
  funs : X.s₀.heap.FunFrames X.base X.outer
  frf : ∀ b ∈ X.fs, X.H₀ b = none

structure Inv (X : Cx) (pins : List (Addr × Obj)) (σ : List (Option V)) (H : Hp) (s : Shared) : Prop where
  ok : X.Ok
  os : s.os = X.s₀.os
  bare : AllBare s.gens
  base : Un X.fs X.ex X.H₀ H X.s₀.heap s.heap
  loc : ∃ m, s.heap.Ns X.env.locals m ∧ ∀ (i : Nat) (x : Str) (v : V), X.N[i]? = some x → σ[i]? = some (some v) → Vis X.env.scope x → ∃ u, RelV v u ∧ Look X.env s.heap m x u
  cell : ∀ x c, X.env.cells.lookup x = some c → ∃ v, s.heap.IsCell c v
  free : H X.env.locals = none
  freeC : ∀ x c, X.env.cells.lookup x = some c → H c = none
  pin : ∀ p ∈ X.pn ++ pins, s.heap.get? p.1 = some p.2 ∧ H p.1 = none ∧ p.1 ≠ X.env.locals ∧ p.1 ∉ X.fs ∧ ∀ v, p.2.data ≠ .cell v
  hok : HOk X.prog X.w H s.heap
  len : σ.length = X.N.length

section
variable {X : Cx} {pins : List (Addr × Obj)} {σ : List (Option V)} {H H' : Hp} {s : Shared} {h' : Heap}

theorem Cx.Ok.nofr (ok : X.Ok) {b : Addr} {o : Obj} (e : X.base.get? b = some o) : b ∉ X.fs := fun hb => by
  have := (ok.funs.mem hb).1
  rw [e] at this; cases this
theorem Inv.bs (I : Inv X pins σ H s) : ∀ b o, X.base.get? b = some o → s.heap.get? b = some o ∧ H b = none := fun b o e =>
  ⟨I.base.keep b o (I.ok.bs b o e).1 (I.ok.bs b o e).2 (I.ok.nofr e) (I.ok.noex b o e), I.base.free b o (I.ok.bs b o e).1 (I.ok.bs b o e).2 (I.ok.noex b o e)⟩
theorem Inv.bk (I : Inv X pins σ H s) : ∀ b o, X.base.get? b = some o → s.heap.get? b = some o := fun b o e => (I.bs b o e).1
theorem Inv.mod (I : Inv X pins σ H s) : Mod X.K X.mg X.base := I.ok.mod
theorem Inv.kIn (I : Inv X pins σ H s) : X.K.In s.heap := I.ok.mod.kin.keeps I.bk
theorem Inv.lt (I : Inv X pins σ H s) : X.env.locals < s.heap.objs.size := let ⟨_, hn, _⟩ := I.loc; hn.lt
theorem Inv.sz (I : Inv X pins σ H s) : X.s₀.heap.objs.size ≤ s.heap.objs.size := Nat.le_trans I.ok.above (Nat.le_of_lt I.lt)
theorem Inv.nofs (I : Inv X pins σ H s) {a : Addr} (h : s.heap.objs.size ≤ a) : a ∉ X.fs := fun hb => by
  obtain ⟨_, o, ho, _⟩ := I.ok.funs.mem hb
  exact absurd (Nat.lt_of_lt_of_le (Heap.lt_size ho) (Nat.le_trans I.sz h)) (Nat.lt_irrefl _)
theorem Inv.cne (I : Inv X pins σ H s) : ∀ x c, X.env.cells.lookup x = some c → c ≠ X.env.locals := fun x c e z => by
  obtain ⟨v, o, ho, hd⟩ := I.cell x c e
  obtain ⟨m, ⟨o', es, ep, ho', hd', _⟩, _⟩ := I.loc
  rw [z, ho'] at ho; cases ho; rw [hd'] at hd; cases hd
theorem Inv.funs (I : Inv X pins σ H s) : s.heap.FunFrames X.base X.outer := by
  have all : ∀ (l : List Env), (∀ b ∈ frs l, b ∈ X.fs) → X.s₀.heap.FunFrames X.base l → s.heap.FunFrames X.base l := by
    intro l
    induction l with
    | nil => intro _ _; trivial
    | cons env r ih =>
      intro hs hl
      obtain ⟨hk, ⟨L, o, hf, hn, ho, hd⟩, hr⟩ := hl
      have hL : L ∈ X.fs := hs L (by unfold frs; rw [List.filterMap_cons, hf]; exact List.mem_cons_self)
      obtain ⟨sl, e⟩ := I.base.slot L o ho (I.ok.frf L hL) hL fun z => I.ok.exfs L z hL
      exact ⟨hk, ⟨L, _, hf, hn, e, hd⟩, ih (fun b hb => hs b (by unfold frs; rw [List.filterMap_cons, hf]; exact List.mem_cons_of_mem _ hb)) hr⟩
  exact all X.outer (fun _ hb => hb) I.ok.funs

/-- the frames that run, for a call -/
theorem Inv.stack (I : Inv X pins σ H s) : s.heap.FunFrames X.base X.stack := by
  rcases I.ok.stk with e | ⟨e, hf⟩
  · rw [e]; exact I.funs
  · rw [e]
    obtain ⟨m, hn, _⟩ := I.loc
    refine .cons (by rw [I.ok.kind]; decide) hf hn ?_ I.funs
    exact Heap.get?_none_of_le (Nat.le_trans I.ok.bsz I.ok.above)
theorem Inv.stkSub (I : Inv X pins σ H s) : ∀ b ∈ frs X.stack, b ∈ X.env.locals :: X.fs := fun b hb => by
  rcases I.ok.stk with e | ⟨e, hf⟩
  · rw [e] at hb; exact List.mem_cons_of_mem _ hb
  · rw [e] at hb
    unfold frs at hb
    rw [List.filterMap_cons, hf] at hb
    exact hb
theorem Inv.stkFree (I : Inv X pins σ H s) : ∀ b ∈ frs X.stack, H b = none := fun b hb => by
  rcases List.mem_cons.mp (I.stkSub b hb) with e | hb
  · rw [e]; exact I.free
  · obtain ⟨_, o, ho, _⟩ := I.ok.funs.mem hb
    exact I.base.free b o ho (I.ok.frf b hb) fun z => I.ok.exfs b z hb

/-- THE STEP: the untracked objects but the frame and the records at ch are kept (the callers' frames up to slots), the frame's map is kept, the new abstract heap is held -/
theorem Inv.step {g' : Array GenState} {t' : Nat} {d' : Drawn} {ch : List Addr} (I : Inv X pins σ H s)
    (hch : ∀ b ∈ ch, (b ∈ X.ex ∨ X.s₀.heap.objs.size ≤ b) ∧ b ≠ X.env.locals ∧ (∀ x c, X.env.cells.lookup x = some c → c ≠ b) ∧ ∀ p ∈ X.pn ++ pins, p.1 ≠ b)
    (keep : ∀ b o, b ≠ X.env.locals → b ∉ X.fs → b ∉ ch → s.heap.get? b = some o → H b = none → h'.get? b = some o)
    (slot : ∀ b o, b ≠ X.env.locals → b ∈ X.fs → b ∉ ch → s.heap.get? b = some o → H b = none → ∃ sl, h'.get? b = some { o with slots := sl }) (free : ∀ b o, b ∉ ch → s.heap.get? b = some o → H b = none → H' b = none)
    (there : ∀ b o, b ∉ ch → s.heap.get? b = some o → ∃ o', h'.get? b = some o')
    (tups : ∀ b xs, H b = some (.tup xs) → H' b = some (.tup xs)) (frzs : ∀ b o u, H b = some (.frz o u) → H' b = some (.frz o u)) (tbls : ∀ b ps, H b = some (.tbl ps) → ∃ more, H' b = some (.tbl (ps ++ more)))
    (ns : ∀ m, s.heap.Ns X.env.locals m → h'.Ns X.env.locals m) (hok : HOk X.prog X.w H' h') (hg : AllBare g') :
    Inv X pins σ H' { s with heap := h', gens := g', drawn := d', toks := t' } := by
  have neL : ∀ b o, X.s₀.heap.get? b = some o → b ≠ X.env.locals := fun b o e => Nat.ne_of_lt (Nat.lt_of_lt_of_le (Heap.lt_size e) I.ok.above)
  have neC : ∀ b o, X.s₀.heap.get? b = some o → b ∉ X.ex → b ∉ ch := fun b o e hx hb => by
    rcases (hch b hb).1 with z | z
    · exact hx z
    · exact absurd (Nat.lt_of_lt_of_le (Heap.lt_size e) z) (Nat.lt_irrefl _)
  have cellK : ∀ x c, X.env.cells.lookup x = some c → ∀ v, s.heap.IsCell c v → h'.IsCell c v := fun x c e v ⟨o, ho, hd⟩ => by
    have nch : c ∉ ch := fun z => (hch c z).2.2.1 x c e rfl
    by_cases hc : c ∈ X.fs
    · obtain ⟨sl, q⟩ := slot c o (I.cne x c e) hc nch ho (I.freeC x c e)
      exact ⟨_, q, hd⟩
    · exact ⟨o, keep c o (I.cne x c e) hc nch ho (I.freeC x c e), hd⟩
  refine ⟨I.ok, I.os, hg, ⟨fun b o e n hb hx => ?_, fun b o e n hb hx => ?_, fun b o e n hx => ?_, fun b o e hx => ?_, fun b xs e => tups b xs (I.base.tups b xs e), fun b o xs e => frzs b o xs (I.base.frzs b o xs e), fun b ps e => ?_⟩, ?_, fun x c e => ?_, ?_, fun x c e => ?_, fun p hp => ?_, hok, I.len⟩
  · exact keep b o (neL b o e) hb (neC b o e hx) (I.base.keep b o e n hb hx) (I.base.free b o e n hx)
  · obtain ⟨sl, e1⟩ := I.base.slot b o e n hb hx
    obtain ⟨sl', e2⟩ := slot b _ (neL b o e) hb (neC b o e hx) e1 (I.base.free b o e n hx)
    exact ⟨sl', e2⟩
  · obtain ⟨o', e1⟩ := I.base.there b o e hx
    exact free b o' (neC b o e hx) e1 (I.base.free b o e n hx)
  · obtain ⟨o', e1⟩ := I.base.there b o e hx
    exact there b o' (neC b o e hx) e1
  · obtain ⟨m1, e1⟩ := I.base.tbls b ps e
    obtain ⟨m2, e2⟩ := tbls b _ e1
    exact ⟨m1 ++ m2, by rw [e2, Array.append_assoc]⟩
  · obtain ⟨m, hn, hl⟩ := I.loc
    refine ⟨m, ns m hn, fun i x v e1 e2 e3 => ?_⟩
    obtain ⟨u, r, l⟩ := hl i x v e1 e2 e3
    refine ⟨u, r, ?_⟩
    rcases l with l | ⟨k, c, e, z⟩
    · exact .inl l
    · exact .inr ⟨k, c, e, cellK x c e _ z⟩
  · obtain ⟨v, z⟩ := I.cell x c e
    exact ⟨v, cellK x c e v z⟩
  · obtain ⟨m, ⟨o, _, _, ho, _⟩, _⟩ := I.loc
    exact free _ o (fun z => (hch _ z).2.1 rfl) ho I.free
  · obtain ⟨v, o, ho, hd⟩ := I.cell x c e
    exact free c o (fun z => (hch c z).2.2.1 x c e rfl) ho (I.freeC x c e)
  · obtain ⟨e, n, ne, nf, d⟩ := I.pin p hp
    have nch : p.1 ∉ ch := fun z => (hch p.1 z).2.2.2 p hp rfl
    exact ⟨keep p.1 p.2 ne nf nch e n, free p.1 p.2 nch e n, ne, nf, d⟩
/-- .. where the frame's own object is kept too -/
theorem Inv.un {t' : Nat} (I : Inv X pins σ H s) (u : Un X.fs [] H H' s.heap h') (hok : HOk X.prog X.w H' h') : Inv X pins σ H' { s with heap := h', toks := t' } := by
  obtain ⟨m, ⟨o, es, ep, ho, r⟩, _⟩ := id I.loc
  obtain ⟨sl, hL⟩ := u.any ho I.free (by simp)
  exact I.step (g' := s.gens) (d' := s.drawn) (ch := []) (fun _ z => nomatch z) (fun b o _ hb _ e n => u.keep b o e n hb (by simp)) (fun b o _ hb _ e n => u.slot b o e n hb (by simp)) (fun b o _ e n => u.free b o e n (by simp)) (fun b o _ e => u.there b o e (by simp)) u.tups u.frzs u.tbls (fun m' hm => by
    obtain ⟨o', es', ep', ho', r'⟩ := hm
    rw [ho] at ho'; cases ho'
    exact ⟨_, es', ep', hL, r'⟩) hok I.bare
/-- behind a call (or a comprehension's block): the slots of this frame may have changed too, the records at ch may have turned -/
theorem Inv.call {g' : Array GenState} {t' : Nat} {d' : Drawn} {ch : List Addr} (I : Inv X pins σ H s) (u : Un (frs X.stack) ch H H' s.heap h') (hok : HOk X.prog X.w H' h') (hg : AllBare g')
    (hch : ∀ b ∈ ch, (b ∈ X.ex ∨ X.s₀.heap.objs.size ≤ b) ∧ b ≠ X.env.locals ∧ (∀ x c, X.env.cells.lookup x = some c → c ≠ b) ∧ ∀ p ∈ X.pn ++ pins, p.1 ≠ b) :
    Inv X pins σ H' { s with heap := h', gens := g', drawn := d', toks := t' } := by
  obtain ⟨m, ⟨o, es, ep, ho, r⟩, _⟩ := id I.loc
  obtain ⟨sl, hL⟩ := u.any ho I.free fun z => (hch _ z).2.1 rfl
  exact I.step (ch := ch) hch (fun b o hL hb hc e n => u.keep b o e n (fun z => (List.mem_cons.mp (I.stkSub b z)).elim hL hb) hc) (fun b o _ _ hc e n => u.any e n hc) (fun b o hc e n => u.free b o e n hc) (fun b o hc e => u.there b o e hc) u.tups u.frzs u.tbls (fun m' hm => by
    obtain ⟨o', es', ep', ho', r'⟩ := hm
    rw [ho] at ho'; cases ho'
    exact ⟨_, es', ep', hL, r'⟩) hok hg
/-- an untracked record of ours (an iterator) has turned -/
theorem Inv.turned {t' : Nat} {it : Addr} (I : Inv X pins σ H s) (k : ∀ b o, b ≠ it → s.heap.get? b = some o → h'.get? b = some o) (hn : H it = none) (hL : it ≠ X.env.locals)
    (h1 : it ∈ X.ex ∨ X.s₀.heap.objs.size ≤ it) (h2 : ∀ x c, X.env.cells.lookup x = some c → c ≠ it) (h3 : ∀ p ∈ X.pn ++ pins, p.1 ≠ it) : Inv X pins σ H { s with heap := h', toks := t' } := by
  have nit : ∀ b u, H b = some u → b ≠ it := fun b u e z => by rw [z, hn] at e; cases e
  refine I.step (g' := s.gens) (d' := s.drawn) (ch := [it]) (fun b hb => ?_) (fun b o _ _ hc e _ => k b o (fun z => hc (by simp [z])) e) (fun b o _ _ hc e _ => ⟨o.slots, k b o (fun z => hc (by simp [z])) e⟩) (fun _ _ _ _ n => n)
    (fun b o hc e => ⟨o, k b o (fun z => hc (by simp [z])) e⟩) (fun _ _ e => e) (fun _ _ _ e => e) (fun b ps e => ⟨#[], by rw [e]; simp⟩) (fun m hm => ?_) (fun b u e => ?_) I.bare
  · have e : b = it := by simpa using hb
    subst e
    exact ⟨h1, hL, h2, h3⟩
  · obtain ⟨o, es, ep, ho, r⟩ := hm
    exact ⟨o, es, ep, k _ o (Ne.symm hL) ho, r⟩
  · refine (I.hok b u e).stay (fun c v hc q => k c v ?_ q) (fun _ q => q) fun _ _ q => q
    rcases hc with z | z
    · rw [z]; exact nit b u e
    · exact nit c _ z
theorem Inv.tok (I : Inv X pins σ H s) (t : Nat) : Inv X pins σ H { s with toks := t } := I.un (h' := s.heap) (t' := t) Un.refl I.hok
/-- all objects kept -/
theorem Inv.kept {t' : Nat} (I : Inv X pins σ H s) (k : ∀ b u, s.heap.get? b = some u → h'.get? b = some u) : Inv X pins σ H { s with heap := h', toks := t' } := I.un (Un.kept k) (I.hok.kept k)
/-- a new object laid and tracked -/
theorem Inv.laid {a : Addr} {o : HO} {t' : Nat} (I : Inv X pins σ H s) (k : ∀ b u, s.heap.get? b = some u → h'.get? b = some u) (hp : s.heap.objs.size ≤ a) (new : ObjOk X.prog X.w (upd H a o) h' a o) :
    Inv X pins σ (upd H a o) { s with heap := h', toks := t' } := I.un (Un.laid k hp (I.hok.fresh hp)) (I.hok.laid k hp new)
/-- an object written -/
theorem Inv.write {x e : Addr} {o : HO} {t' : Nat} (I : Inv X pins σ H s) (mu : Mut (H x)) (he : e = x ∨ H e = some (.own x)) (k : ∀ b u, b ≠ e → s.heap.get? b = some u → h'.get? b = some u) (heo : ∃ u, h'.get? e = some u)
    (new : ObjOk X.prog X.w (upd H x o) h' x o) : Inv X pins σ (upd H x o) { s with heap := h', toks := t' } := I.un (Un.write mu he k heo) (I.hok.write mu he k heo new)
theorem Inv.pins_of {pins' : List (Addr × Obj)} (I : Inv X pins σ H s) (h : ∀ p ∈ pins', s.heap.get? p.1 = some p.2 ∧ H p.1 = none ∧ p.1 ≠ X.env.locals ∧ p.1 ∉ X.fs ∧ ∀ v, p.2.data ≠ .cell v) : Inv X pins' σ H s :=
  ⟨I.ok, I.os, I.bare, I.base, I.loc, I.cell, I.free, I.freeC, fun p hp => (List.mem_append.mp hp).elim (fun z => I.pin p (List.mem_append_left _ z)) (h p), I.hok, I.len⟩

theorem nodup_ix {N : List Str} (hN : N.Nodup) {i j : Nat} {x : Str} (a : N[i]? = some x) (b : N[j]? = some x) : i = j := by
  obtain ⟨h1, e1⟩ := List.getElem?_eq_some_iff.mp a
  obtain ⟨h2, e2⟩ := List.getElem?_eq_some_iff.mp b
  exact (List.getElem_inj hN).mp (e1.trans e2.symm)

/-- a name is stored; what changed -/
theorem store_ok2 {M : Model} {A : Around} {E : Value → Shared → Prop} {i : Nat} {x : Str} {v : V} {u : Value} {Q : Unit → Shared → Prop} (I : Inv X pins σ H s) (hN : X.N.Nodup) (hi : X.N[i]? = some x) (hx : Loc X.env.scope x) (r : RelV v u)
    (h : ∀ s', Inv X pins (σ.set i (some v)) H s' → (∃ a, Heap.SameBut a s.heap s'.heap ∧ (a = X.env.locals ∨ X.env.cells.lookup x = some a)) → Q () s') (hf : X.fn x = true ∨ X.env.scope.names.lookup x = some .local := by first | exact .inl rfl | exact .inr rfl | assumption) : wpAny M A (storeName X.env x u) Q E s := by
  obtain ⟨m, hn, hl⟩ := id I.loc
  have hcls : (X.env.scope.kind == .class || (X.env.scope.kind == .module && X.env.locals != X.env.globals)) = false := by rw [I.ok.kind]; rfl
  have hiσ : i < σ.length := by rw [I.len]; exact (List.getElem?_eq_some_iff.mp hi).1
  have cne := I.cne
  have tracked : ∀ {a : Addr} {h' : Heap}, (∃ o, s.heap.get? a = some o ∧ H a = none) → Heap.SameBut a s.heap h' → HOk X.prog X.w H h' := fun {a h'} ha hs b ob e => by
    obtain ⟨_, _, hfree⟩ := ha
    refine (I.hok b ob e).stay (fun c w' hc q => (hs.2 c ?_).trans q) (fun _ q => q) fun _ _ q => q
    rintro rfl
    rcases hc with rfl | hc
    · rw [hfree] at e; cases e
    · rw [hfree] at hc; cases hc
  rcases hx with hk | hk
  · refine wpAny_storeName_local hk hn (fun h' hn' hs => ?_) hcls
    obtain ⟨oL, _, _, hoL, _⟩ := id hn
    refine h _ ⟨I.ok, I.os, I.bare, ⟨fun b o e n hb hx => ?_, fun b o e n hb hx => ?_, I.base.free, fun b o e hx => ?_, I.base.tups, I.base.frzs, I.base.tbls⟩, ⟨_, hn', fun j y v' e1 e2 e3 => ?_⟩, fun y c e => ?_, I.free, I.freeC, fun p hp => ?_, tracked ⟨oL, hoL, I.free⟩ hs, by simpa using I.len⟩ ⟨_, hs, .inl rfl⟩
    · exact (hs.2 b (Nat.ne_of_lt (Nat.lt_of_lt_of_le (Heap.lt_size e) I.ok.above))).trans (I.base.keep b o e n hb hx)
    · obtain ⟨sl, e1⟩ := I.base.slot b o e n hb hx
      exact ⟨sl, (hs.2 b (Nat.ne_of_lt (Nat.lt_of_lt_of_le (Heap.lt_size e) I.ok.above))).trans e1⟩
    · obtain ⟨o', e1⟩ := I.base.there b o e hx
      exact ⟨o', (hs.2 b (Nat.ne_of_lt (Nat.lt_of_lt_of_le (Heap.lt_size e) I.ok.above))).trans e1⟩
    · by_cases hj : j = i
      · subst hj
        rw [hi] at e1; cases e1
        rw [List.getElem?_set_self hiσ] at e2
        cases e2
        exact ⟨u, r, .inl ⟨hk, by simp⟩⟩
      · rw [List.getElem?_set_ne (Ne.symm hj)] at e2
        obtain ⟨u', r', q⟩ := hl j y v' e1 e2 e3
        refine ⟨u', r', ?_⟩
        rcases q with ⟨k, e⟩ | ⟨k, c, e, z⟩
        · refine .inl ⟨k, ?_⟩
          have : y ≠ x := fun e => hj (nodup_ix hN e1 (e ▸ hi))
          simp [this, e]
        · exact .inr ⟨k, c, e, z.sameBut hs (cne y c e)⟩
    · obtain ⟨w', z⟩ := I.cell y c e
      exact ⟨w', z.sameBut hs (cne y c e)⟩
    · obtain ⟨e, n, ne, nf, d⟩ := I.pin p hp
      exact ⟨(hs.2 p.1 ne).trans e, n, ne, nf, d⟩
  · have hfn : X.fn x = true := by
      rcases hf with z | z
      · exact z
      · rw [z] at hk; cases hk
    obtain ⟨c, hc⟩ := I.ok.has x (.inl hk)
    obtain ⟨w', z⟩ := I.cell x c hc
    refine wpAny_storeName_cell I.ok.kind hk hc z (fun h' hc' hs => ?_)
    obtain ⟨oc, hoc, hocd⟩ := id z
    refine h { s with heap := h' } ⟨I.ok, I.os, I.bare, ⟨fun b o e n hb hx => ?_, fun b o e n hb hx => ?_, I.base.free, fun b o e hx => ?_, I.base.tups, I.base.frzs, I.base.tbls⟩, ⟨m, hn.sameBut hs (Ne.symm (cne x c hc)), fun j y v' e1 e2 e3 => ?_⟩, fun y c' e => ?_, I.free, I.freeC, fun p hp => ?_, tracked ⟨oc, hoc, I.freeC x c hc⟩ hs, by simpa using I.len⟩ ⟨c, hs, .inr hc⟩
    · exact (hs.2 b (Nat.ne_of_lt (Nat.lt_of_lt_of_le (Heap.lt_size e) (I.ok.cab x c hfn hc)))).trans (I.base.keep b o e n hb hx)
    · obtain ⟨sl, e1⟩ := I.base.slot b o e n hb hx
      exact ⟨sl, (hs.2 b (Nat.ne_of_lt (Nat.lt_of_lt_of_le (Heap.lt_size e) (I.ok.cab x c hfn hc)))).trans e1⟩
    · obtain ⟨o', e1⟩ := I.base.there b o e hx
      exact ⟨o', (hs.2 b (Nat.ne_of_lt (Nat.lt_of_lt_of_le (Heap.lt_size e) (I.ok.cab x c hfn hc)))).trans e1⟩
    · by_cases hj : j = i
      · subst hj
        rw [hi] at e1; cases e1
        rw [List.getElem?_set_self hiσ] at e2
        cases e2
        exact ⟨u, r, .inr ⟨.inl hk, c, hc, hc'⟩⟩
      · rw [List.getElem?_set_ne (Ne.symm hj)] at e2
        obtain ⟨u', r', q⟩ := hl j y v' e1 e2 e3
        refine ⟨u', r', ?_⟩
        rcases q with q | ⟨k, c', e, z'⟩
        · exact .inl q
        · refine .inr ⟨k, c', e, z'.sameBut hs ?_⟩
          rintro rfl
          exact hj (nodup_ix hN e1 (I.ok.inj _ _ _ e hc ▸ hi))
    · by_cases hcc : c' = c
      · subst hcc; exact ⟨_, hc'⟩
      · obtain ⟨w2, z2⟩ := I.cell y c' e
        exact ⟨w2, z2.sameBut hs hcc⟩
    · obtain ⟨e, n, ne, nf, d⟩ := I.pin p hp
      refine ⟨(hs.2 p.1 ?_).trans e, n, ne, nf, d⟩
      intro q
      rw [q, hoc] at e
      have q' : oc = p.2 := Option.some.inj e
      exact d w' (by rw [← q']; exact hocd)
theorem store_ok {M : Model} {A : Around} {E : Value → Shared → Prop} {i : Nat} {x : Str} {v : V} {u : Value} {Q : Unit → Shared → Prop} (I : Inv X pins σ H s) (hN : X.N.Nodup) (hi : X.N[i]? = some x) (hx : Loc X.env.scope x) (r : RelV v u)
    (h : ∀ s', Inv X pins (σ.set i (some v)) H s' → Q () s') (hf : X.fn x = true ∨ X.env.scope.names.lookup x = some .local := by first | exact .inl rfl | exact .inr rfl | assumption) : wpAny M A (storeName X.env x u) Q E s :=
  store_ok2 I hN hi hx r (fun s' I' _ => h s' I') hf
/-- behind a call or a block, the state as it is -/
theorem Inv.call' {s' : Shared} {ch : List Addr} (I : Inv X pins σ H s) (ho : s'.os = s.os) (u : Un (frs X.stack) ch H H' s.heap s'.heap) (hok : HOk X.prog X.w H' s'.heap) (hg : AllBare s'.gens)
    (hch : ∀ b ∈ ch, (b ∈ X.ex ∨ X.s₀.heap.objs.size ≤ b) ∧ b ≠ X.env.locals ∧ (∀ x c, X.env.cells.lookup x = some c → c ≠ b) ∧ ∀ p ∈ X.pn ++ pins, p.1 ≠ b) : Inv X pins σ H' s' := by
  obtain ⟨h', g', d', t', o'⟩ := s'
  have e : o' = s.os := ho
  subst e
  exact I.call (g' := g') (t' := t') (d' := d') u hok hg hch
end

/-! ### the judgements -/
/-- an exception: its class, its own dict's address (where it has one), the abstract heap behind it -/
abbrev XK := Value → Option Addr → Hp → Prop
abbrev St := List (Option V)
abbrev VK := V → Hp → Prop
/-- an expression's reading; a test's; an argument list's -/
abbrev TE := St → Hp → VK → Prop
abbrev TT := St → Hp → (Bool → Hp → Prop) → Prop
abbrev TA := St → Hp → (List V → Hp → Prop) → Prop
/-- what is wanted behind a statement -/
structure Ends where
  nx : St → Hp → Prop
  rt : VK
  bk : St → Hp → Prop := fun _ _ => False
  ct : St → Hp → Prop := fun _ _ => False
abbrev TS := Ends → St → Hp → Prop

def EP (X : Cx) (pins : List (Addr × Obj)) (σ : St) (Q : VK) (u : Value) (s' : Shared) : Prop := ∃ v H', Inv X pins σ H' s' ∧ RelV v u ∧ Q v H'
def TP (X : Cx) (pins : List (Addr × Obj)) (σ : St) (Q : Bool → Hp → Prop) (b : Bool) (s' : Shared) : Prop := ∃ H', Inv X pins σ H' s' ∧ Q b H'
def AP (X : Cx) (pins : List (Addr × Obj)) (σ : St) (Q : List V → Hp → Prop) (us : List Value) (s' : Shared) : Prop := ∃ vs H', Inv X pins σ H' s' ∧ Vals vs us ∧ Q vs H'
def SP (X : Cx) (pins : List (Addr × Obj)) (D : Ends) (f : Flow) (s' : Shared) : Prop :=
  match f with
  | .next => ∃ σ' H', Inv X pins σ' H' s' ∧ D.nx σ' H'
  | .brk => ∃ σ' H', Inv X pins σ' H' s' ∧ D.bk σ' H'
  | .cont => ∃ σ' H', Inv X pins σ' H' s' ∧ D.ct σ' H'
  | .ret u => ∃ v σ' H', Inv X pins σ' H' s' ∧ RelV v u ∧ D.rt v H'

def PE (X : Cx) (e : Expr) (t : TE) : Prop :=
  ∀ (pins : List (Addr × Obj)) (s : Shared) (σ : St) (H : Hp) (Q : VK), Inv X pins σ H s → t σ H Q → wpAny (model X.prog X.w) X.A (eval e X.env) (EP X pins σ Q) X.xe s
def PT (X : Cx) (e : Expr) (t : TT) : Prop :=
  ∀ (pins : List (Addr × Obj)) (s : Shared) (σ : St) (H : Hp) (Q : Bool → Hp → Prop), Inv X pins σ H s → t σ H Q → wpAny (model X.prog X.w) X.A (isTrue e X.env (eval e X.env)) (TP X pins σ Q) X.xe s
/-- a test whatever its 'whole' is (and, or) -/
def PW (X : Cx) (e : Expr) (t : TT) : Prop :=
  ∀ (whole : Sem Value) (pins : List (Addr × Obj)) (s : Shared) (σ : St) (H : Hp) (Q : Bool → Hp → Prop), Inv X pins σ H s → t σ H Q → wpAny (model X.prog X.w) X.A (isTrue e X.env whole) (TP X pins σ Q) X.xe s
theorem PW.pt {X : Cx} {e : Expr} {t : TT} (h : PW X e t) : PT X e t := h _
/-- an argument list (no star), from the left -/
def PA (X : Cx) (es : List Expr) (t : TA) : Prop :=
  ∀ (pos : Pos) (pins : List (Addr × Obj)) (s : Shared) (σ : St) (H : Hp) (Q : List V → Hp → Prop), Inv X pins σ H s → t σ H Q → wpAny (model X.prog X.w) X.A (spliced (backTo pos (starEach es X.env))) (AP X pins σ Q) X.xe s
def PS (X : Cx) (st : Stmt) (t : TS) : Prop :=
  ∀ (pins : List (Addr × Obj)) (s : Shared) (σ : St) (H : Hp) (D : Ends), Inv X pins σ H s → t D σ H → wpAny (model X.prog X.w) X.A (exec st X.env) (SP X pins D) X.xe s
def PSs (X : Cx) (st : List Stmt) (t : TS) : Prop :=
  ∀ (pins : List (Addr × Obj)) (s : Shared) (σ : St) (H : Hp) (D : Ends), Inv X pins σ H s → t D σ H → wpAny (model X.prog X.w) X.A (execs st X.env) (SP X pins D) X.xe s
/-- weaken the end -/
theorem thn {α : Type} {t : Sem α} {Q Q' : α → Shared → Prop} {M : Model} {A : Around} {E : Value → Shared → Prop} {s : Shared} (h : wpAny M A t Q E s) (hQ : ∀ a s, Q a s → Q' a s) : wpAny M A t Q' E s := wpAny_mono h hQ fun _ _ x => x
end L2

namespace L2
open PySem PySem.Spec PyProof.Rows
section
variable {X : Cx}

/-- two expressions in a row -/
theorem bin {a b : Expr} {ta tb : TE} (ha : PE X a ta) (hb : PE X b tb) {pins : List (Addr × Obj)} {s : Shared} {σ : St} {H : Hp} {R : V → V → Hp → Prop} (I : Inv X pins σ H s) (h : ta σ H fun x H1 => tb σ H1 fun y H2 => R x y H2)
    {α : Type} {Q : α → Shared → Prop} {f : Value → Value → Sem α}
    (hf : ∀ v u s2 x y H2, Inv X pins σ H2 s2 → RelV x v → RelV y u → R x y H2 → wpAny (model X.prog X.w) X.A (f v u) Q X.xe s2) :
    wpAny (model X.prog X.w) X.A (eval a X.env) (fun v s₁ => wpAny (model X.prog X.w) X.A (eval b X.env) (fun u s₂ => wpAny (model X.prog X.w) X.A (f v u) Q X.xe s₂) X.xe s₁) X.xe s := by
  refine thn (ha pins s σ H _ I h) fun v s1 ⟨x, H1, I1, r1, q1⟩ => ?_
  refine thn (hb pins s1 σ H1 _ I1 q1) fun u s2 ⟨y, H2, I2, r2, q2⟩ => ?_
  exact hf v u s2 x y H2 I2 r1 r2 q2

/-! ### names and constants -/
def tVar (i : Nat) : TE := fun σ H Q => ∃ v, σ[i]? = some (some v) ∧ Q v H
def tC (v : V) : TE := fun _ H Q => Q v H
theorem pe_var {i : Nat} {x : Str} {pos : Pos} (hN : X.N[i]? = some x) (hv : Vis X.env.scope x) (hd : (x == ("__debug__" : Str)) = false := by decide) (hcd : (x == ("__classdict__" : Str)) = false := by decide) : PE X (.Name x pos) (tVar i) := by
  intro pins s σ H Q I h
  obtain ⟨v, e, h⟩ := h
  obtain ⟨m, hn, hl⟩ := I.loc
  obtain ⟨u, r, l⟩ := hl i x v hN e hv
  have fin : EP X pins σ Q u s := ⟨v, H, I, r, h⟩
  rcases l with ⟨hk, hm⟩ | ⟨hk, c, hc, hcell⟩
  · exact wpAny_Name (wpAny_loadName_local I.ok.kind hk hn hm fin) hd
  · rcases hk with hk | hk
    · exact wpAny_Name (wpAny_loadName_cell I.ok.kind hk hc hcell fin) hd
    · exact wpAny_Name (wpAny_loadName_free I.ok.kind hk hc hcell fin hcd) hd
theorem pe_int {i j pos} : PE X (.Constant (.int i) j pos) (tC (.int i)) := fun _ _ _ H _ I h => wpAny_Constant_int ⟨.int i, H, I.tok _, ⟨_, rfl⟩, h⟩
theorem pe_bl {b j pos} : PE X (.Constant (.bool b) j pos) (tC (.bl b)) := fun _ _ _ H _ I h => Constant_bool ⟨.bl b, H, I, rfl, h⟩
theorem pe_non {j pos} : PE X (.Constant .none j pos) (tC .non) := fun _ _ _ H _ I h => Constant_none ⟨.non, H, I, rfl, h⟩
theorem pe_str {x j pos} : PE X (.Constant (.str x) j pos) (tC (.str x)) := fun _ _ _ H _ I h => Calls.Constant_str ⟨.str x, H, I.tok _, ⟨_, rfl⟩, h⟩

/-- a global name of the def -/
def Gl (X : Cx) (x : Str) : Prop := X.env.kindOf x = some .globalImplicit
theorem ld_glob {E : Value → Shared → Prop} {pins : List (Addr × Obj)} {s : Shared} {σ : St} {H : Hp} {x : Str} {u : Value} {pos : Pos} {Q : Value → Shared → Prop} (I : Inv X pins σ H s) (hg : Gl X x) (hm : X.mg x = some u) (h : Q u s)
    (hd : (x == ("__debug__" : Str)) = false := by decide) : wpAny (model X.prog X.w) X.A (eval (.Name x pos) X.env) Q E s :=
  Calls.Name_function_global I.ok.kind hg (Calls.loadGlobal_global (by rw [I.ok.glob]; exact I.mod.glob.keeps I.bk) hm h) hd
theorem ld_blt {E : Value → Shared → Prop} {pins : List (Addr × Obj)} {s : Shared} {σ : St} {H : Hp} {x : Str} {u : Value} {pos : Pos} {Q : Value → Shared → Prop} (I : Inv X pins σ H s) (hg : Gl X x) (hm : X.mg x = none) (hv : bootBuiltins x = some u) (h : Q u s)
    (hn : x ≠ "__name__" := by decide) (hd : (x == ("__debug__" : Str)) = false := by decide) : wpAny (model X.prog X.w) X.A (eval (.Name x pos) X.env) Q E s := by
  obtain ⟨mb, h1, h2⟩ := I.mod.blt
  exact Calls.Name_function_global I.ok.kind hg (Calls.loadGlobal_builtin (by rw [I.ok.glob]; exact I.mod.glob.keeps I.bk) hm (by rw [I.ok.blt]; exact h1.keeps I.bk) ((h2 x hn).trans hv) h) hd
/-- a module's constant, a class, a function, as a value -/
theorem pe_glob {x : Str} {v : V} {u : Value} {pos : Pos} (hg : Gl X x) (hm : X.mg x = some u) (r : RelV v u) (hd : (x == ("__debug__" : Str)) = false := by decide) : PE X (.Name x pos) (tC v) :=
  fun _ _ _ H _ I h => ld_glob I hg hm ⟨v, H, I, r, h⟩ hd
theorem pe_bltn {x : Str} {v : V} {u : Value} {pos : Pos} (hg : Gl X x) (hm : X.mg x = none) (hv : bootBuiltins x = some u) (r : RelV v u) (hn : x ≠ "__name__" := by decide) (hd : (x == ("__debug__" : Str)) = false := by decide) : PE X (.Name x pos) (tC v) :=
  fun _ _ _ H _ I h => ld_blt I hg hm hv ⟨v, H, I, r, h⟩ hn hd

/-! ### arithmetic -/
variable {a b : Expr} {ta tb : TE} {pos : Pos}
/-! ### comparisons -/
/-! ### and, or, not -/
variable {tA tB' : TT} {rest : List Expr}
def tAnd (t u : TT) : TT := fun σ H Q => t σ H fun c H1 => if c = true then u σ H1 Q else Q false H1
def tOr (t u : TT) : TT := fun σ H Q => t σ H fun c H1 => if c = true then Q true H1 else u σ H1 Q
def tNot (t : TT) : TT := fun σ H Q => t σ H fun c H1 => Q (!c) H1
theorem pw_and1 (ha : PT X a tA) : PW X (.BoolOp .And [a] pos) tA := by
  intro wh pins s σ H Q I h
  refine isTrue_and (thn (ha pins s σ H Q I h) fun c s1 e => ?_)
  cases c with
  | true => exact isTrue_and_nil e
  | false => exact e
theorem pw_or1 (ha : PT X a tA) : PW X (.BoolOp .Or [a] pos) tA := by
  intro wh pins s σ H Q I h
  refine isTrue_or (thn (ha pins s σ H Q I h) fun c s1 e => ?_)
  cases c with
  | false => exact isTrue_or_nil e
  | true => exact e
theorem pw_and (ha : PT X a tA) (hb : PW X (.BoolOp .And (b :: rest) pos) tB') : PW X (.BoolOp .And (a :: b :: rest) pos) (tAnd tA tB') := by
  intro wh pins s σ H Q I h
  refine isTrue_and (thn (ha pins s σ H _ I h) fun c s1 ⟨H1, I1, q1⟩ => ?_)
  cases c with
  | true => exact hb wh pins s1 σ H1 Q I1 q1
  | false => exact ⟨H1, I1, q1⟩
theorem pw_or (ha : PT X a tA) (hb : PW X (.BoolOp .Or (b :: rest) pos) tB') : PW X (.BoolOp .Or (a :: b :: rest) pos) (tOr tA tB') := by
  intro wh pins s σ H Q I h
  refine isTrue_or (thn (ha pins s σ H _ I h) fun c s1 ⟨H1, I1, q1⟩ => ?_)
  cases c with
  | true => exact ⟨H1, I1, q1⟩
  | false => exact hb wh pins s1 σ H1 Q I1 q1
theorem pt_not (ha : PT X a tA) : PT X (.UnaryOp .Not a pos) (tNot tA) := by
  intro pins s σ H Q I h
  exact isTrue_not (ha pins s σ H (fun c H1 => Q (!c) H1) I h)
theorem pe_one {op} {t : TE} (h : PE X a t) : PE X (.BoolOp op [a] pos) t := fun pins s σ H Q I hw => BoolOp_one (h pins s σ H Q I hw)
end
end L2

namespace L2
open PySem PySem.Spec PyProof.Rows

/-! ### a list, a tuple that is read: tracked, frozen, or an object of the module -/
def SqL (K : PySem.W.Frag) (H : Hp) (a : Addr) (xs : List V) : Prop :=
  Rd H a (.lst xs) ∨
    ∃ (o : Obj) (its : Array Value) (n : Nat), K.lookup a = some o ∧ o.cls = .type "list" ∧ o.dict = none ∧ o.data = .seq its n ∧ its.size ≤ sizeLine ∧ Vals xs its.toList
def SqT (K : PySem.W.Frag) (H : Hp) (a : Addr) (xs : List V) : Prop :=
  Rd H a (.tup xs) ∨
    ∃ (o : Obj) (its : Array Value) (n : Nat), K.lookup a = some o ∧ o.cls = .type "tuple" ∧ o.data = .seq its n ∧ its.size ≤ sizeLine ∧ Vals xs its.toList
def absV : Value → Option V
  | .none => some .non
  | .bool b => some (.bl b)
  | .int i _ => some (.int i)
  | .str x _ => some (.str x)
  | .bytes b _ => some (.byt b)
  | .float b _ => some (.flt b)
  | .ref a => some (.ref a)
  | .type n => some (.ty n)
  | _ => none
theorem RelV.abs {x : V} {u : Value} (r : RelV x u) : absV u = some x := by
  cases x with
  | non => cases r; rfl
  | bl _ => cases r; rfl
  | int _ => obtain ⟨t, rfl⟩ := r; rfl
  | str _ => obtain ⟨t, rfl⟩ := r; rfl
  | byt _ => obtain ⟨t, rfl⟩ := r; rfl
  | flt _ => obtain ⟨t, rfl⟩ := r; rfl
  | ref _ => cases r; rfl
  | ty _ => cases r; rfl
theorem RelV.inj {x y : V} {u : Value} (r : RelV x u) (q : RelV y u) : x = y := Option.some.inj (r.abs.symm.trans q.abs)
theorem Vals.inj : ∀ {xs ys : List V} {us : List Value}, Vals xs us → Vals ys us → xs = ys
  | _, _, _, .nil, .nil => rfl
  | _, _, _, .cons r t, .cons r' t' => by rw [r.inj r', Vals.inj t t']
section
variable {X : Cx} {pins : List (Addr × Obj)} {σ : St} {H : Hp} {s : Shared} {a : Addr} {xs ys : List V}
theorem SqL.of {K : PySem.W.Frag} (h : H a = some (.lst xs)) : SqL K H a xs := .inl (.inl h)
theorem SqT.of {K : PySem.W.Frag} (h : H a = some (.tup xs)) : SqT K H a xs := .inl (.inl h)
theorem Inv.list (I : Inv X pins σ H s) (h : SqL X.K H a xs) : ∃ its : List Value, Vals xs its ∧ PlainL s.heap a its.toArray ∧ xs.length ≤ sizeLine := by
  rcases h with h | ⟨o, its, n, hk, hc, hd, hs, hz, r⟩
  · obtain ⟨z, its, n, r, e⟩ := h.ok I.hok
    exact ⟨its, r, ⟨_, n, e, rfl, rfl, rfl⟩, z⟩
  · refine ⟨its.toList, r, ⟨o, n, I.kIn a o hk, hc, hd, by simpa using hs⟩, ?_⟩
    have e := r.length
    simp only [Array.length_toList] at e
    omega
theorem Inv.tuple (I : Inv X pins σ H s) (h : SqT X.K H a xs) : ∃ its : List Value, Vals xs its ∧ IsTup s.heap a its.toArray ∧ xs.length ≤ sizeLine := by
  rcases h with h | ⟨o, its, n, hk, hc, hs, hz, r⟩
  · obtain ⟨z, its, r, p⟩ := h.ok I.hok
    exact ⟨its, r, p, z⟩
  · refine ⟨its.toList, r, ⟨o, I.kIn a o hk, hc, n, by simpa using hs⟩, ?_⟩
    have e := r.length
    simp only [Array.length_toList] at e
    omega
theorem Inv.list_inj (I : Inv X pins σ H s) (h : SqL X.K H a xs) (h' : SqL X.K H a ys) : xs = ys := by
  obtain ⟨its, r, ⟨o, n, e, _, _, d⟩, _⟩ := I.list h
  obtain ⟨its', r', ⟨o', n', e', _, _, d'⟩, _⟩ := I.list h'
  rw [e] at e'; cases e'
  rw [d] at d'
  injection d' with d1 _
  have : its = its' := by simpa using congrArg Array.toList d1
  subst this
  exact r.inj r'
theorem Inv.tuple_inj (I : Inv X pins σ H s) (h : SqT X.K H a xs) (h' : SqT X.K H a ys) : xs = ys := by
  obtain ⟨its, r, ⟨o, e, _, n, d⟩, _⟩ := I.tuple h
  obtain ⟨its', r', ⟨o', e', _, n', d'⟩, _⟩ := I.tuple h'
  rw [e] at e'; cases e'
  rw [d] at d'
  injection d' with d1 _
  have : its = its' := by simpa using congrArg Array.toList d1
  subst this
  exact r.inj r'
end

/-! ### another wish about exceptions -/
abbrev Cx.wish (X : Cx) (E : Value → Shared → Prop) : Cx := { X with xe := E }
/-- no exception leaves -/
abbrev Cx.nox (X : Cx) : Cx := X.wish fun _ _ => False
theorem Cx.Ok.wish {X : Cx} (ok : X.Ok) (E : Value → Shared → Prop) : (X.wish E).Ok :=
  ⟨ok.mod, ok.kind, ok.glob, ok.blt, ok.above, ok.inj, ok.has, ok.cab, ok.hd, ok.frames, ok.stk, ok.exf, ok.bs, ok.bsz, ok.noex, ok.exfs, ok.funs, ok.frf⟩
theorem Cx.Ok.unwish {X : Cx} {E : Value → Shared → Prop} (ok : (X.wish E).Ok) : X.Ok :=
  ⟨ok.mod, ok.kind, ok.glob, ok.blt, ok.above, ok.inj, ok.has, ok.cab, ok.hd, ok.frames, ok.stk, ok.exf, ok.bs, ok.bsz, ok.noex, ok.exfs, ok.funs, ok.frf⟩
section
variable {X : Cx} {pins : List (Addr × Obj)} {σ : St} {H : Hp} {s : Shared} {E : Value → Shared → Prop}
theorem Inv.wish (I : Inv X pins σ H s) (E : Value → Shared → Prop) : Inv (X.wish E) pins σ H s := ⟨I.ok.wish E, I.os, I.bare, I.base, I.loc, I.cell, I.free, I.freeC, I.pin, I.hok, I.len⟩
theorem Inv.unwish (I : Inv (X.wish E) pins σ H s) : Inv X pins σ H s := ⟨I.ok.unwish, I.os, I.bare, I.base, I.loc, I.cell, I.free, I.freeC, I.pin, I.hok, I.len⟩
theorem SP.unwish {D : Ends} {f : Flow} {s' : Shared} (h : SP (X.wish E) pins D f s') : SP X pins D f s' := by
  cases f with
  | next => obtain ⟨σ', H', I, q⟩ := h; exact ⟨σ', H', I.unwish, q⟩
  | brk => obtain ⟨σ', H', I, q⟩ := h; exact ⟨σ', H', I.unwish, q⟩
  | cont => obtain ⟨σ', H', I, q⟩ := h; exact ⟨σ', H', I.unwish, q⟩
  | ret u => obtain ⟨v, σ', H', I, r, q⟩ := h; exact ⟨v, σ', H', I.unwish, r, q⟩
theorem PSs.nox {st : List Stmt} {t : TS} (h : PSs X.nox st t) : PSs X st t := fun pins s σ H D I hw =>
  wpAny_mono (h pins s σ H D (I.wish _) hw) (fun _ _ q => q.unwish) fun _ _ z => False.elim z
end

/-! ### blocks and small statements -/
section
variable {X : Cx} {st : Stmt} {rest : List Stmt} {t u : TS} {e : Expr} {te : TE} {pos : Pos}
def tNext : TS := fun D σ H => D.nx σ H
def tSeq (t u : TS) : TS := fun D σ H => t { D with nx := u D } σ H
theorem pss_nil : PSs X [] tNext := fun _ _ σ H _ I h => wpAny_execs_nil ⟨σ, H, I, h⟩
theorem pss_cons (h1 : PS X st t) (h2 : PSs X rest u) : PSs X (st :: rest) (tSeq t u) := by
  intro pins s σ H D I h
  refine wpAny_execs_cons (thn (h1 pins s σ H { D with nx := u D } I h) fun f s1 q => ?_)
  cases f with
  | next =>
    obtain ⟨σ', H', I', q⟩ := q
    exact h2 pins s1 σ' H' D I' q
  | ret v => exact q
  | brk => exact q
  | cont => exact q
theorem pss_one (h1 : PS X st t) : PSs X [st] t := by
  intro pins s σ H D I h
  refine wpAny_execs_cons (thn (h1 pins s σ H D I h) fun f s1 q => ?_)
  cases f with
  | next => exact wpAny_execs_nil q
  | ret v => exact q
  | brk => exact q
  | cont => exact q
/-- in a def's body nothing is shown -/
theorem Inv.quiet {pins : List (Addr × Obj)} {σ : St} {H : Hp} {s : Shared} (I : Inv X pins σ H s) : interactive X.env = false := by simp [interactive, I.ok.kind]
/-- an expression whose value is dropped -/
def tDrop (te : TE) : TS := fun D σ H => te σ H fun _ H1 => D.nx σ H1
theorem ps_expr (he : PE X e te) (hs : swapsWith e none pos.line X.env = pure false := by rfl) : PS X (.Expr e pos) (tDrop te) := by
  intro pins s σ H D I h
  exact wpAny_Expr_any (thn (he pins s σ H _ I h) fun v s1 ⟨x, H1, I1, r1, q1⟩ => ⟨σ, H1, I1, q1⟩) I.quiet hs
def tRet (te : TE) : TS := fun D σ H => te σ H D.rt
theorem ps_ret (he : PE X e te) : PS X (.Return (some e) pos) (tRet te) := by
  intro pins s σ H D I h
  exact wpAny_Return_some (thn (he pins s σ H _ I h) fun v s1 ⟨x, H1, I1, r1, q1⟩ => ⟨x, σ, H1, I1, r1, q1⟩)
def tIfS (c : TT) (t u : TS) : TS := fun D σ H => c σ H fun b H1 => if b = true then t D σ H1 else u D σ H1
theorem ps_if {c : Expr} {a b : List Stmt} {tc : TT} (hc : PT X c tc) (ha : PSs X a t) (hb : PSs X b u) : PS X (.If c a b pos) (tIfS tc t u) := by
  intro pins s σ H D I h
  refine wpAny_If (thn (hc pins s σ H _ I h) fun d s1 ⟨H1, I1, q1⟩ => ?_)
  cases d with
  | true => exact ha pins s1 σ H1 D I1 q1
  | false => exact hb pins s1 σ H1 D I1 q1
end

/-! ### targets -/
abbrev TG := V → St → Hp → (St → Hp → Prop) → Prop
abbrev TGs := List V → St → Hp → (St → Hp → Prop) → Prop
def PG (X : Cx) (target : Expr) (t : TG) : Prop :=
  ∀ (pins : List (Addr × Obj)) (s : Shared) (σ : St) (H : Hp) (v : V) (u : Value) (Q : St → Hp → Prop), Inv X pins σ H s → RelV v u → t v σ H Q →
    wpAny (model X.prog X.w) X.A (assign target X.env u) (fun _ s' => ∃ σ' H', Inv X pins σ' H' s' ∧ Q σ' H') X.xe s
/-- several targets, one after another -/
def PGs (X : Cx) (ts : List Expr) (t : TGs) : Prop :=
  ∀ (pins : List (Addr × Obj)) (s : Shared) (σ : St) (H : Hp) (vs : List V) (us : List Value) (Q : St → Hp → Prop), Inv X pins σ H s → Vals vs us → t vs σ H Q →
    wpAny (model X.prog X.w) X.A (assignInOrder ((assignEach ts X.env).map (·.2)) us) (fun _ s' => ∃ σ' H', Inv X pins σ' H' s' ∧ Q σ' H') X.xe s
/-- o[i] = v, by values -/
abbrev TSet := V → V → V → Hp → (Hp → Prop) → Prop
def PSet (X : Cx) (t : TSet) : Prop :=
  ∀ (pins : List (Addr × Obj)) (s : Shared) (σ : St) (H : Hp) (o i v : V) (ov iv u : Value) (Q : Hp → Prop), Inv X pins σ H s → RelV o ov → RelV i iv → RelV v u → t o i v H Q →
    wpAny (model X.prog X.w) X.A (setItem ov iv u) (fun _ s' => ∃ H', Inv X pins σ H' s' ∧ Q H') X.xe s
section
variable {X : Cx} {pos : Pos}
def gName (i : Nat) : TG := fun v σ H Q => Q (σ.set i (some v)) H
theorem pg_name {i : Nat} {x : Str} (hN : X.N.Nodup) (hi : X.N[i]? = some x) (hx : Loc X.env.scope x) (hf : X.fn x = true ∨ X.env.scope.names.lookup x = some .local := by first | exact .inl rfl | exact .inr rfl | assumption) : PG X (.Name x pos) (gName i) := by
  intro pins s σ H v u Q I r h
  exact wpAny_assign_Name (store_ok I hN hi hx r (fun s' I' => ⟨_, H, I', h⟩) hf)
def gNil : TGs := fun vs σ H Q => vs = [] ∧ Q σ H
def gCons (t : TG) (u : TGs) : TGs := fun vs σ H Q => ∃ v r, vs = v :: r ∧ t v σ H fun σ' H' => u r σ' H' Q
theorem pgs_nil : PGs X [] gNil := by
  intro pins s σ H vs us Q I r h
  obtain ⟨e, h⟩ := h
  subst e
  cases r
  exact assignInOrder_nil ⟨σ, H, I, h⟩
theorem pgs_cons {e : Expr} {es : List Expr} {t : TG} {u : TGs} (h1 : PG X e t) (h2 : PGs X es u)
    (hs : (assignEach (e :: es) X.env).map (·.2) = assign e X.env :: (assignEach es X.env).map (·.2) := by rfl) : PGs X (e :: es) (gCons t u) := by
  intro pins s σ H vs us Q I r h
  obtain ⟨v, vr, e1, h⟩ := h
  subst e1
  cases r with
  | cons r rr =>
    rw [hs]
    refine assignInOrder_cons (thn (h1 pins s σ H _ _ _ I r h) fun _ s1 ⟨σ1, H1, I1, q1⟩ => ?_)
    exact h2 pins s1 σ1 H1 _ _ Q I1 rr q1
/-- (a, b, ..) = a tuple of that length -/
def gTup (K : PySem.W.Frag) (n : Nat) (t : TGs) : TG := fun v σ H Q => ∃ a xs, v = .ref a ∧ SqT K H a xs ∧ xs.length = n ∧ t xs σ H Q
theorem pg_tup {es : List Expr} {k : Nat} {t : TGs} {n : Nat} (hc : X.calm = true) (h : PGs X es t)
    (hn : (assignEach es X.env).length = n := by rfl) (hst : (assignEach es X.env).findIdx? (·.1) = none := by rfl) : PG X (.Tuple es k pos) (gTup X.K n t) := by
  intro pins s σ H v u Q I r hw
  obtain ⟨a, xs, e1, hq, hl, hw⟩ := hw
  subst e1
  cases r
  obtain ⟨its, rv, ht, hz⟩ := I.tuple hq
  refine assign_Tuple_tuple (I.ok.hd hc) ht (by simp [hn, ← hl, rv.length]) hst fun h' hx => ?_
  have I1 : Inv X pins σ H { s with heap := h' } := I.kept (t' := s.toks) fun b o e => hx b o (Nat.ne_of_lt (Heap.lt_size e)) e
  exact h pins _ σ H xs _ Q I1 (by simpa using rv) hw
/-- o[i] = .. -/
def gSub (to ti : TE) (t : TSet) : TG := fun v σ H Q => to σ H fun o H1 => ti σ H1 fun i H2 => t o i v H2 fun H3 => Q σ H3
theorem pg_sub {o i : Expr} {to ti : TE} {t : TSet} (ho : PE X o to) (hi : PE X i ti) (hs : PSet X t)
    (ha : ∀ v, assign (.Subscript o i pos) X.env v = (do
      let ov ← holding [v] (eval o X.env)
      let iv ← holding [v, ov] (eval i X.env)
      standAt pos
      holding [v, ov, iv] (setItem ov iv v)
      release [v, ov, iv] []) := by intro _; rfl) : PG X (.Subscript o i pos) (gSub to ti t) := by
  intro pins s σ H v u Q I r h
  rw [ha]
  refine wpAny_bind (wpAny_holding (thn (ho pins s σ H _ I h) fun ov s1 ⟨x, H1, I1, r1, q1⟩ => ?_))
  refine wpAny_bind (wpAny_holding (thn (hi pins s1 σ H1 _ I1 q1) fun iv s2 ⟨y, H2, I2, r2, q2⟩ => ?_))
  refine wpAny_bind (wpAny_standAt (wpAny_bind (wpAny_holding (thn (hs pins s2 σ H2 x y v ov iv u _ I2 r1 r2 r q2) fun _ s3 ⟨H3, I3, q3⟩ => ?_))))
  exact wpAny_release ⟨σ, H3, I3, q3⟩
/-- target = value -/
def tAsg (te : TE) (g : TG) : TS := fun D σ H => te σ H fun x H1 => g x σ H1 D.nx
theorem ps_asg {tg e : Expr} {te : TE} {g : TG} (he : PE X e te) (hg : PG X tg g) (hs : swapsWithSole [tg] e pos.line X.env = pure false := by rfl) (hw : swappedStores [tg] e X.env = pure none := by rfl)
    (h1 : (assignEach [tg] X.env).map (·.2) = [assign tg X.env] := by rfl) : PS X (.Assign [tg] e pos) (tAsg te g) := by
  intro pins s σ H D I h
  refine wpAny_Assign_stores (thn (he pins s σ H _ I h) fun v s1 ⟨x, H1, I1, r1, q1⟩ => ?_) hs hw
  rw [h1]
  exact thn (hg pins s1 σ H1 x v _ I1 r1 q1) fun _ s2 q => q
/-- name = value -/
theorem ps_set {i : Nat} {x : Str} {e : Expr} {te : TE} {pos' : Pos} (hN : X.N.Nodup) (hi : X.N[i]? = some x) (hx : Loc X.env.scope x) (he : PE X e te) (hs : swapsWith e (some (.Name x pos')) pos.line X.env = pure false := by rfl) (hf : X.fn x = true ∨ X.env.scope.names.lookup x = some .local := by first | exact .inl rfl | exact .inr rfl | assumption) :
    PS X (.Assign [.Name x pos'] e pos) (tAsg te (gName i)) := by
  intro pins s σ H D I h
  refine wpAny_Assign_Name (thn (he pins s σ H _ I h) fun v s1 ⟨y, H1, I1, r1, q1⟩ => ?_) hs
  exact store_ok I1 hN hi hx r1 (fun s2 I2 => ⟨_, H1, I2, q1⟩) hf
end

/-! ### while -/
section
variable {X : Cx} {pos : Pos}
end

/-! ### what a loop or a comprehension walks -/
/-- at turn i: it yields x (the heap may grow), or it stops -/
structure It where
  go : Nat → Hp → Prop
  yld : Nat → Hp → V → Hp → Prop
  stop : Nat → Hp → Prop
/-- the iterator's own objects may turn: they are not the frame's, not pinned, younger than the entry (or a comprehension's own) -/
def FpOk (X : Cx) (pins : List (Addr × Obj)) (H : Hp) (b : Addr) : Prop :=
  H b = none ∧ b ≠ X.env.locals ∧ b ∉ X.fs ∧ (b ∈ X.ex ∨ X.s₀.heap.objs.size ≤ b) ∧ (∀ x c, X.env.cells.lookup x = some c → c ≠ b) ∧ ∀ p ∈ X.pn ++ pins, p.1 ≠ b
theorem Inv.fpOk {X : Cx} {pins : List (Addr × Obj)} {σ : St} {H H' : Hp} {s : Shared} {b : Addr} (I : Inv X pins σ H s) (hb : s.heap.objs.size ≤ b) (hn : H' b = none) : FpOk X pins H' b := by
  refine ⟨hn, Nat.ne_of_gt (Nat.lt_of_lt_of_le I.lt hb), I.nofs hb, .inr (Nat.le_trans I.sz hb), fun x c e z => ?_, fun p hp z => ?_⟩
  · obtain ⟨v, q⟩ := I.cell x c e
    exact absurd (Nat.lt_of_lt_of_le q.lt (by rw [z]; exact hb)) (Nat.lt_irrefl _)
  · exact absurd (Nat.lt_of_lt_of_le (Heap.lt_size (I.pin p hp).1) (by rw [z]; exact hb)) (Nat.lt_irrefl _)
structure Turn (P : Program) (w : World) (K : PySem.W.Frag) (tg : Expr) (J : It) (fp : List Addr) (it : Addr) (tn : Nat → Heap → Prop) : Prop where
  mem : it ∈ fp
  obj : ∀ i h, tn i h → ∀ b ∈ fp, ∃ o, h.get? b = some o ∧ ∀ v, o.data ≠ .cell v
  keep : ∀ i h h', tn i h → (∀ b ∈ fp, ∀ o, h.get? b = some o → h'.get? b = some o) → tn i h'
  item : ∀ (X : Cx), X.prog = P → X.w = w → X.K = K → X.calm = true → ∀ (i : Nat) (pins : List (Addr × Obj)) (s : Shared) (σ : St) (H : Hp) (E : Value → Shared → Prop), Inv X pins σ H s → (∀ b ∈ fp, FpOk X pins H b) → tn i s.heap → J.go i H →
    wpAny (model P w) X.A (pyNext (.ref it)) (fun r s1 => ∃ u, r = some u ∧
      wpAny (model P w) X.A (letOwnedTupleGo tg (.ref it) u) (fun _ s2 => ∃ x H', Inv X pins σ H' s2 ∧ RelV x u ∧ J.yld i H x H' ∧ tn (i + 1) s2.heap ∧ ∀ b ∈ fp, H' b = none) E s1) E s
  done : ∀ (X : Cx), X.prog = P → X.w = w → X.K = K → X.calm = true → ∀ (i : Nat) (pins : List (Addr × Obj)) (s : Shared) (σ : St) (H : Hp) (E : Value → Shared → Prop), Inv X pins σ H s → (∀ b ∈ fp, FpOk X pins H b) → tn i s.heap → J.stop i H →
    wpAny (model P w) X.A (pyNext (.ref it)) (fun r s1 => r = none ∧ Inv X pins σ H s1) E s
  self : ∀ (A : Around) (i : Nat) (s : Shared) (Q : Value → Shared → Prop) (E : Value → Shared → Prop), tn i s.heap → Q (.ref it) s → wpAny (model P w) A (pyIter (.ref it)) Q E s
abbrev TI := St → Hp → (It → Hp → Prop) → Prop
/-- an iterator has come -/
def PIE (X : Cx) (pins : List (Addr × Obj)) (σ : St) (tg : Expr) (R : It → Hp → Prop) (itv : Value) (s2 : Shared) : Prop :=
  ∃ (it : Addr) (fp : List Addr) (tn : Nat → Heap → Prop) (J : It) (H' : Hp), itv = .ref it ∧ Inv X pins σ H' s2 ∧ Turn X.prog X.w X.K tg J fp it tn ∧ tn 0 s2.heap ∧ (∀ b ∈ fp, FpOk X pins H' b) ∧ R J H'
def PI (X : Cx) (tg iter : Expr) (wi : TI) : Prop :=
  ∀ (pins : List (Addr × Obj)) (s : Shared) (σ : St) (H : Hp) (R : It → Hp → Prop), Inv X pins σ H s → wi σ H R →
    wpAny (model X.prog X.w) X.A (eval iter X.env) (fun v s1 => wpAny (model X.prog X.w) X.A (pyIter v) (PIE X pins σ tg R) X.xe s1) X.xe s

/-- the step ahead of the store is nothing for an iterator that keeps no tuple -/
theorem go_of {M : Model} {A : Around} {E : Value → Shared → Prop} {s : Shared} {tg : Expr} {it : Addr} {u : Value} {o : Obj} {n : String} {vs : Array Value} {Q : Unit → Shared → Prop} (ho : s.heap.get? it = some o) (hc : o.cls = .type n) (hd : o.data = .fields vs)
    (hn : ["enumerate", "zip", "dict_itemiterator", "dict_reverseitemiterator", "odict_iterator", "itertools.zip_longest", "itertools.pairwise"].contains n = false) (hQ : Q () s) : wpAny M A (letOwnedTupleGo tg (.ref it) u) Q E s := by
  unfold letOwnedTupleGo
  cases tg <;> first
    | exact wpAny_pure hQ
    | (cases u <;> first
        | exact wpAny_pure hQ
        | (refine wpAny_bind (wpAny_load ho ?_)
           rw [hc, hd]
           show wpAny M A (if (["enumerate", "zip", "dict_itemiterator", "dict_reverseitemiterator", "odict_iterator", "itertools.zip_longest", "itertools.pairwise"].contains n && vs[0]? == some (rawInt _)) = true then _ else _) Q E s
           rw [if_neg (by intro h; rw [hn, Bool.false_and] at h; cases h)]
           exact wpAny_pure hQ))

/-- the list at a, as it stands at each turn (a loop may append to it) -/
def Itl (K : PySem.W.Frag) (a : Addr) : It :=
  ⟨fun i H => ∃ xs x, SqL K H a xs ∧ xs[i]? = some x, fun i H x H' => H' = H ∧ ∀ xs, SqL K H a xs → xs[i]? = some x, fun i H => ∃ xs, SqL K H a xs ∧ xs.length ≤ i⟩
def Itt (K : PySem.W.Frag) (a : Addr) : It :=
  ⟨fun i H => ∃ xs x, SqT K H a xs ∧ xs[i]? = some x, fun i H x H' => H' = H ∧ ∀ xs, SqT K H a xs → xs[i]? = some x, fun i H => ∃ xs, SqT K H a xs ∧ xs.length ≤ i⟩
/-- lo, lo + 1, .. (n of them) -/
def Itr (lo : Int) (n : Nat) : It := ⟨fun i _ => i < n, fun i H x H' => H' = H ∧ x = .int (lo + i), fun i _ => n ≤ i⟩
theorem turn_list {P : Program} {w : World} {K : PySem.W.Frag} {tg : Expr} (a it : Addr) : Turn P w K tg (Itl K a) [it] it (fun i h => h.IsListIter it a i) where
  mem := by simp
  obj := fun i h st b hb => by
    have e : b = it := by simpa using hb
    subst e
    obtain ⟨o, e, c, d⟩ := st
    exact ⟨o, e, fun v z => by rw [d] at z; cases z⟩
  keep := fun i h h' st k => st.at fun o e => k it (by simp) o e
  item := by
    intro X hP hw hK hc i pins s σ H E I hf st hg
    subst hP hw hK
    obtain ⟨xs, x, hq, hx⟩ := hg
    obtain ⟨its, rv, p, hz⟩ := I.list hq
    obtain ⟨u, hu, ru⟩ := rv.get hx
    obtain ⟨f0, f1, f2, f3, f4, f5⟩ := hf it (by simp)
    refine wpAny_pyNext_list_item st p.isList (x := u) (by simpa using hu) fun h' st' sb => ?_
    have I1 : Inv X pins σ H { s with heap := h' } := I.turned (t' := s.toks) (fun b o hb e => (sb.2 b hb).trans e) f0 f1 f3 f4 f5
    obtain ⟨o, e, c, d⟩ := id st'
    exact ⟨u, rfl, go_of (s := { s with heap := h' }) e c d (by decide) ⟨x, H, I1, ru, ⟨rfl, fun ys hy => by rw [I.list_inj hy hq]; exact hx⟩, st', fun b hb => (hf b hb).1⟩⟩
  done := by
    intro X hP hw hK hc i pins s σ H E I hf st hg
    subst hP hw hK
    obtain ⟨xs, hq, hx⟩ := hg
    obtain ⟨its, rv, p, hz⟩ := I.list hq
    obtain ⟨f0, f1, f2, f3, f4, f5⟩ := hf it (by simp)
    have hl := rv.length
    exact wpAny_pyNext_list_end (I.ok.hd hc) st p.isList (by simp; omega) fun h' eb => ⟨rfl, I.turned (t' := s.toks) (fun b o hb e => eb b o hb e) f0 f1 f3 f4 f5⟩
  self := fun _ _ _ _ _ st h => wpAny_pyIter_listiter st h
theorem turn_tuple {P : Program} {w : World} {K : PySem.W.Frag} {tg : Expr} (a it : Addr) : Turn P w K tg (Itt K a) [it] it (fun i h => h.IsTupleIter it a i) where
  mem := by simp
  obj := fun i h st b hb => by
    have e : b = it := by simpa using hb
    subst e
    obtain ⟨o, e, c, d⟩ := st
    exact ⟨o, e, fun v z => by rw [d] at z; cases z⟩
  keep := fun i h h' st k => st.at fun o e => k it (by simp) o e
  item := by
    intro X hP hw hK hc i pins s σ H E I hf st hg
    subst hP hw hK
    obtain ⟨xs, x, hq, hx⟩ := hg
    obtain ⟨its, rv, p, hz⟩ := I.tuple hq
    obtain ⟨u, hu, ru⟩ := rv.get hx
    obtain ⟨f0, f1, f2, f3, f4, f5⟩ := hf it (by simp)
    refine wpAny_pyNext_tuple_item st (show s.heap.IsTuple a its.toArray from p) (x := u) (by simpa using hu) fun h' st' sb => ?_
    have I1 : Inv X pins σ H { s with heap := h' } := I.turned (t' := s.toks) (fun b o hb e => (sb.2 b hb).trans e) f0 f1 f3 f4 f5
    obtain ⟨o, e, c, d⟩ := id st'
    exact ⟨u, rfl, go_of (s := { s with heap := h' }) e c d (by decide) ⟨x, H, I1, ru, ⟨rfl, fun ys hy => by rw [I.tuple_inj hy hq]; exact hx⟩, st', fun b hb => (hf b hb).1⟩⟩
  done := by
    intro X hP hw hK hc i pins s σ H E I hf st hg
    subst hP hw hK
    obtain ⟨xs, hq, hx⟩ := hg
    obtain ⟨its, rv, p, hz⟩ := I.tuple hq
    obtain ⟨f0, f1, f2, f3, f4, f5⟩ := hf it (by simp)
    have hl := rv.length
    exact wpAny_pyNext_tuple_end (I.ok.hd hc) st (show s.heap.IsTuple a its.toArray from p) (by simp; omega) fun h' eb => ⟨rfl, I.turned (t' := s.toks) (fun b o hb e => eb b o hb e) f0 f1 f3 f4 f5⟩
  self := fun _ _ _ _ _ st h => wpAny_pyIter_tupleiter st h
theorem turn_range {P : Program} {w : World} {K : PySem.W.Frag} {tg : Expr} (it : Addr) (lo : Int) (n : Nat) : Turn P w K tg (Itr lo n) [it] it (fun i h => IsRangeIter h it (lo + (i : Nat) * 1) ((n : Int) - (i : Nat)) 1) where
  mem := by simp
  obj := fun i h st b hb => by
    have e : b = it := by simpa using hb
    subst e
    exact ⟨_, st, fun v z => by
      have z' : Data.fields _ = Data.cell v := z
      cases z'⟩
  keep := fun i h h' st k => k it (by simp) _ st
  item := by
    intro X hP hw hK hc i pins s σ H E I hf st hg
    subst hP hw hK
    obtain ⟨f0, f1, f2, f3, f4, f5⟩ := hf it (by simp)
    have W := Walks.range (prog := X.prog) (w := X.w) (I.ok.hd hc) it lo 1 n
    refine W.item i s _ _ hg st fun v h' tk hv st' kk => ?_
    obtain ⟨t, rfl⟩ := hv
    have I1 : Inv X pins σ H { s with heap := h', toks := tk } := I.turned (fun b o hb e => kk b o (by simpa using hb) e) f0 f1 f3 f4 f5
    refine ⟨_, rfl, go_of (s := { s with heap := h', toks := tk }) (n := "range_iterator") st' rfl rfl (by decide) ⟨.int (lo + i), H, I1, ⟨t, ?_⟩, ⟨rfl, rfl⟩, st', fun b hb => (hf b hb).1⟩⟩
    rw [Int.mul_one]
  done := by
    intro X hP hw hK hc i pins s σ H E I hf st hg
    subst hP hw hK
    obtain ⟨f0, f1, f2, f3, f4, f5⟩ := hf it (by simp)
    exact wpAny_pyNext_range_end (I.ok.hd hc) st (by have : n ≤ i := hg; omega) fun h' eb => ⟨rfl, I.turned (t' := s.toks) (fun b o hb e => eb b o hb e) f0 f1 f3 f4 f5⟩
  self := fun _ _ _ _ _ st h => wpAny_pyIter_rangeiter st h
end L2

namespace L2
open PySem PySem.Spec PyProof.Rows
section
variable {X : Cx} {tg : Expr}
/-- a range object just made, walked -/
theorem range_it {pins : List (Addr × Obj)} {σ : St} {H : Hp} {s : Shared} {R : It → Hp → Prop} {E : Value → Shared → Prop} {lo hi : Int} {t u v : Tok} {tk : Nat} (I : Inv X pins σ H s) (h1 : -(2 ^ 62) ≤ lo) (h2 : lo < 2 ^ 62) (h3 : -(2 ^ 62) ≤ hi) (h4 : hi < 2 ^ 62)
    (q : R (Itr lo (hi - lo).toNat) H) : wpAny (model X.prog X.w) X.A (pyIter (.ref s.heap.objs.size)) (PIE X pins σ tg R) E { s with heap := s.heap.push { cls := .type "range", data := .fields #[.int lo t, .int hi u, .int 1 v] }, toks := tk } := by
  refine wpAny_pyIter_range (IsRange.new ..) (small_one h1 h2 h3 h4) ?_
  have I1 : Inv X pins σ H { s with heap := s.heap.push { cls := .type "range", data := .fields #[.int lo t, .int hi u, .int 1 v] }, toks := tk } := I.kept fun b o e => Heap.get?_push_of_some _ e
  refine ⟨(s.heap.push { cls := .type "range", data := .fields #[.int lo t, .int hi u, .int 1 v] }).objs.size, [(s.heap.push { cls := .type "range", data := .fields #[.int lo t, .int hi u, .int 1 v] }).objs.size], _, _, H, rfl,
    I1.kept (t' := tk) fun b o e => Heap.get?_push_of_some _ e, turn_range _ lo (hi - lo).toNat, ?_, fun b hb => ?_, q⟩
  · have e1 : lo + ((0 : Nat) : Int) * 1 = lo := by simp
    have e2 : (((hi - lo).toNat : Nat) : Int) - ((0 : Nat) : Int) = Builtin.Range.rangeSize lo hi 1 := by rw [rangeSize_one]; split <;> omega
    show IsRangeIter _ _ (lo + ((0 : Nat) : Int) * 1) ((((hi - lo).toNat : Nat) : Int) - ((0 : Nat) : Int)) 1
    rw [e1, e2]
    exact Heap.get?_push_size _ rfl
  · have e : b = (s.heap.push { cls := .type "range", data := .fields #[.int lo t, .int hi u, .int 1 v] }).objs.size := by simpa using hb
    subst e
    exact I1.fpOk (Nat.le_refl _) (I1.hok.fresh (Nat.le_refl _))
/-! ### for -/
/-- W: the invariant by the turn and a measure; N: what the body is to reach -/
def tFor (wi : TI) (g : TG) (tb : TS) : TS := fun D σ H => wi σ H fun J H1 => ∃ W : Nat → Nat → St → Hp → Prop, (∃ m, W 0 m σ H1) ∧ ∀ i m σ H, W i m σ H →
  (J.stop i H ∧ D.nx σ H) ∨ (J.go i H ∧ ∃ N : St → Hp → Prop, (∀ σ' H', N σ' H' → ∃ m', m' < m ∧ W (i + 1) m' σ' H') ∧ ∀ x H', J.yld i H x H' → g x σ H' fun σ2 H2 => tb { D with nx := N, ct := N, bk := D.nx } σ2 H2)
/-- the records at fp as they stand -/
def pinsAt (fp : List Addr) (h : Heap) : List (Addr × Obj) := fp.filterMap fun b => (h.get? b).map fun o => (b, o)
theorem mem_pinsAt {fp : List Addr} {h : Heap} {b : Addr} {o : Obj} (hb : b ∈ fp) (e : h.get? b = some o) : (b, o) ∈ pinsAt fp h := List.mem_filterMap.mpr ⟨b, hb, by rw [e]; rfl⟩
theorem of_pinsAt {fp : List Addr} {h : Heap} {p : Addr × Obj} (hp : p ∈ pinsAt fp h) : p.1 ∈ fp ∧ h.get? p.1 = some p.2 := by
  obtain ⟨b, hb, e⟩ := List.mem_filterMap.mp hp
  cases q : h.get? b with
  | none => rw [q] at e; cases e
  | some o =>
    rw [q] at e
    have e' : (b, o) = p := Option.some.inj e
    subst e'
    exact ⟨hb, q⟩
theorem Inv.pinned {pins : List (Addr × Obj)} {σ : St} {H : Hp} {s : Shared} {fp : List Addr} (I : Inv X pins σ H s) (hf : ∀ b ∈ fp, FpOk X pins H b) (ho : ∀ b ∈ fp, ∃ o, s.heap.get? b = some o ∧ ∀ v, o.data ≠ .cell v) : Inv X (pins ++ pinsAt fp s.heap) σ H s :=
  I.pins_of fun p hp => (List.mem_append.mp hp).elim (fun z => I.pin p (List.mem_append_right _ z)) fun z => by
    obtain ⟨hb, e⟩ := of_pinsAt z
    obtain ⟨f0, f1, f2, _⟩ := hf p.1 hb
    obtain ⟨o, e', d⟩ := ho p.1 hb
    rw [e] at e'; cases e'
    exact ⟨e, f0, f1, f2, d⟩
theorem Inv.unpinned {pins pl : List (Addr × Obj)} {σ : St} {H : Hp} {s : Shared} (I : Inv X (pins ++ pl) σ H s) : Inv X pins σ H s := I.pins_of fun p hp => I.pin p (List.mem_append_right _ (List.mem_append_left _ hp))
theorem ps_for {iter : Expr} {body : List Stmt} {wi : TI} {g : TG} {tb : TS} {pos : Pos} (hp : PassesOwn (model X.prog X.w) X.A X.env X.xe) (hc : X.calm = true) (hi : PI X tg iter wi) (hg : PG X tg g) (hb : PSs X body tb)
    (hs : ∀ x, foldedSetIterable iter X.env x = pure x := by intro _; rfl) : PS X (.For tg iter body [] pos) (tFor wi g tb) := by
  intro pins s σ H D I h
  refine wpAny_For (thn (hi pins s σ H _ I h) fun v s1 h1 => thn h1 fun itv s2 h2 => ?_) hs
  obtain ⟨it, fp, tn, J, H2, e, I2, T, st2, f2, W, ⟨m0, w0⟩, turn⟩ := h2
  subst e
  -- what stays true of the iterator's objects through the loop
  have stat : ∀ {H' : Hp}, (∀ b ∈ fp, H' b = none) → ∀ b ∈ fp, FpOk X pins H' b := fun hn b hb => ⟨hn b hb, (f2 b hb).2⟩
  refine codeAny_forLoop_any (fun n s' => ∃ i σ' H', Inv X pins σ' H' s' ∧ tn i s'.heap ∧ (∀ b ∈ fp, H' b = none) ∧ W i n σ' H') ?_ m0 ⟨0, σ, H2, I2, st2, fun b hb => (f2 b hb).1, w0⟩
  rintro n s3 ⟨i, σ3, H3, I3, st3, fr3, w3⟩
  rcases turn i n σ3 H3 w3 with ⟨stop, qn⟩ | ⟨go, N, hN, step⟩
  · refine wpAny_passesOwn hp (thn (T.done X rfl rfl rfl hc i pins s3 σ3 H3 X.xe I3 (stat fr3) st3 stop) fun r s4 ⟨hr, I4⟩ => ?_)
    subst hr
    exact wpAny_execs_nil ⟨σ3, H3, I4, qn⟩
  · refine wpAny_passesOwn hp (thn (T.item X rfl rfl rfl hc i pins s3 σ3 H3 X.xe I3 (stat fr3) st3 go) fun r s4 ⟨u, hr, h4⟩ => ?_)
    subst hr
    refine wpAny_passesOwn hp (thn h4 fun _ s5 ⟨x, H5, I5, r5, y5, st5, fr5⟩ => ?_)
    have I5' := I5.pinned (stat fr5) (T.obj _ _ st5)
    refine wpAny_passesOwn hp (thn (hg _ s5 σ3 H5 x u _ I5' r5 (step x H5 y5)) fun _ s6 ⟨σ6, H6, I6, q6⟩ => ?_)
    refine wpAny_passesOwn hp (thn (hb _ s6 σ6 H6 _ I6 q6) fun f s7 q7 => ?_)
    have again : ∀ {σ7 : St} {H7 : Hp}, Inv X (pins ++ pinsAt fp s5.heap) σ7 H7 s7 → N σ7 H7 → ∃ m, m < n ∧ ∃ i σ' H', Inv X pins σ' H' s7 ∧ tn i s7.heap ∧ (∀ b ∈ fp, H' b = none) ∧ W i m σ' H' := fun {σ7 H7} I7 n7 => by
      obtain ⟨m', hm, w7⟩ := hN σ7 H7 n7
      refine ⟨m', hm, i + 1, σ7, H7, I7.unpinned, T.keep _ _ _ st5 fun b hb o e => (I7.pin (b, o) (List.mem_append_right _ (List.mem_append_right _ (mem_pinsAt hb e)))).1, fun b hb => ?_, w7⟩
      obtain ⟨o, e, d⟩ := T.obj _ _ st5 b hb
      exact (I7.pin (b, o) (List.mem_append_right _ (List.mem_append_right _ (mem_pinsAt hb e)))).2.1
    cases f with
    | next => obtain ⟨σ7, H7, I7, n7⟩ := q7; exact again I7 n7
    | cont => obtain ⟨σ7, H7, I7, n7⟩ := q7; exact again I7 n7
    | brk => obtain ⟨σ7, H7, I7, q7⟩ := q7; exact ⟨σ7, H7, I7.unpinned, q7⟩
    | ret v => obtain ⟨x7, σ7, H7, I7, r7, q7⟩ := q7; exact ⟨x7, σ7, H7, I7.unpinned, r7, q7⟩
end

/-! ### the forms one uses -/
/-- over a list that the body leaves as it is -/
theorem for_list {K : PySem.W.Frag} {a : Addr} {xs : List V} {g : TG} {tb : TS} {D : Ends} {σ : St} {H : Hp} (Pv : Nat → St → Hp → Prop) (h0 : Pv 0 σ H) (hl : ∀ i σ H, i ≤ xs.length → Pv i σ H → SqL K H a xs)
    (hs : ∀ i x σ H, xs[i]? = some x → Pv i σ H → g x σ H fun σ2 H2 => tb { D with nx := Pv (i + 1), ct := Pv (i + 1), bk := D.nx } σ2 H2) (hd : ∀ σ H, Pv xs.length σ H → D.nx σ H) :
    ∃ W : Nat → Nat → St → Hp → Prop, (∃ m, W 0 m σ H) ∧ ∀ i m σ H, W i m σ H →
      ((Itl K a).stop i H ∧ D.nx σ H) ∨ ((Itl K a).go i H ∧ ∃ N : St → Hp → Prop, (∀ σ' H', N σ' H' → ∃ m', m' < m ∧ W (i + 1) m' σ' H') ∧ ∀ x H', (Itl K a).yld i H x H' → g x σ H' fun σ2 H2 => tb { D with nx := N, ct := N, bk := D.nx } σ2 H2) := by
  refine ⟨fun i m σ H => m = xs.length - i ∧ i ≤ xs.length ∧ Pv i σ H, ⟨xs.length, by simp, Nat.zero_le _, h0⟩, ?_⟩
  rintro i m σ H ⟨rfl, hi, p⟩
  have q := hl i σ H hi p
  by_cases hlt : i < xs.length
  · refine .inr ⟨⟨xs, xs[i], q, by simp [hlt]⟩, Pv (i + 1), fun σ' H' p' => ⟨xs.length - (i + 1), by omega, rfl, hlt, p'⟩, fun x H' y => ?_⟩
    obtain ⟨e, y⟩ := y
    subst e
    exact hs i x σ _ (y xs q) p
  · have e : i = xs.length := by omega
    subst e
    exact .inl ⟨⟨xs, q, Nat.le_refl _⟩, hd σ H p⟩
theorem for_range {lo : Int} {n : Nat} {g : TG} {tb : TS} {D : Ends} {σ : St} {H : Hp} (Pv : Nat → St → Hp → Prop) (h0 : Pv 0 σ H)
    (hs : ∀ i σ H, i < n → Pv i σ H → g (.int (lo + i)) σ H fun σ2 H2 => tb { D with nx := Pv (i + 1), ct := Pv (i + 1), bk := D.nx } σ2 H2) (hd : ∀ σ H, Pv n σ H → D.nx σ H) :
    ∃ W : Nat → Nat → St → Hp → Prop, (∃ m, W 0 m σ H) ∧ ∀ i m σ H, W i m σ H →
      ((Itr lo n).stop i H ∧ D.nx σ H) ∨ ((Itr lo n).go i H ∧ ∃ N : St → Hp → Prop, (∀ σ' H', N σ' H' → ∃ m', m' < m ∧ W (i + 1) m' σ' H') ∧ ∀ x H', (Itr lo n).yld i H x H' → g x σ H' fun σ2 H2 => tb { D with nx := N, ct := N, bk := D.nx } σ2 H2) := by
  refine ⟨fun i m σ H => m = n - i ∧ i ≤ n ∧ Pv i σ H, ⟨n, by simp, Nat.zero_le _, h0⟩, ?_⟩
  rintro i m σ H ⟨rfl, hi, p⟩
  by_cases hlt : i < n
  · refine .inr ⟨hlt, Pv (i + 1), fun σ' H' p' => ⟨n - (i + 1), by omega, rfl, hlt, p'⟩, fun x H' y => ?_⟩
    obtain ⟨e, y⟩ := y
    subst e y
    exact hs i σ _ hlt p
  · have e : i = n := by omega
    subst e
    exact .inl ⟨Nat.le_refl _, hd σ H p⟩
end L2

namespace L2
open PySem PySem.Spec PyProof.Rows

abbrev R2 := V → V → Hp → VK → Prop
/-- a two-place operation on values: f is binaryOp op, inplaceOp op or compareOp op -/
def OpR (X : Cx) (f : Value → Value → Sem Value) (r : R2) : Prop :=
  ∀ (pins : List (Addr × Obj)) (s : Shared) (σ : St) (H : Hp) (x y : V) (v u : Value) (Q : VK), Inv X pins σ H s → RelV x v → RelV y u → r x y H Q →
    wpAny (model X.prog X.w) X.A (f v u) (EP X pins σ Q) X.xe s
/-- a one-place operation -/
def UnR (X : Cx) (f : Value → Sem Value) (r : V → Hp → VK → Prop) : Prop :=
  ∀ (pins : List (Addr × Obj)) (s : Shared) (σ : St) (H : Hp) (x : V) (v : Value) (Q : VK), Inv X pins σ H s → RelV x v → r x H Q →
    wpAny (model X.prog X.w) X.A (f v) (EP X pins σ Q) X.xe s
/-- a call of a value that is known (a builtin, a type) with values -/
def CallR (X : Cx) (f : Value) (r : List V → Hp → VK → Prop) : Prop :=
  ∀ (pins : List (Addr × Obj)) (s : Shared) (σ : St) (H : Hp) (xs : List V) (us : List Value) (Q : VK), Inv X pins σ H s → Vals xs us → r xs H Q →
    wpAny (model X.prog X.w) X.A (call f us) (EP X pins σ Q) X.xe s
/-- a value's truth -/
def TruR (X : Cx) (r : V → Hp → (Bool → Hp → Prop) → Prop) : Prop :=
  ∀ (pins : List (Addr × Obj)) (s : Shared) (σ : St) (H : Hp) (x : V) (v : Value) (Q : Bool → Hp → Prop), Inv X pins σ H s → RelV x v → r x H Q →
    wpAny (model X.prog X.w) X.A (truthy v) (TP X pins σ Q) X.xe s

def tOp (r : R2) (ta tb : TE) : TE := fun σ H Q => ta σ H fun x H1 => tb σ H1 fun y H2 => r x y H2 Q
def tUn (r : V → Hp → VK → Prop) (ta : TE) : TE := fun σ H Q => ta σ H fun x H1 => r x H1 Q
/-- ints in, under C, and a value out -/
def rI (C : Int → Int → Prop) (g : Int → Int → V) : R2 := fun x y H Q => ∃ i j, x = .int i ∧ y = .int j ∧ C i j ∧ Q (g i j) H
def rI0 (g : Int → Int → V) : R2 := fun x y H Q => ∃ i j, x = .int i ∧ y = .int j ∧ Q (g i j) H
def rU (g : Int → V) : V → Hp → VK → Prop := fun x H Q => ∃ i, x = .int i ∧ Q (g i) H

section
variable {X : Cx} {a b c : Expr} {ta tb tc : TE} {pos : Pos}

theorem binT (ha : PE X a ta) (hb : PE X b tb) {pins : List (Addr × Obj)} {s : Shared} {σ : St} {H : Hp} {R : V → V → Hp → Prop} (I : Inv X pins σ H s)
    (h : ta σ H fun x H1 => tb σ H1 fun y H2 => R x y H2) {Q : Value → Shared → Prop} {f : Value → Value → Sem Value}
    (hf : ∀ v u s2 x y H2, Inv X pins σ H2 s2 → RelV x v → RelV y u → R x y H2 → wpAny (model X.prog X.w) X.A (f v u) Q X.xe s2) :
    wpAny (model X.prog X.w) X.A (eval a X.env) (fun v s₁ => wpAny (model X.prog X.w) X.A (eval b X.env) (fun u s₂ => wpAny (model X.prog X.w) X.A (f v u) Q X.xe s₂) X.xe s₁) X.xe s := by
  refine thn (ha pins s σ H _ I h) fun v s1 ⟨x, H1, I1, r1, q1⟩ => ?_
  refine thn (hb pins s1 σ H1 _ I1 q1) fun u s2 ⟨y, H2, I2, r2, q2⟩ => ?_
  exact hf v u s2 x y H2 I2 r1 r2 q2

theorem pe_op {op : Operator} {r : R2} (ho : OpR X (binaryOp op) r) (ha : PE X a ta) (hb : PE X b tb) : PE X (.BinOp a op b pos) (tOp r ta tb) := by
  intro pins s σ H Q I h
  exact wpAny_BinOp (binT ha hb I h fun v u s2 x y H2 I2 rx ry q => ho pins s2 σ H2 x y v u Q I2 rx ry q)
theorem pe_un {op : UnaryOp} {r : V → Hp → VK → Prop} (ho : UnR X (unaryOp op) r) (ha : PE X a ta) : PE X (.UnaryOp op a pos) (tUn r ta) := by
  intro pins s σ H Q I h
  exact UnaryOp_ (thn (ha pins s σ H _ I h) fun v s1 ⟨x, H1, I1, r1, q1⟩ => ho pins s1 σ H1 x v Q I1 r1 q1)
/-! ### ints -/
theorem opI {f : Value → Value → Sem Value} {C : Int → Int → Prop} {g : Int → Int → Int}
    (rule : ∀ (i j : Int) (t u : Tok) (s : Shared) (Q : Value → Shared → Prop) (E : Value → Shared → Prop), C i j → Q (.int (g i j) s.toks) { s with toks := s.toks + 1 } → wpAny (model X.prog X.w) X.A (f (.int i t) (.int j u)) Q E s) :
    OpR X f (rI C fun i j => .int (g i j)) := by
  intro pins s σ H x y v u Q I rx ry h
  obtain ⟨i, j, rfl, rfl, hc, q⟩ := h
  obtain ⟨t, rfl⟩ := rx
  obtain ⟨t', rfl⟩ := ry
  exact rule i j t t' s _ _ hc ⟨.int (g i j), H, I.tok _, ⟨_, rfl⟩, q⟩
theorem opI0 {f : Value → Value → Sem Value} {g : Int → Int → Int}
    (rule : ∀ (i j : Int) (t u : Tok) (s : Shared) (Q : Value → Shared → Prop) (E : Value → Shared → Prop), Q (.int (g i j) s.toks) { s with toks := s.toks + 1 } → wpAny (model X.prog X.w) X.A (f (.int i t) (.int j u)) Q E s) :
    OpR X f (rI0 fun i j => .int (g i j)) := by
  intro pins s σ H x y v u Q I rx ry h
  obtain ⟨i, j, rfl, rfl, q⟩ := h
  obtain ⟨t, rfl⟩ := rx
  obtain ⟨t', rfl⟩ := ry
  exact rule i j t t' s _ _ ⟨.int (g i j), H, I.tok _, ⟨_, rfl⟩, q⟩
theorem opB0 {f : Value → Value → Sem Value} {g : Int → Int → Bool}
    (rule : ∀ (i j : Int) (t u : Tok) (s : Shared) (Q : Value → Shared → Prop) (E : Value → Shared → Prop), Q (.bool (g i j)) s → wpAny (model X.prog X.w) X.A (f (.int i t) (.int j u)) Q E s) :
    OpR X f (rI0 fun i j => .bl (g i j)) := by
  intro pins s σ H x y v u Q I rx ry h
  obtain ⟨i, j, rfl, rfl, q⟩ := h
  obtain ⟨t, rfl⟩ := rx
  obtain ⟨t', rfl⟩ := ry
  exact rule i j t t' s _ _ ⟨.bl (g i j), H, I, rfl, q⟩

def CPow (i j : Int) : Prop := 0 ≤ j ∧ j ≤ 1000000 ∧ i.natAbs < 2 ^ 64
theorem op_add : OpR X (binaryOp .Add) (rI0 fun i j => .int (i + j)) := opI0 fun _ _ _ _ _ _ _ q => add_int q
theorem op_sub : OpR X (binaryOp .Sub) (rI0 fun i j => .int (i - j)) := opI0 fun _ _ _ _ _ _ _ q => sub_int q
theorem op_modN : OpR X (binaryOp .Mod) (rI (fun _ j => j ≠ 0) fun i j => .int (i.fmod j)) := opI fun _ _ _ _ _ _ _ hc q => mod_int' hc q
theorem op_pow : OpR X (binaryOp .Pow) (rI CPow fun i j => .int (i ^ j.toNat)) := opI fun _ _ _ _ _ _ _ hc q => pow_int_small hc.1 hc.2.1 hc.2.2 q
theorem unI {f : Value → Sem Value} {g : Int → Int}
    (rule : ∀ (i : Int) (t : Tok) (s : Shared) (Q : Value → Shared → Prop) (E : Value → Shared → Prop), Q (.int (g i) s.toks) { s with toks := s.toks + 1 } → wpAny (model X.prog X.w) X.A (f (.int i t)) Q E s) :
    UnR X f (rU fun i => .int (g i)) := by
  intro pins s σ H x v Q I rx h
  obtain ⟨i, rfl, q⟩ := h
  obtain ⟨t, rfl⟩ := rx
  exact rule i t s _ _ ⟨.int (g i), H, I.tok _, ⟨_, rfl⟩, q⟩
theorem un_neg : UnR X (unaryOp .USub) (rU fun i => .int (-i)) := unI fun _ _ _ _ _ q => neg_int q
/-! ### bools among ints: n += (a < b) -/
end

/-! ### comparisons -/
/-- the scalars that == tells apart as data does -/
def scal : V → V → Bool
  | .non, .non => true | .non, .int _ => true | .int _, .non => true | .non, .bl _ => true | .bl _, .non => true | .non, .str _ => true | .str _, .non => true
  | .int _, .int _ => true | .bl _, .bl _ => true | .str _, .str _ => true | .byt _, .byt _ => true
  | .int _, .str _ => true | .str _, .int _ => true | .bl _, .str _ => true | .str _, .bl _ => true
  | _, _ => false
def rEq : R2 := fun x y H Q => scal x y = true ∧ Q (.bl (decide (x = y))) H
def rNe : R2 := fun x y H Q => scal x y = true ∧ Q (.bl (!decide (x = y))) H

theorem dec_int {i j : Int} : decide (V.int i = V.int j) = (i == j) := by
  rw [Bool.eq_iff_iff]
  simp
theorem dec_bl {i j : Bool} : decide (V.bl i = V.bl j) = (i == j) := by
  rw [Bool.eq_iff_iff]
  simp
theorem dec_str {i j : Str} : decide (V.str i = V.str j) = (i == j) := by
  rw [Bool.eq_iff_iff]
  simp
theorem dec_byt {i j : Array UInt8} : decide (V.byt i = V.byt j) = (i.toList == j.toList) := by
  rw [Bool.eq_iff_iff]
  cases i
  cases j
  simp

section
variable {X : Cx} {a b c : Expr} {ta tb tc : TE} {pos : Pos}
theorem fin_bl {pins : List (Addr × Obj)} {σ : St} {H : Hp} {s : Shared} {Q : VK} {k k' : Bool} (I : Inv X pins σ H s) (q : Q (.bl k) H) (e : k = k') : EP X pins σ Q (.bool k') s := by
  subst e
  exact ⟨.bl k, H, I, rfl, q⟩
theorem op_eq : OpR X (compareOp .Eq) rEq := by
  intro pins s σ H x y v u Q I rx ry h
  obtain ⟨hs, q⟩ := h
  cases x with
  | non =>
    cases rx
    cases y with
    | non => cases ry; exact PySem.EqNone.eq_none_none (fin_bl I q (by simp))
    | bl j => cases ry; exact PySem.EqNone.eq_none_bool (fin_bl I q (by simp))
    | int j => obtain ⟨t', rfl⟩ := ry; exact PySem.EqNone.eq_none_int (fin_bl I q (by simp))
    | str j => obtain ⟨t', rfl⟩ := ry; exact PySem.EqNone.eq_none_str (fin_bl I q (by simp))
    | _ => exact absurd (show false = true from hs) Bool.false_ne_true
  | bl i =>
    cases rx
    cases y with
    | non => cases ry; exact PySem.EqNone.eq_bool_none (fin_bl I q (by simp))
    | bl j => cases ry; exact eq_bool (fin_bl I q dec_bl)
    | str j => obtain ⟨t', rfl⟩ := ry; exact PySem.EqMixed.eq_bool_str (fin_bl I q (by simp))
    | _ => exact absurd (show false = true from hs) Bool.false_ne_true
  | int i =>
    obtain ⟨t, rfl⟩ := rx
    cases y with
    | non => cases ry; exact PySem.EqNone.eq_int_none (fin_bl I q (by simp))
    | int j => obtain ⟨t', rfl⟩ := ry; exact eq_int (fin_bl I q dec_int)
    | str j => obtain ⟨t', rfl⟩ := ry; exact PySem.EqMixed.eq_int_str (fin_bl I q (by simp))
    | _ => exact absurd (show false = true from hs) Bool.false_ne_true
  | str i =>
    obtain ⟨t, rfl⟩ := rx
    cases y with
    | non => cases ry; exact PySem.EqNone.eq_str_none (fin_bl I q (by simp))
    | bl j => cases ry; exact PySem.EqMixed.eq_str_bool (fin_bl I q (by simp))
    | int j => obtain ⟨t', rfl⟩ := ry; exact PySem.EqMixed.eq_str_int (fin_bl I q (by simp))
    | str j => obtain ⟨t', rfl⟩ := ry; exact eq_str (fin_bl I q dec_str)
    | _ => exact absurd (show false = true from hs) Bool.false_ne_true
  | byt i =>
    obtain ⟨t, rfl⟩ := rx
    cases y with
    | byt j => obtain ⟨t', rfl⟩ := ry; exact PySem.W.eq_bytes (fin_bl I q dec_byt)
    | _ => exact absurd (show false = true from hs) Bool.false_ne_true
  | _ => cases y <;> exact absurd (show false = true from hs) Bool.false_ne_true
theorem op_ne : OpR X (compareOp .NotEq) rNe := by
  intro pins s σ H x y v u Q I rx ry h
  obtain ⟨hs, q⟩ := h
  cases x with
  | non =>
    cases rx
    cases y with
    | non => cases ry; exact PySem.EqNone.ne_none_none (fin_bl I q (by simp))
    | bl j => cases ry; exact PySem.EqNone.ne_none_bool (fin_bl I q (by simp))
    | int j => obtain ⟨t', rfl⟩ := ry; exact PySem.EqNone.ne_none_int (fin_bl I q (by simp))
    | str j => obtain ⟨t', rfl⟩ := ry; exact PySem.EqNone.ne_none_str (fin_bl I q (by simp))
    | _ => exact absurd (show false = true from hs) Bool.false_ne_true
  | bl i =>
    cases rx
    cases y with
    | non => cases ry; exact PySem.EqNone.ne_bool_none (fin_bl I q (by simp))
    | bl j => cases ry; exact ne_bool (fin_bl I q (congrArg not dec_bl))
    | str j => obtain ⟨t', rfl⟩ := ry; exact PySem.EqMixed.ne_bool_str (fin_bl I q (by simp))
    | _ => exact absurd (show false = true from hs) Bool.false_ne_true
  | int i =>
    obtain ⟨t, rfl⟩ := rx
    cases y with
    | non => cases ry; exact PySem.EqNone.ne_int_none (fin_bl I q (by simp))
    | int j => obtain ⟨t', rfl⟩ := ry; exact ne_int (fin_bl I q (congrArg not dec_int))
    | str j => obtain ⟨t', rfl⟩ := ry; exact PySem.EqMixed.ne_int_str (fin_bl I q (by simp))
    | _ => exact absurd (show false = true from hs) Bool.false_ne_true
  | str i =>
    obtain ⟨t, rfl⟩ := rx
    cases y with
    | non => cases ry; exact PySem.EqNone.ne_str_none (fin_bl I q (by simp))
    | bl j => cases ry; exact PySem.EqMixed.ne_str_bool (fin_bl I q (by simp))
    | int j => obtain ⟨t', rfl⟩ := ry; exact PySem.EqMixed.ne_str_int (fin_bl I q (by simp))
    | str j => obtain ⟨t', rfl⟩ := ry; exact ne_str (fin_bl I q (congrArg not dec_str))
    | _ => exact absurd (show false = true from hs) Bool.false_ne_true
  | byt i =>
    obtain ⟨t, rfl⟩ := rx
    cases y with
    | byt j => obtain ⟨t', rfl⟩ := ry; exact PySem.W.ne_bytes (fin_bl I q (congrArg not dec_byt))
    | _ => exact absurd (show false = true from hs) Bool.false_ne_true
  | _ => cases y <;> exact absurd (show false = true from hs) Bool.false_ne_true

theorem op_lt : OpR X (compareOp .Lt) (rI0 fun i j => .bl (decide (i < j))) := opB0 fun _ _ _ _ _ _ _ q => lt_int q
theorem op_le : OpR X (compareOp .LtE) (rI0 fun i j => .bl (decide (i ≤ j))) := opB0 fun _ _ _ _ _ _ _ q => le_int q
theorem op_gt : OpR X (compareOp .Gt) (rI0 fun i j => .bl (decide (j < i))) := opB0 fun _ _ _ _ _ _ _ q => gt_int q
theorem op_ge : OpR X (compareOp .GtE) (rI0 fun i j => .bl (decide (j ≤ i))) := opB0 fun _ _ _ _ _ _ _ q => ge_int q
/-- two rules for one operation: by cases -/
theorem OpR.or {f : Value → Value → Sem Value} {r r' : R2} (h : OpR X f r) (h' : OpR X f r') : OpR X f (fun x y H Q => r x y H Q ∨ r' x y H Q) := by
  intro pins s σ H x y v u Q I rx ry q
  rcases q with q | q
  · exact h pins s σ H x y v u Q I rx ry q
  · exact h' pins s σ H x y v u Q I rx ry q

theorem nomark (b : Expr) {op : CmpOp} (h : op ≠ .In := by decide) (h2 : op ≠ .NotIn := by decide) : behindInMarks op b = false := by
  have e1 : (op == CmpOp.In) = false := by cases op <;> first | rfl | exact absurd rfl h
  have e2 : (op == CmpOp.NotIn) = false := by cases op <;> first | rfl | exact absurd rfl h2
  cases b <;> simp [behindInMarks, e1, e2]
/-- a comparison as a value; hm: nomark b, or (for in, not in) by with_unfolding_all rfl -/
theorem pe_cmpR {op : CmpOp} {r : R2} (ho : OpR X (compareOp op) r) (ha : PE X a ta) (hb : PE X b tb) (hm : behindInMarks op b = false) : PE X (.Compare a [op] [b] pos) (tOp r ta tb) := by
  intro pins s σ H Q I h
  exact wpAny_Compare1 (binT ha hb I h fun v u s2 x y H2 I2 rx ry q => ho pins s2 σ H2 x y v u Q I2 rx ry q) hm
/-! ### truth -/
/-- a value's truth by the abstract heap -/
def TruV (K : PySem.W.Frag) (x : V) (H : Hp) (k : Bool) : Prop :=
  match x with
  | .non => k = false
  | .bl b => k = b
  | .int i => k = (i != 0)
  | .str y => y.length ≤ sizeLine ∧ k = ((y.length : Int) != 0)
  | .byt y => y.size ≤ sizeLine ∧ k = ((y.size : Int) != 0)
  | .ref p => (∃ xs, SqL K H p xs ∧ k = !xs.isEmpty) ∨ (∃ xs, SqT K H p xs ∧ k = !xs.isEmpty) ∨ ∃ kvs, H p = some (.dK kvs) ∧ k = !kvs.isEmpty
  | _ => False
theorem isEmpty_kv {κ : Type} {kvs : List (κ × V)} {vs : List (κ × Value)} (r : KV kvs vs) : (!vs.isEmpty) = !kvs.isEmpty := by
  cases r <;> rfl
theorem isEmpty_of {xs : List V} {its : List Value} (r : Vals xs its) : (!its.toArray.isEmpty) = !xs.isEmpty := by
  cases r <;> simp
theorem line63 : (sizeLine : Nat) < 2 ^ 63 := by rw [sizeLine_eq]; decide
theorem tru_ok : TruR X (fun x H Q => ∃ k, TruV X.K x H k ∧ Q k H) := by
  intro pins s σ H x v Q I rx h
  obtain ⟨k, e, q⟩ := h
  have hl := line63
  have hs : sizeLine = 16777216 := sizeLine_eq
  cases x with
  | non =>
    cases rx
    have e' : k = false := e
    subst e'
    exact truthy_none ⟨H, I, q⟩
  | bl b =>
    cases rx
    have e' : k = b := e
    subst e'
    exact wpAny_truthy_bool ⟨H, I, q⟩
  | int i =>
    obtain ⟨t, rfl⟩ := rx
    have e' : k = (i != 0) := e
    subst e'
    exact PySem.P.truthy_int ⟨H, I, q⟩
  | str y =>
    obtain ⟨t, rfl⟩ := rx
    obtain ⟨hy, e'⟩ : y.length ≤ sizeLine ∧ k = ((y.length : Int) != 0) := e
    subst e'
    exact PySem.P.truthy_str (by omega) ⟨H, I.tok _, q⟩
  | byt y =>
    obtain ⟨t, rfl⟩ := rx
    obtain ⟨hy, e'⟩ : y.size ≤ sizeLine ∧ k = ((y.size : Int) != 0) := e
    subst e'
    exact PySem.W.truthy_bytes (by omega) ⟨H, I.tok _, q⟩
  | ref p =>
    cases rx
    have e' : (∃ xs, SqL X.K H p xs ∧ k = !xs.isEmpty) ∨ (∃ xs, SqT X.K H p xs ∧ k = !xs.isEmpty) ∨ ∃ kvs, H p = some (.dK kvs) ∧ k = !kvs.isEmpty := e
    rcases e' with ⟨xs, hx, e'⟩ | ⟨xs, hx, e'⟩ | ⟨kvs, hx, e'⟩
    · subst e'
      obtain ⟨its, r, pl, hz⟩ := I.list hx
      have hlen := r.length
      exact wpAny_truthy_list pl.isList (by simp only [List.size_toArray]; omega) ⟨H, I.tok _, by rw [isEmpty_of r]; exact q⟩
    · subst e'
      obtain ⟨its, r, pl, hz⟩ := I.tuple hx
      have hlen := r.length
      exact truthy_tuple pl (by simp only [List.size_toArray]; omega) ⟨H, I.tok _, by rw [isEmpty_of r]; exact q⟩
    · subst e'
      obtain ⟨hz, hS, vs, r, m⟩ : kvs.length ≤ sizeLine ∧ (p == sysModules) = false ∧ ∃ vs, KV kvs vs ∧ s.heap.DictOf (mixKind X.prog X.w) p vs := I.hok p _ hx
      have hlen : kvs.length = vs.length := Paired.length r
      exact wpAny_truthy_dict hS m (by omega) ⟨H, I.tok _, by rw [isEmpty_kv r]; exact q⟩
  | _ => exact (show False from e).elim
/-! ### strs and bytes -/
theorem op_add_str : OpR X (binaryOp .Add) (fun x y H Q => ∃ i j, x = .str i ∧ y = .str j ∧ i.length + j.length ≤ sizeLine ∧ Q (.str (i ++ j)) H) := by
  intro pins s σ H x y v u Q I rx ry h
  obtain ⟨i, j, rfl, rfl, hz, q⟩ := h
  obtain ⟨t, rfl⟩ := rx
  obtain ⟨t', rfl⟩ := ry
  exact add_str (fun t' tk => ⟨.str (i ++ j), H, I.tok _, ⟨_, rfl⟩, q⟩) hz
/-! ### scalar builtins, by CallR -/
theorem vals1 {x : V} {us : List Value} (r : Vals [x] us) : ∃ u, us = [u] ∧ RelV x u := by
  cases r with
  | cons r1 r2 => cases r2; exact ⟨_, rfl, r1⟩
theorem vals2 {x y : V} {us : List Value} (r : Vals [x, y] us) : ∃ u w', us = [u, w'] ∧ RelV x u ∧ RelV y w' := by
  cases r with
  | cons r1 r2 =>
    cases r2 with
    | cons r3 r4 => cases r4; exact ⟨_, _, rfl, r1, r3⟩
end
end L2

namespace L2
open PySem PySem.Spec PyProof.Rows

/-! ### an instance, its attributes a map -/
structure ObjM (h : Heap) (x dx C : Addr) (mA : Str → Option Value) : Prop where
  obj : h.get? x = some (PySem.W.instObj C dx)
  ns : h.Ns1 dx mA
  ne : dx ≠ x

theorem lookIn_ns {h : Heap} {dx : Addr} {mA : Str → Option Value} (n : h.Ns1 dx mA) : ∃ od, h.get? dx = some od ∧ ∀ name, PySem.W.lookIn name od = some (mA name) := by
  obtain ⟨o, es, ep, ho, hd, hk, _, hm⟩ := n
  refine ⟨o, ho, fun name => ?_⟩
  have e := hm name
  unfold nsFind findBy at e
  rw [← Array.find?_toList] at e
  unfold PySem.W.lookIn
  rw [hd]
  dsimp only
  split
  · rename_i y q
    rw [q] at e
    exact congrArg some e
  · rename_i q
    rw [q] at e
    have a : es.toList.any (·.refKey) = false := by
      rw [List.any_eq_false]
      intro y hy
      obtain ⟨z, t, hkey⟩ := hk y (Array.mem_toList_iff.mp hy)
      simp [DictEntry.refKey, hkey]
    have a' : ¬ es.toList.any (·.refKey) = true := by rw [a]; exact Bool.false_ne_true
    rw [if_neg a']
    exact congrArg some e

theorem ObjM.look {h : Heap} {x dx C : Addr} {mA : Str → Option Value} (I : ObjM h x dx C mA) : ∃ od, PySem.W.InstAt h x (PySem.W.instObj C dx) C (some od) ∧ ∀ name, PySem.W.lookIn name od = some (mA name) :=
  let ⟨od, ho, hl⟩ := lookIn_ns I.ns
  ⟨od, ⟨I.obj, rfl, rfl, ho⟩, hl⟩

section
variable {prog : Program} {w : World} {A : Around} {E : Value → Shared → Prop} {s : Shared} {K : PySem.W.Frag} {x dx C f : Addr} {mA : Str → Option Value} {name : Str} {v : Value}

end

/-! ### the attributes as a list of pairs -/
theorem RelO.some_of {v : V} {o : Option Value} (r : RelO (some v) o) : ∃ u, o = some u ∧ RelV v u := by
  cases o with
  | none => exact (show False from r).elim
  | some u => exact ⟨u, rfl, r⟩
theorem handed_of {v : V} {u : Value} (r : RelV v u) : PySem.W.handedIn u = true := by
  cases v with
  | non => cases (show u = Value.none from r); rfl
  | bl b => cases (show u = Value.bool b from r); rfl
  | int i => obtain ⟨t, e⟩ := (show ∃ t, u = Value.int i t from r); cases e; rfl
  | str x => obtain ⟨t, e⟩ := (show ∃ t, u = Value.str x t from r); cases e; rfl
  | byt b => obtain ⟨t, e⟩ := (show ∃ t, u = Value.bytes b t from r); cases e; rfl
  | flt b => obtain ⟨t, e⟩ := (show ∃ t, u = Value.float b t from r); cases e; rfl
  | ref a => cases (show u = Value.ref a from r); rfl
  | ty n => cases (show u = Value.type n from r); rfl

section
variable {P : Program} {w : World} {H H' : Hp} {h h' : Heap} {a C dx : Addr} {fs fs' : List (Str × V)}
theorem ins_get (hok : HOk P w H h) (e : H a = some (.ins C dx fs)) : ∃ mA, ObjM h a dx C mA ∧ (∀ f, RelO (fs.lookup f) (mA f)) ∧ PySem.Within mA (fs.map (·.1)) ∧ fs.length ≤ 1000 ∧ H dx = some (.own a) := by
  obtain ⟨d, z, ne, ob, mA, n, r, q⟩ := (show ObjOk P w H h a (.ins C dx fs) from hok a _ e)
  exact ⟨mA, ⟨ob, n, ne⟩, r, q, z, d⟩
end

/-! ### what of the text a class must have -/
structure Cls (K : PySem.W.Frag) (C : Addr) : Prop where
  pg : PySem.W.plainGet K C Str.empty = true
  hd : PySem.W.hasDictIn K C = true
  po : PySem.W.plainOver K C = true
  sa : PySem.W.findIn K (.ref C) "__setattr__" = some (some (.builtin "object.__setattr__"))
theorem Cls.get {K : PySem.W.Frag} {C : Addr} (c : Cls K C) (f : Str) : PySem.W.plainGet K C f = true := c.pg
section
variable {X : Cx} {pins : List (Addr × Obj)} {σ : St} {H : Hp} {s : Shared} {a C dx : Addr} {fs : List (Str × V)} {f : Str} {v : V} {A : Around} {E : Value → Shared → Prop}

/-- e.f where nothing but the object is asked: through attributeBase (super) and the last hold -/
theorem attr_of {prog : Program} {w : World} {env : Env} {e : Expr} {f : Str} {pos : Pos} {s : Shared} {Q : Value → Shared → Prop} (hb : attributeBase e f env (eval e env) = eval e env)
    (h : wpAny (model prog w) A (eval e env) (fun o s₁ => wpAny (model prog w) A (getAttr o f true) Q E s₁) E s) : wpAny (model prog w) A (eval (.Attribute e f pos) env) Q E s :=
  Attribute_any_ h (by rw [arm_eval_Attribute, hb])
end

/-! ### readings and rules -/
section
variable {X : Cx} {o e value : Expr} {f : Str} {pos pos' tpos : Pos} {ta tv : TE}
end

/-! ### isinstance -/
section
variable {X : Cx} {pins : List (Addr × Obj)} {σ : St} {H : Hp} {s : Shared} {A : Around} {E : Value → Shared → Prop} {Q : Value → Shared → Prop} {c : Value} {b : Bool}
/-- the type of a value, as the fragment's deciders take it; for an instance its class -/
inductive TyOf (K : PySem.W.Frag) (H : Hp) : V → Value → Prop where
  | non : TyOf K H .non (.type "NoneType")
  | bl (x : Bool) : TyOf K H (.bl x) (.type "bool")
  | int (i : Int) : TyOf K H (.int i) (.type "int")
  | str (x : Str) : TyOf K H (.str x) (.type "str")
  | flt (x : UInt64) : TyOf K H (.flt x) (.type "float")
  | lst {a : Addr} {xs : List V} (e : H a = some (.lst xs)) : TyOf K H (.ref a) (.type "list")
  | frz {a : Addr} {o : Obj} {xs : List V} (e : H a = some (.frz o (.lst xs))) : TyOf K H (.ref a) (.type "list")
  | tup {a : Addr} {xs : List V} (e : H a = some (.tup xs)) : TyOf K H (.ref a) (.type "tuple")
  | dK {a : Addr} {kvs : List (Key × V)} (e : H a = some (.dK kvs)) : TyOf K H (.ref a) (.type "dict")
  | dT {a : Addr} {kvs : List (List Key × V)} (e : H a = some (.dT kvs)) : TyOf K H (.ref a) (.type "dict")
  | ins {a C dx : Addr} {fs : List (Str × V)} (e : H a = some (.ins C dx fs)) (cl : Cls K C) (ha : PySem.W.findIn K (.ref C) "__class__" = some (some (.builtin "object.__class__")))
      (hn : PySem.W.specialIn K (.builtin "object.__class__") "__get__" = some (some (.builtin "getset_descriptor.__get__"))) (htk : PySem.W.takesIn K (.builtin "object.__class__") = some true)
      (hm : PySem.W.mroIn K C (.type "object") = some true) : TyOf K H (.ref a) (.ref C)
/-- isinstance(x, c) for one class c, a built-in or an own one: kitOne's answer -/
theorem isinst_ok {x : V} {u t : Value} (I : Inv X pins σ H s) (rx : RelV x u) (ty : TyOf X.K H x t) (e : PySem.W.kitOne X.K t c = some b) (h : ∀ tk, Q (.bool b) { s with toks := tk }) :
    wpAny (model X.prog X.w) A (call (.builtin "isinstance") [u, c]) Q E s := by
  cases ty with
  | non => cases (show u = Value.none from rx); exact PySem.W.kia_one PySem.W.kitx_none I.kIn True.intro e (fun z => nomatch z) h
  | bl y => cases (show u = Value.bool y from rx); exact PySem.W.kia_one PySem.W.kitx_bool I.kIn True.intro e (fun z => nomatch z) h
  | int i => obtain ⟨t, q⟩ := (show ∃ t, u = Value.int i t from rx); cases q; exact PySem.W.kia_one PySem.W.kitx_int I.kIn True.intro e (fun z => nomatch z) h
  | str y => obtain ⟨t, q⟩ := (show ∃ t, u = Value.str y t from rx); cases q; exact PySem.W.kia_one PySem.W.kitx_str I.kIn True.intro e (fun z => nomatch z) h
  | flt y => obtain ⟨t, q⟩ := (show ∃ t, u = Value.float y t from rx); cases q; exact PySem.W.kia_one PySem.W.kitx_float I.kIn True.intro e (fun z => nomatch z) h
  | @lst a xs ea =>
    cases (show u = Value.ref a from rx)
    obtain ⟨_, _, n, _, h1⟩ := (show ObjOk X.prog X.w H s.heap a (.lst xs) from I.hok a _ ea)
    exact PySem.W.kia_one PySem.W.kitx_list I.kIn ⟨_, h1, rfl⟩ e (fun z => nomatch z) h
  | @frz a ob xs ea =>
    cases (show u = Value.ref a from rx)
    obtain ⟨_, _, _, n, _, h1⟩ := (show ObjOk X.prog X.w H s.heap a (.frz ob (.lst xs)) from I.hok a _ ea)
    exact PySem.W.kia_one PySem.W.kitx_list I.kIn ⟨_, h1, rfl⟩ e (fun z => nomatch z) h
  | @tup a xs ea =>
    cases (show u = Value.ref a from rx)
    obtain ⟨_, _, _, p⟩ := (show ObjOk X.prog X.w H s.heap a (.tup xs) from I.hok a _ ea)
    obtain ⟨o, h1, h2, _⟩ := p
    exact PySem.W.kia_one PySem.W.kitx_tuple I.kIn ⟨o, h1, h2⟩ e (fun z => nomatch z) h
  | @dK a kvs ea =>
    cases (show u = Value.ref a from rx)
    obtain ⟨_, _, vs, _, p⟩ := (show ObjOk X.prog X.w H s.heap a (.dK kvs) from I.hok a _ ea)
    obtain ⟨o, es, ep, h1, h2, _⟩ := p
    exact PySem.W.kia_one PySem.W.kitx_dict I.kIn ⟨o, h1, h2.1⟩ e (fun z => nomatch z) h
  | @dT a kvs ea =>
    cases (show u = Value.ref a from rx)
    obtain ⟨_, _, xs, _, o, es, ep, h1, h2, _⟩ := (show ObjOk X.prog X.w H s.heap a (.dT kvs) from I.hok a _ ea)
    exact PySem.W.kia_one PySem.W.kitx_dict I.kIn ⟨o, h1, h2.1⟩ e (fun z => nomatch z) h
  | @ins a C dx fs ea cl ha hn htk hm =>
    cases (show u = Value.ref a from rx)
    obtain ⟨mA, O, _⟩ := ins_get I.hok ea
    obtain ⟨od, J, _⟩ := O.look
    exact PySem.W.kia_one (PySem.W.kitx_own (cl.get _) cl.hd ha hn htk hm) I.kIn J e (fun z => nomatch z) h
end
end L2

namespace L2
open PySem PySem.Spec PyProof.Rows

/-! ### room -/
structure Room (k : Nat) (A : Around) : Prop where
  hd : A.handled = none
  dp : A.depth + 3 * k + 5 < recursionLimit
  un : A.units + 16 * k + 200 < cLine
  gd : A.guards = some []
theorem Room.mono {j k : Nat} {A : Around} (r : Room k A) (h : j ≤ k) : Room j A := ⟨r.hd, by have := r.dp; omega, by have := r.un; omega, r.gd⟩
theorem Room.deeper {k : Nat} {A : Around} (r : Room (k + 1) A) (env : Env) : Room k (A.deeper env) :=
  ⟨r.hd, by have := r.dp; show A.depth + 1 + 3 * k + 5 < _; omega, by have := r.un; show A.units + 3 + 16 * k + 200 < _; omega, r.gd⟩
theorem make_depth {A : Around} {C : Addr} {us : List Value} {kw : List (Str × Value)} : (A.under (.builtin "type.__call__" ⟨.ref C :: us, kw⟩)).depth = A.depth + 1 := by
  first | rfl | simp [Around.under, Code.weight, Code.isCreation, Code.isGuard, Code.isCaller, Code.frames, Code.isFrame, guardIds]
theorem make_units {A : Around} {C : Addr} {us : List Value} {kw : List (Str × Value)} : (A.under (.builtin "type.__call__" ⟨.ref C :: us, kw⟩)).units = A.units + 1 := by
  first | rfl | simp [Around.under, Code.cUnits, Code.frames, Code.isFrame]
theorem make_guards {A : Around} {C : Addr} {us : List Value} {kw : List (Str × Value)} : (A.under (.builtin "type.__call__" ⟨.ref C :: us, kw⟩)).guards = A.guards := by
  first | rfl | (cases A; simp [Around.under, pushGuards, Code.guards, Code.isGuard, guardIds])
theorem Room.make {k : Nat} {A : Around} (r : Room (k + 1) A) (C : Addr) (us : List Value) (kw : List (Str × Value)) : Room k (A.under (.builtin "type.__call__" ⟨.ref C :: us, kw⟩)) :=
  ⟨r.hd, by have := r.dp; rw [make_depth]; omega, by have := r.un; rw [make_units]; omega, make_guards.trans r.gd⟩
theorem Room.depth {k : Nat} {A : Around} (r : Room k A) : A.depth < recursionLimit := by have := r.dp; omega
theorem Room.units {k : Nat} {A : Around} (r : Room k A) : A.units + 64 < cLine := by have := r.un; omega
/-! ### argument lists and displays -/
def tNil : TA := fun _ H Q => Q [] H
def tCons (ta : TE) (tr : TA) : TA := fun σ H Q => ta σ H fun x H1 => tr σ H1 fun xs H2 => Q (x :: xs) H2
section
variable {X : Cx} {e : Expr} {es : List Expr} {te : TE} {t : TA} {pos : Pos}
theorem pa_nil : PA X [] tNil := fun _ _ _ _ H Q I h => Calls.spliced_nil ⟨[], H, I, .nil, h⟩
theorem pa_cons (ha : PE X e te) (hr : PA X es t) (hs : starEach (e :: es) X.env = (false, eval e X.env) :: starEach es X.env := by rfl) : PA X (e :: es) (tCons te t) := by
  intro pos pins s σ H Q I h
  rw [hs]
  show wpAny _ _ (spliced ((false, eval e X.env) :: backTo pos (starEach es X.env))) _ _ s
  refine Calls.spliced_cons (thn (ha pins s σ H _ I h) fun u s1 ⟨x, H1, I1, r1, q1⟩ => ?_)
  exact thn (hr pos pins s1 σ H1 _ I1 q1) fun us s2 ⟨xs, H2, I2, r2, q2⟩ => ⟨x :: xs, H2, I2, .cons r1 r2, q2⟩

end

/-! ### what a def promises -/
/-- a def's promise: the bound arguments in the parameters' order, the heap, the wanted end, the wanted exception -/
abbrev Sp := List V → Hp → VK → XK → Prop
/-- how an exception lies behind a call (file 08 gives it): the callers' frames, abstract heap and state ahead of the call, the wish, the exception, the state -/
abbrev CXT := List Env → Hp → Shared → XK → Value → Shared → Prop

/-- the state at a call -/
structure Env0 (P : Program) (w : World) (K : PySem.W.Frag) (mg : Str → Option Value) (base : Heap) (A : Around) (outer : List Env) (s : Shared) (H : Hp) : Prop where
  frames : A.frames = some outer
  mod : Mod K mg base
  bs : ∀ b o, base.get? b = some o → s.heap.get? b = some o ∧ H b = none
  bsz : base.objs.size ≤ s.heap.objs.size
  funs : s.heap.FunFrames base outer
  frf : ∀ b ∈ frs outer, H b = none
  hok : HOk P w H s.heap
  bare : AllBare s.gens
/-- a call's end -/
def CE (outer : List Env) (P : Program) (w : World) (H : Hp) (s : Shared) (Q : VK) (u : Value) (s' : Shared) : Prop :=
  ∃ v H', s'.os = s.os ∧ AllBare s'.gens ∧ Un (frs outer) [] H H' s.heap s'.heap ∧ HOk P w H' s'.heap ∧ RelV v u ∧ Q v H'
def CR (CX : CXT) (outer : List Env) (P : Program) (w : World) (H : Hp) (s : Shared) (Q : VK) (E : XK) (r : Result) (s' : Shared) : Prop :=
  match r with
  | .ok (.ret u) => CE outer P w H s Q u s'
  | .ok _ => False
  | .error e => CX outer H s E e s'
structure FnOk (P : Program) (w : World) (K : PySem.W.Frag) (mg : Str → Option Value) (base : Heap) (CX : CXT) (k : Nat) (f : Addr) (fd : FuncData) (ps : List Str) (sp : Sp) : Prop where
  len : ∀ vs H Q E, sp vs H Q E → vs.length = ps.length
  run : ∀ (A : Around) (outer : List Env) (s : Shared) (H : Hp) (args : Args) (us : List Value) (vs : List V) (Q : VK) (E : XK), Room k A → Env0 P w K mg base A outer s H → BindsTo s fd args (ps.zip us) → Vals vs us → sp vs H Q E →
    codeAny (model P w) A (.call (.ref f) args) (CR CX outer P w H s Q E) s
theorem Env0.make {P : Program} {w : World} {K : PySem.W.Frag} {mg : Str → Option Value} {base : Heap} {A : Around} {outer : List Env} {s : Shared} {H : Hp} (e : Env0 P w K mg base A outer s H) (C : Addr) (us : List Value) (kw : List (Str × Value)) :
    Env0 P w K mg base (A.under (.builtin "type.__call__" ⟨.ref C :: us, kw⟩)) outer s H := ⟨by first | exact e.frames | (simpa [Around.under, Code.envs, Code.isFrame, pushEnvs] using e.frames), e.mod, e.bs, e.bsz, e.funs, e.frf, e.hok, e.bare⟩
section
variable {X : Cx} {pins : List (Addr × Obj)} {σ : St} {H : Hp} {s s' : Shared}
/-- from a body: what a callee wants -/
theorem Inv.env0 (I : Inv X pins σ H s) : Env0 X.prog X.w X.K X.mg X.base X.A X.stack s H :=
  ⟨I.ok.frames, I.ok.mod, I.bs, Nat.le_trans I.ok.bsz I.sz, I.stack, I.stkFree, I.hok, I.bare⟩
/-- behind a call -/
theorem Inv.after {Q : VK} {u : Value} (I : Inv X pins σ H s) (h : CE X.stack X.prog X.w H s Q u s') : EP X pins σ Q u s' := by
  obtain ⟨v, H', os, bare, un, hok, r, q⟩ := h
  obtain ⟨hh, g, d, t, os'⟩ := s'
  obtain rfl : os' = s.os := os
  exact ⟨v, H', I.call (h' := hh) (g' := g) (d' := d) (t' := t) (ch := []) un hok bare (fun b z => absurd z (by simp)), r, q⟩
end

/-! ### calls -/
/-- f(..): the written arguments, then the defaults dvs; E: what is wanted of an exception -/
def tCall (sp : Sp) (dvs : List V) (E : XK) (t : TA) : TE := fun σ H Q => t σ H fun vs H1 => sp (vs ++ dvs) H1 Q E
/-- how the parameters are bound: us the positional arguments, kw the keywords' values by name, ds the defaults that fill up -/
def Binds (K : PySem.W.Frag) (fd : FuncData) (ps : List Str) (ds : List Value) : Prop :=
  ∀ (s : Shared) (us : List Value), K.In s.heap → (us ++ ds).length = ps.length → BindsTo s fd ⟨us, []⟩ (ps.zip (us ++ ds))
/-- every parameter is given -/
theorem Binds.all {K : PySem.W.Frag} {fd : FuncData} {ps : List Str} (h : ∀ us : List Value, us.length = ps.length → bindArgs fd ⟨us, []⟩ = pure (ps.zip us)) : Binds K fd ps [] := fun s us _ hl => by
  rw [List.append_nil] at hl ⊢
  exact .of_eq (h us hl)

/-- an exception of a callee reaches what this body wants of exceptions -/
def Passes (CX : CXT) (X : Cx) (E : XK) : Prop := ∀ (pins : List (Addr × Obj)) (σ : St) (H : Hp) (s : Shared) (e : Value) (s' : Shared), Inv X pins σ H s → CX X.stack H s E e s' → X.xe e s'

section
variable {X : Cx} {CX : CXT} {k : Nat} {f C : Addr} {fd : FuncData} {ps : List Str} {sp : Sp} {dvs : List V} {ds : List Value} {E : XK} {x m : Str} {p pos apos : Pos} {e o : Expr} {es : List Expr} {ta : TE} {t : TA}

/-- the callee runs -/
theorem run_fn {pins : List (Addr × Obj)} {σ : St} {H : Hp} {s : Shared} {Q : VK} {us : List Value} {vs : List V} (F : FnOk X.prog X.w X.K X.mg X.base CX k f fd ps sp) (hr : Room k X.A) (hb : Binds X.K fd ps ds) (hd : Vals dvs ds) (hx : Passes CX X E)
    (I : Inv X pins σ H s) (r : Vals vs us) (h : sp (vs ++ dvs) H Q E) : wpAny (model X.prog X.w) X.A (call (.ref f) us) (EP X pins σ Q) X.xe s := by
  have r2 : Vals (vs ++ dvs) (us ++ ds) := r.append hd
  have hl : (us ++ ds).length = ps.length := by rw [← r2.length]; exact F.len _ _ _ _ h
  refine wpAny_call (codeAny_mono (F.run X.A X.stack s H ⟨us, []⟩ (us ++ ds) (vs ++ dvs) Q E hr I.env0 (hb s us I.kIn hl) r2 h) fun r s' hq => ?_)
  cases r with
  | error e => exact hx pins σ H s e s' I hq
  | ok fl =>
    cases fl with
    | ret u => exact I.after hq
    | next => exact False.elim hq
    | brk => exact False.elim hq
    | cont => exact False.elim hq

theorem pe_call (F : FnOk X.prog X.w X.K X.mg X.base CX k f fd ps sp) (hr : Room k X.A) (hg : Gl X x) (hm : X.mg x = some (.ref f)) (hk : PySem.W.keepIn X.K (.ref f) = true) (hb : Binds X.K fd ps ds) (hd : Vals dvs ds) (hx : Passes CX X E)
    (ha : PA X (e :: es) t) (hdb : (x == ("__debug__" : Str)) = false := by decide) (he : starEach (e :: es) X.env = (false, eval e X.env) :: starEach es X.env := by rfl) (hpl : (backTo pos (starEach es X.env)).any (·.1) = false := by rfl) :
    PE X (.Call (.Name x p) (e :: es) [] pos) (tCall sp dvs E t) := by
  intro pins s σ H Q I h
  refine wpAny_Call_Name_kw (ld_glob I hg hm ?_ hdb)
  refine PySem.W.callWith_K (h₀ := X.base) I.ok.mod.kin hk (thn (ha pos pins s σ H _ I h) fun us s1 ⟨vs, H1, I1, r, q⟩ => ⟨I1.kIn, ?_⟩) he hpl
  exact run_fn F hr hb hd hx I1 r q
end

/-! ### keywords -/
section
variable {X : Cx} {CX : CXT} {k : Nat} {f C : Addr} {fd : FuncData} {ps ks : List Str} {sp : Sp} {E : XK} {x m : Str} {p pos apos kpos : Pos} {e o : Expr} {es : List Expr} {kws : List Keyword} {te ta : TE} {t tk : TA} {nm : Option Str}
variable {g : List Value → List Value → List Value} {gV : List V → List V → List V}
end

/-! ### a def's body keeps its promise -/
/-- names: the parameters first -/
structure FnScope (N P : List Str) (sc : Scope) : Prop where
  kind : sc.kind = .function
  co : sc.isCoroutine = false
  gen : sc.isGenerator = false
  nd : N.Nodup
  pre : N.take P.length = P
  par : ∀ x ∈ P, sc.names.lookup x = some .local ∨ sc.names.lookup x = some .cell
  nofree : ∀ y ∈ sc.names, y.2 ≠ .free

theorem bindL_out {kindOf : Str → Option NameKind} {x : Str} : ∀ {binds : List (Str × Value)} {m : Str → Option Value}, (∀ v, (x, v) ∉ binds) → bindL kindOf binds m x = m x
  | [], _, _ => rfl
  | (n, v) :: r, m, h => by
    unfold bindL
    rw [bindL_out fun w hw => h w (List.mem_cons_of_mem _ hw)]
    split
    · have : x ≠ n := by rintro rfl; exact h v List.mem_cons_self
      simp [this]
    · rfl
theorem bindC_out {kindOf : Str → Option NameKind} {x : Str} : ∀ {binds : List (Str × Value)} {m : Str → Option Value}, (∀ v, (x, v) ∉ binds) → bindC kindOf binds m x = m x
  | [], _, _ => rfl
  | (n, v) :: r, m, h => by
    unfold bindC
    rw [bindC_out fun w hw => h w (List.mem_cons_of_mem _ hw)]
    split
    · rfl
    · have : x ≠ n := by rintro rfl; exact h v List.mem_cons_self
      simp [this]
theorem bindL_get {kindOf : Str → Option NameKind} {x : Str} {v : Value} : ∀ {P : List Str} {vs : List Value} {i : Nat} {m : Str → Option Value}, P.Nodup → P[i]? = some x → vs[i]? = some v → kindOf x = some .local →
    bindL kindOf (P.zip vs) m x = some v
  | [], _, _, _, _, h, _, _ => by simp at h
  | _ :: _, [], _, _, _, _, h, _ => by simp at h
  | p :: P, w :: vs, 0, m, nd, h1, h2, hk => by
    simp at h1 h2; subst h1; subst h2
    show bindL kindOf ((p, w) :: P.zip vs) m p = _
    unfold bindL
    rw [bindL_out fun v hv => (List.nodup_cons.mp nd).1 (List.of_mem_zip hv).1, if_pos hk]
    simp
  | p :: P, w :: vs, i + 1, m, nd, h1, h2, hk => by
    show bindL kindOf ((p, w) :: P.zip vs) m x = _
    unfold bindL
    exact bindL_get (i := i) (List.nodup_cons.mp nd).2 (by simpa using h1) (by simpa using h2) hk
theorem bindC_get {kindOf : Str → Option NameKind} {x : Str} {v : Value} : ∀ {P : List Str} {vs : List Value} {i : Nat} {m : Str → Option Value}, P.Nodup → P[i]? = some x → vs[i]? = some v → kindOf x ≠ some .local →
    bindC kindOf (P.zip vs) m x = some v
  | [], _, _, _, _, h, _, _ => by simp at h
  | _ :: _, [], _, _, _, _, h, _ => by simp at h
  | p :: P, w :: vs, 0, m, nd, h1, h2, hk => by
    simp at h1 h2; subst h1; subst h2
    show bindC kindOf ((p, w) :: P.zip vs) m p = _
    unfold bindC
    rw [bindC_out fun v hv => (List.nodup_cons.mp nd).1 (List.of_mem_zip hv).1, if_neg hk]
    simp
  | p :: P, w :: vs, i + 1, m, nd, h1, h2, hk => by
    show bindC kindOf ((p, w) :: P.zip vs) m x = _
    unfold bindC
    exact bindC_get (i := i) (List.nodup_cons.mp nd).2 (by simpa using h1) (by simpa using h2) hk

/-- the names' values at the entry -/
def start (N : List Str) (vs : List V) : St := vs.map some ++ List.replicate (N.length - vs.length) none

/-- the context of a def's body, at its entry; an exception leaves the frame, then lies as CX says -/
def cxOf (CX : CXT) (P : Program) (w : World) (K : PySem.W.Frag) (mg : Str → Option Value) (base : Heap) (N : List Str) (qual : Str) (scope : Scope) (f : Addr) (cd : Value) (A : Around) (outer : List Env) (s : Shared) (H : Hp) (E : XK) : Cx where
  prog := P
  w := w
  K := K
  mg := mg
  base := base
  A := A.deeper (envOfC qual scope s.heap.objs.size f cd)
  N := N
  s₀ := s
  H₀ := H
  env := envOfC qual scope s.heap.objs.size f cd
  outer := outer
  stack := envOfC qual scope s.heap.objs.size f cd :: outer
  ex := []
  calm := true
  fn := fun _ => true
  pn := []
  xe := fun e s' => wpAny (model P w) (A.deeper (envOfC qual scope s.heap.objs.size f cd)) (leaving (envOfC qual scope s.heap.objs.size f cd) e) (fun _ s'' => CX outer H s E e s'') (fun e' s'' => CX outer H s E e' s'') s'

theorem cell_has {sc : Scope} {n : Nat} {x : Str} (h : sc.names.lookup x = some .cell) : ∃ c, (cellsFrom n sc.names []).lookup x = some c := by
  have q := PySem.W.cellsFrom_some sc.names n [] (.inl h)
  exact Option.isSome_iff_exists.mp q

theorem inv_start {CX : CXT} {P : Program} {w : World} {K : PySem.W.Frag} {mg : Str → Option Value} {base : Heap} {N ps : List Str} {qual : Str} {scope : Scope} {f : Addr} {cd : Value} {A : Around} {outer : List Env} {s s1 : Shared} {H : Hp} {E : XK} {us : List Value} {vs : List V}
    (S : FnScope N ps scope) (hd : A.handled = none) (e0 : Env0 P w K mg base A outer s H) (hl : vs.length = ps.length) (r : Vals vs us)
    (x : InCallC s s.heap.objs.size (bindL (envOfC qual scope s.heap.objs.size f cd).kindOf (ps.zip us) fun _ => none) (cellsFrom (s.heap.objs.size + 1) scope.names []) (bindC (envOfC qual scope s.heap.objs.size f cd).kindOf (ps.zip us) fun _ => none) s1) :
    Inv (cxOf CX P w K mg base N qual scope f cd A outer s H E) [] (start N vs) H s1 := by
  have hpl : ps.length ≤ N.length := by have := congrArg List.length S.pre; rw [List.length_take] at this; omega
  obtain ⟨h1, tk, rfl, hk⟩ := x.done
  have noA : ∀ b : Addr, b ∉ (cxOf CX P w K mg base N qual scope f cd A outer s H E).ex := fun b z => absurd (show b ∈ ([] : List Addr) from z) (by simp)
  refine ⟨⟨e0.mod, S.kind, rfl, rfl, Nat.le_refl _, fun y z c h1 h2 => ?_, fun y hy => ?_, fun y c _ h => ?_, fun _ => hd, Around.frames_deeper e0.frames, .inr ⟨rfl, rfl⟩, fun b z => absurd z (noA b), e0.bs, e0.bsz, fun b _ _ => noA b, fun b z => absurd z (noA b), e0.funs, e0.frf⟩,
    rfl, e0.bare, Un.kept hk, ⟨_, x.toInCall.ns, fun i y v h1 h2 h3 => ?_⟩, fun y c h => ⟨_, x.cell y c h⟩, e0.hok.fresh (Nat.le_refl _), fun y c h => ?_, fun p hp => absurd (show p ∈ ([] : List (Addr × Obj)) from hp) (by simp), e0.hok.kept hk, ?_⟩
  · exact name_of_addr x.apart (PySem.mem_of_lookup h1) (PySem.mem_of_lookup h2)
  · have hy : scope.names.lookup y = some .cell ∨ scope.names.lookup y = some .free := hy
    rcases hy with hy | hy
    · exact cell_has hy
    · exact absurd rfl (S.nofree _ (PySem.mem_of_lookup hy))
  · exact Nat.le_of_lt (x.above y c (PySem.mem_of_lookup h))
  · have hi : i < vs.length := by
      unfold start at h2
      by_cases hi : i < vs.length
      · exact hi
      · rw [List.getElem?_append_right (by simpa using hi)] at h2
        rw [List.getElem?_replicate] at h2
        split at h2 <;> cases h2
    have ha : vs[i]? = some v := by
      unfold start at h2
      rw [List.getElem?_append_left (by simpa using hi), List.getElem?_map] at h2
      cases e : vs[i]? with
      | none => rw [e] at h2; cases h2
      | some a => rw [e] at h2; cases h2; rfl
    obtain ⟨u, hu, rv⟩ := r.get ha
    have hp : ps[i]? = some y := by
      rw [← S.pre, List.getElem?_take_of_lt (by omega)]; exact h1
    have ndP : ps.Nodup := by rw [← S.pre]; exact S.nd.sublist (List.take_sublist _ _)
    refine ⟨u, rv, ?_⟩
    rcases S.par y (List.mem_of_getElem? hp) with k | k
    · exact .inl ⟨k, bindL_get ndP hp hu k⟩
    · obtain ⟨c, e⟩ := cell_has (n := s.heap.objs.size + 1) k
      refine .inr ⟨.inl k, c, e, ?_⟩
      have q := x.cell y c e
      rw [bindC_get ndP hp hu (by show scope.names.lookup y ≠ _; rw [k]; decide)] at q
      exact q
  · exact e0.hok.fresh (Nat.le_of_lt (x.above y c (PySem.mem_of_lookup h)))
  · unfold start
    show _ = N.length
    rw [List.length_append, List.length_map, List.length_replicate]
    omega

/-- THE RULE: a def (or a method) of the text, by its body. The body's reading t is chosen for each entry; it is run at the parameters' values -/
theorem fn_of {CX : CXT} {P : Program} {w : World} {K : PySem.W.Frag} {mg : Str → Option Value} {base : Heap} {k : Nat} {f : Addr} {name qual : Str} {params : Arguments} {body : List Stmt} {scope : Scope} {dV kV doc pm cdv ct oc : Value} {an od : Option Addr}
    {osl : Array (Option Value)} {N ps : List Str} {sp : Sp} (lk : K.lookup f = some ⟨oc, od, .func (PySem.W.fnOf name qual params body scope dV kV doc pm an cdv ct), osl⟩) (hcd : PySem.W.codeIn K cdv qual = true) (S : FnScope N ps scope)
    (len : ∀ vs H Q E, sp vs H Q E → vs.length = ps.length)
    (hbody : ∀ (A : Around) (outer : List Env) (s : Shared) (H : Hp) (vs : List V) (Q : VK) (E : XK), Room k (A.deeper (envOfC qual scope s.heap.objs.size f cdv)) → sp vs H Q E →
      ∃ t, PSs (cxOf CX P w K mg base N qual scope f cdv A outer s H E) body t ∧ t { nx := fun _ H' => Q .non H', rt := Q } (start N vs) H) :
    FnOk P w K mg base CX (k + 1) f (PySem.W.fnOf name qual params body scope dV kV doc pm an cdv ct) ps sp := by
  refine ⟨len, fun A outer s H args us vs Q E hr e0 hb r hsp => ?_⟩
  have hl := len _ _ _ _ hsp
  have KX : K.In s.heap := e0.mod.kin.keeps fun b o e => (e0.bs b o e).1
  have lim : s.heap.NoLimit := e0.mod.nolimit.keeps fun b o e => (e0.bs b o e).1
  have hkind : ∀ y ∈ ps.zip us, scope.names.lookup y.1 = some .local ∨ (scope.names.lookup y.1 = some .cell ∧ ((cellsFrom (s.heap.objs.size + 1) scope.names []).lookup y.1).isSome = true) := fun ⟨n, v⟩ hy => by
    rcases S.par n (List.of_mem_zip hy).1 with q | q
    · exact .inl q
    · exact .inr ⟨q, PySem.W.cellsFrom_some _ _ _ (.inl q)⟩
  refine codeAny_call_function hr.depth (KX _ _ lk) rfl S.co S.gen rfl (PySem.W.codeRec_of KX hcd) (hb _ _ _ _ ?_)
  refine wpAny_newFunctionEnv_cells S.kind hkind fun env he s1 x => ?_
  subst he
  refine ⟨lim.keeps x.toInCall.keep, codeAny_func ?_⟩
  obtain ⟨t, ht, hq⟩ := hbody A outer s H vs Q E (hr.deeper _) hsp
  have I : Inv (cxOf CX P w K mg base N qual scope f cdv A outer s H E) [] (start N vs) H s1 := inv_start S hr.hd e0 hl r x
  refine wpAny_mono (ht [] s1 (start N vs) H _ I hq) (fun fl s' hs => ?_) fun e s' hs => hs
  have fin : ∀ {σ' : St} {H' : Hp} {v : V} {u : Value}, Inv (cxOf CX P w K mg base N qual scope f cdv A outer s H E) [] σ' H' s' → RelV v u → Q v H' → CE outer P w H s Q u s' :=
    fun {σ' H' v u} J rv q => ⟨v, H', J.os, J.bare, J.base, J.hok, rv, q⟩
  cases fl with
  | ret u =>
    obtain ⟨v, σ', H', J, rv, q⟩ := hs
    exact fin J rv q
  | next =>
    obtain ⟨σ', H', J, q⟩ := hs
    exact fin (v := V.non) (u := Value.none) J rfl q
  | brk =>
    obtain ⟨_, _, _, q⟩ := hs
    exact False.elim q
  | cont =>
    obtain ⟨_, _, _, q⟩ := hs
    exact False.elim q
end L2

namespace L2
open PySem PySem.Spec PyProof.Rows
section
variable {X : Cx} {x : Str} {p pos : Pos} {e : Expr} {es : List Expr} {t : TA} {id T : String} {r : List V → Hp → VK → Prop}

def tCB (r : List V → Hp → VK → Prop) (t : TA) : TE := fun σ H Q => t σ H fun vs H1 => r vs H1 Q
/-- f(e, ..), f a built-in function -/
theorem pe_callB (hc : CallR X (.builtin id) r) (hg : Gl X x) (hm : X.mg x = none) (hv : bootBuiltins x = some (.builtin id)) (ha : PA X (e :: es) t) (hn : x ≠ "__name__" := by decide) (hdb : (x == ("__debug__" : Str)) = false := by decide)
    (he : starEach (e :: es) X.env = (false, eval e X.env) :: starEach es X.env := by rfl) (hpl : (backTo pos (starEach es X.env)).any (·.1) = false := by rfl) : PE X (.Call (.Name x p) (e :: es) [] pos) (tCB r t) := by
  intro pins s σ H Q I h
  refine wpAny_Call_Name_kw (ld_blt I hg hm hv ?_ hn hdb)
  exact PyProof.Rows.callWith_builtin1 (thn (ha pos pins s σ H _ I h) fun us s1 ⟨vs, H1, I1, r1, q1⟩ => hc pins s1 σ H1 vs us Q I1 r1 q1) he hpl
/-- T(e, ..), T a built-in type -/
theorem pe_callTy (hc : CallR X (.type T) r) (hg : Gl X x) (hm : X.mg x = none) (hv : bootBuiltins x = some (.type T)) (ha : PA X (e :: es) t) (hn : x ≠ "__name__" := by decide) (hdb : (x == ("__debug__" : Str)) = false := by decide)
    (he : starEach (e :: es) X.env = (false, eval e X.env) :: starEach es X.env := by rfl) (hpl : (backTo pos (starEach es X.env)).any (·.1) = false := by rfl) : PE X (.Call (.Name x p) (e :: es) [] pos) (tCB r t) := by
  intro pins s σ H Q I h
  refine wpAny_Call_Name_kw (ld_blt I hg hm hv ?_ hn hdb)
  exact PyProof.Rows.callWith_type1 (thn (ha pos pins s σ H _ I h) fun us s1 ⟨vs, H1, I1, r1, q1⟩ => hc pins s1 σ H1 vs us Q I1 r1 q1) he hpl
end
end L2

namespace HT
open PySem PyProof.Rows

section
open PySem.SeqAt
open PySem.AutoSeq1 (wpAny_loadPart')
open PySem.MeetsSeq PySem.MeetsSeq2 PySem.MeetsSeq3

end

section
variable {prog : Program} {w : World} {A : Around} {E : Value → Shared → Prop} {s : Shared}

/-! ### t[a:b], not the whole -/
/-- a slice's bound as a place among n (d where it is left out) -/
def sIx (n d : Nat) : Option Int → Nat
  | none => d
  | some v => if v < 0 then (v + (n : Int)).toNat else min v.toNat n
theorem sIx_le (n d : Nat) (hd : d ≤ n) (o : Option Int) : sIx n d o ≤ n := by
  cases o with
  | none => exact hd
  | some v =>
    show (if v < 0 then (v + (n : Int)).toNat else min v.toNat n) ≤ n
    by_cases hv : v < 0
    · rw [if_pos hv]; omega
    · rw [if_neg hv]; exact Nat.min_le_right _ _
theorem clip_eq (v : Int) (n d : Nat) : (if v < 0 then max (v + (n : Int)) 0 else min v (n : Int)) = ((sIx n d (some v) : Nat) : Int) := by
  show (if v < 0 then max (v + (n : Int)) 0 else min v (n : Int)) = (((if v < 0 then (v + (n : Int)).toNat else min v.toNat n) : Nat) : Int)
  by_cases hv : v < 0
  · simp only [if_pos hv]; omega
  · simp only [if_neg hv]; omega
theorem adjust_gen (lo hi : Option Int) (n : Nat) : Builtin.Slice.sliceAdjust lo hi 1 (n : Int) = (((sIx n 0 lo : Nat) : Int), ((sIx n n hi : Nat) : Int)) := by
  have h1 : ¬ ((1 : Int) < 0) := by omega
  unfold Builtin.Slice.sliceAdjust
  simp only [h1, if_false]
  refine Prod.ext ?_ ?_
  · cases lo with
    | none => rfl
    | some v => exact clip_eq v n 0
  · cases hi with
    | none => rfl
    | some v => exact clip_eq v n n
theorem places_gen (i j : Nat) : Builtin.Slice.slicePlaces (i : Int) (j : Int) 1 = j - i := by
  unfold Builtin.Slice.slicePlaces
  have h1 : (1 : Int) > 0 := by omega
  simp only [h1, if_true, Int.ediv_one]
  split <;> omega
theorem slicePart_ {v : Value} {o : Option Int} {Q : Option Int → Shared → Prop} (p : IsPart v o) (h : Q o s) : wpAny (model prog w) A (Builtin.Slice.slicePartIndex v) Q E s := by
  cases p with
  | none => exact slicePart_none h
  | int i t => exact slicePart_int h
theorem sliceApplied_gen {sl : Addr} {vl vu : Value} {lo hi : Option Int} {n : Nat} {Q : Int × Int × Nat → Shared → Prop} (hs : s.heap.IsSliceOf sl vl vu .none) (pl : IsPart vl lo) (pu : IsPart vu hi)
    (h : Q (((sIx n 0 lo : Nat) : Int), 1, sIx n n hi - sIx n 0 lo) s) : wpAny (model prog w) A (Builtin.Slice.sliceApplied (.ref sl) (pure (n : Int))) Q E s := by
  obtain ⟨os, hos, hcs, hds⟩ := id hs
  unfold Builtin.Slice.sliceApplied Builtin.Slice.sliceFields
  refine wpAny_bind (wpAny_bind (wpAny_field hos hds (x := vl) rfl (wpAny_bind (wpAny_field hos hds (x := vu) rfl (wpAny_bind (wpAny_field hos hds (x := .none) rfl (wpAny_pure ?_)))))))
  refine wpAny_bind (slicePart_none ?_)
  show wpAny _ _ (if ((1 : Int) == 0) = true then _ else _) _ _ s
  rw [if_neg (by decide)]
  refine wpAny_bind (slicePart_ pl (wpAny_bind (slicePart_ pu (wpAny_bind (wpAny_pure ?_)))))
  show wpAny _ _ (match Builtin.Slice.sliceAdjust lo hi 1 (n : Int) with | (lo, hi) => pure (lo, (1 : Int), Builtin.Slice.slicePlaces lo hi 1)) _ _ s
  rw [adjust_gen lo hi n]
  show wpAny _ _ (pure (((sIx n 0 lo : Nat) : Int), (1 : Int), Builtin.Slice.slicePlaces ((sIx n 0 lo : Nat) : Int) ((sIx n n hi : Nat) : Int) 1)) _ _ s
  rw [places_gen]
  exact wpAny_pure h
theorem pick_gen (xs : Array Value) (i k : Nat) : ((List.range k).filterMap fun (m : Nat) => xs[((i : Int) + (m : Int) * 1).toNat]?).toArray = ((xs.toList.drop i).take k).toArray := by
  have e : (fun (m : Nat) => xs[((i : Int) + (m : Int) * 1).toNat]?) = fun m => xs[i + m]? := by
    funext m
    have : ((i : Int) + (m : Int) * 1).toNat = i + m := by omega
    rw [this]
  rw [e]
  have := pick_run xs i k
  rw [List.filterMap_map] at this
  have e2 : ((fun x => xs[x]?) ∘ fun x => i + x) = fun m => xs[i + m]? := rfl
  rw [e2] at this
  rw [this]

theorem getItem_tuple_cut {t sl : Addr} {items : Array Value} {vl vu : Value} {lo hi : Option Int} {Q : Value → Shared → Prop} (ht : IsTup s.heap t items) (hs : s.heap.IsSliceOf sl vl vu .none) (pl : IsPart vl lo) (pu : IsPart vu hi)
    (hw : ¬ (sIx items.size 0 lo = 0 ∧ sIx items.size items.size hi = items.size))
    (h : Q (.ref s.heap.objs.size) { s with heap := s.heap.push { cls := .type "tuple", data := .seq ((items.toList.drop (sIx items.size 0 lo)).take (sIx items.size items.size hi - sIx items.size 0 lo)).toArray } })
    (hsz : items.size ≤ sizeLine) : wpAny (model prog w) A (getItem (.ref t) (.ref sl)) Q E s := by
  have htake : sizeOk (.seq ((items.toList.drop (sIx items.size 0 lo)).take (sIx items.size items.size hi - sIx items.size 0 lo)).toArray) := by
    show ((items.toList.drop (sIx items.size 0 lo)).take (sIx items.size items.size hi - sIx items.size 0 lo)).toArray.size ≤ sizeLine
    rw [List.size_toArray, List.length_take, List.length_drop, Array.length_toList]
    omega
  have hj : sIx items.size items.size hi ≤ items.size := sIx_le _ _ (Nat.le_refl _) hi
  obtain ⟨os, hos, hcs, hds⟩ := id hs
  have hTs : s.TypeIs (.ref sl) "slice" := ⟨os, hos, hcs⟩
  unfold getItem
  try with_reducible refine wpAny_holding ?_
  first | refine wpAny_bind (wpAny_pure ?_) | skip
  refine wpAny_bind (wpAny_sequenceKey ht.typeIs (by decide) ?_)
  refine wpAny_bind (wpAny_callSpecial?_slot (name := Str.ofString "__getitem__") ht.typeIs PyProof.Rows.slot_tuple_getitem
    (wpAny_call_entry PyProof.Rows.slot_tuple_getitem ht.typeIs entry_tuple_getitem ?_ (args_tuple_getitem _ _)))
  show wpAny _ _ (Builtin.Tuple.tupleItemsOf (.ref t) >>= _) _ _ s
  refine wpAny_bind (tupleItemsOf_ ht ?_)
  refine wpAny_bind (wpAny_typeOf hTs ?_)
  rw [if_pos (by decide)]
  refine wpAny_bind (sliceApplied_gen hs pl pu ?_)
  have hno : ¬ ((((sIx items.size 0 lo : Nat) : Int) == 0 && (1 : Int) == 1 && (sIx items.size items.size hi - sIx items.size 0 lo) == items.size) = true) := by
    intro q
    rw [Bool.and_eq_true, Bool.and_eq_true] at q
    have q1 : ((sIx items.size 0 lo : Nat) : Int) = 0 := eq_of_beq q.1.1
    have q2 : sIx items.size items.size hi - sIx items.size 0 lo = items.size := eq_of_beq q.2
    exact hw ⟨by omega, by omega⟩
  show wpAny _ _ (if (((sIx items.size 0 lo : Nat) : Int) == 0 && (1 : Int) == 1 && (sIx items.size items.size hi - sIx items.size 0 lo) == items.size) = true then _ else _) _ _ s
  rw [if_neg hno, pick_gen]
  first
    | exact wpAny_bind (m := Builtin.Tuple.tupleExact _) (wpAny_newObj_type (wpAny_pure ⟨_, rfl, wpAny_pure h⟩) htake)
    | exact wpAny_bind (m := Builtin.Tuple.tupleExact _) (wpAny_newObj_type (wpAny_bind (wpAny_pure (wpAny_pure ⟨_, rfl, wpAny_pure h⟩))) htake)
    | exact wpAny_bind (wpAny_bind (m := Builtin.Tuple.tupleExact _) (wpAny_newObj_type (wpAny_pure (wpAny_pure ⟨_, rfl, wpAny_pure h⟩)) htake))
    | exact wpAny_bind (wpAny_bind (m := Builtin.Tuple.tupleExact _) (wpAny_newObj_type (wpAny_pure ⟨_, rfl, wpAny_pure h⟩) htake))
end
end HT

namespace L2
open PySem PySem.Spec PyProof.Rows

/-! ### the parts of a slice -/
abbrev TO := St → Hp → (Option Int → Hp → Prop) → Prop
/-- a slice's part (left out, or an int) -/
def PO (X : Cx) (e : Option Expr) (t : TO) : Prop :=
  ∀ (pins : List (Addr × Obj)) (s : Shared) (σ : St) (H : Hp) (Q : Option Int → Hp → Prop), Inv X pins σ H s → t σ H Q →
    wpAny (model X.prog X.w) X.A (evalPart e X.env) (fun u s' => ∃ o H', Inv X pins σ H' s' ∧ IsPart u o ∧ Q o H') X.xe s
def tNoPart : TO := fun _ H Q => Q none H
theorem intsAre_of {ns : List Int} : ∀ {us : List Value}, Vals (ns.map V.int) us → IntsAre us ns := by
  induction ns with
  | nil => intro us r; rw [List.map_nil] at r; cases r; exact .nil
  | cons n ns ih =>
    intro us r
    rw [List.map_cons] at r
    cases r with
    | cons r1 r2 =>
      obtain ⟨t, e⟩ := r1
      subst e
      exact .cons n t (ih r2)

section
variable {X : Cx} {e : Expr} {te : TE} {lo hi : Option Expr} {tl th : TO} {pos p2 : Pos}

theorem po_none : PO X none tNoPart := by
  intro pins s σ H Q I h
  rw [evalPart_none]
  exact wpAny_pure ⟨none, H, I, .none, h⟩
/-- what a slice of a value is, by values: the slice object stands at sl -/
def SlR (X : Cx) (r : V → Option Int → Option Int → Hp → VK → Prop) : Prop :=
  ∀ (pins : List (Addr × Obj)) (s : Shared) (σ : St) (H : Hp) (x : V) (v vl vu : Value) (lo hi : Option Int) (sl : Addr) (Q : VK), Inv X pins σ H s → RelV x v → s.heap.IsSliceOf sl vl vu .none → IsPart vl lo → IsPart vu hi → r x lo hi H Q →
    ∃ T id, typeLookup (.type T) "__getitem__" = pure (some (.builtin id)) ∧ s.TypeIs v T ∧ wpAny (model X.prog X.w) X.A (getItem v (.ref sl)) (EP X pins σ Q) X.xe s
theorem SlR.or {r r' : V → Option Int → Option Int → Hp → VK → Prop} (h : SlR X r) (h' : SlR X r') : SlR X (fun x lo hi H Q => r x lo hi H Q ∨ r' x lo hi H Q) := by
  intro pins s σ H x v vl vu lo hi sl Q I rx hs pl pu q
  rcases q with q | q
  · exact h pins s σ H x v vl vu lo hi sl Q I rx hs pl pu q
  · exact h' pins s σ H x v vl vu lo hi sl Q I rx hs pl pu q
def tSl (r : V → Option Int → Option Int → Hp → VK → Prop) (te : TE) (tl th : TO) : TE := fun σ H Q => te σ H fun x H1 => tl σ H1 fun l H2 => th σ H2 fun u H3 => r x l u H3 Q
/-- a[lo:hi], any a -/
theorem pe_slice {r : V → Option Int → Option Int → Hp → VK → Prop} (hr : SlR X r) (he : PE X e te) (hl : PO X lo tl) (hu : PO X hi th) : PE X (.Subscript e (.Slice lo hi none p2) pos) (tSl r te tl th) := by
  intro pins s σ H Q I h
  refine Subscript_ (thn (he pins s σ H _ I h) fun v s1 ⟨x, H1, I1, r1, q1⟩ => ?_)
  refine wpAny_Slice (thn (hl pins s1 σ H1 _ I1 q1) fun vl s2 ⟨l, H2, I2, pl, q2⟩ => thn (hu pins s2 σ H2 _ I2 q2) fun vu s3 ⟨u, H3, I3, pu, q3⟩ => ?_)
  rw [evalPart_none]
  refine wpAny_pure ?_
  have I4 : Inv X pins σ H3 { s3 with heap := s3.heap.push { cls := .type "slice", data := .fields #[vl, vu, .none] } } := I3.kept (t' := s3.toks) fun b ob q => Heap.get?_push_of_some _ q
  obtain ⟨T, id, hT, ht, hg⟩ := hr pins { s3 with heap := s3.heap.push { cls := .type "slice", data := .fields #[vl, vu, .none] } } σ H3 x v vl vu l u s3.heap.objs.size Q I4 r1 (Heap.IsSliceOf.new ..) pl pu q3
  show wpAny (model X.prog X.w) X.A (subscriptTail e (.Slice lo hi none p2) v (.ref s3.heap.objs.size)) (EP X pins σ Q) X.xe { s3 with heap := s3.heap.push { cls := .type "slice", data := .fields #[vl, vu, .none] } }
  exact tail_any (ops := [.ref s3.heap.objs.size, v]) ht hT hg (by with_unfolding_all rfl)

/-- the items of xs[lo:hi] -/
def cutV (xs : List V) (lo hi : Option Int) : List V := (xs.drop (HT.sIx xs.length 0 lo)).take (HT.sIx xs.length xs.length hi - HT.sIx xs.length 0 lo)
theorem cutV_length (xs : List V) (lo hi : Option Int) : (cutV xs lo hi).length ≤ xs.length := by
  unfold cutV
  rw [List.length_take, List.length_drop]
  omega
/-- t[lo:hi], not the whole of it (the whole would be t itself) -/
def rSlT (K : PySem.W.Frag) : V → Option Int → Option Int → Hp → VK → Prop := fun x lo hi H Q => ∃ a xs, x = .ref a ∧ SqT K H a xs ∧
  ¬ (HT.sIx xs.length 0 lo = 0 ∧ HT.sIx xs.length xs.length hi = xs.length) ∧ ∀ p, H p = none → Q (.ref p) (upd H p (.tup (cutV xs lo hi)))
theorem sl_tup : SlR X (rSlT X.K) := by
  intro pins s σ H x v vl vu lo hi sl Q I rx hs pl pu h
  obtain ⟨a, xs, rfl, hx, hw, q⟩ := h
  cases rx
  obtain ⟨its, r, ht, hz⟩ := I.tuple hx
  have hlen : its.toArray.size = xs.length := by rw [List.size_toArray]; exact r.length.symm
  refine ⟨"tuple", _, PyProof.Rows.slot_tuple_getitem.lookup, ht.typeIs, ?_⟩
  refine HT.getItem_tuple_cut ht hs pl pu (by rw [hlen]; exact hw) ?_ (by rw [hlen]; exact hz)
  rw [hlen]
  refine ⟨.ref s.heap.objs.size, _, I.laid (t' := s.toks) (o := .tup (cutV xs lo hi)) (fun b ob q => Heap.get?_push_of_some _ q) (Nat.le_refl _) ?_, rfl, q _ (I.hok.fresh (Nat.le_refl _))⟩
  exact ⟨Nat.le_trans (cutV_length xs lo hi) hz, _, (r.drop (HT.sIx xs.length 0 lo)).take (HT.sIx xs.length xs.length hi - HT.sIx xs.length 0 lo), IsTup.new _ _⟩

/-! ### t < u, t + u -/
end
end L2

namespace L2
open PySem PySem.Spec PyProof.Rows

/-! ### places -/
/-- the place that an index of any sign means -/
def ixN (n : Nat) (i : Int) : Option Nat := if 0 ≤ i then (if i < n then some i.toNat else none) else if -(n : Int) ≤ i then some (i + n).toNat else none
def atI {α : Type} (xs : List α) (i : Int) : Option α := (ixN xs.length i).bind fun j => xs[j]?
theorem ixN_seq {n : Nat} {i : Int} {j : Nat} (h : ixN n i = some j) : seqIndex? i n = some j ∧ j < n ∧ -(n : Int) ≤ i ∧ i < n := by
  unfold ixN at h
  by_cases h0 : 0 ≤ i
  · rw [if_pos h0] at h
    by_cases h1 : i < n
    · rw [if_pos h1] at h
      have e : i.toNat = j := Option.some.inj h
      exact ⟨by rw [seqIndex_of h0 h1, e], by omega, by omega, h1⟩
    · rw [if_neg h1] at h; cases h
  · rw [if_neg h0] at h
    by_cases h1 : -(n : Int) ≤ i
    · rw [if_pos h1] at h
      have e : (i + n).toNat = j := Option.some.inj h
      exact ⟨by rw [seqIndex_neg (by omega) h1, e], by omega, h1, by omega⟩
    · rw [if_neg h1] at h; cases h
theorem atI_get {α : Type} {xs : List α} {i : Int} {v : α} (h : atI xs i = some v) : ∃ j, seqIndex? i xs.length = some j ∧ xs[j]? = some v ∧ j < xs.length ∧ -(xs.length : Int) ≤ i ∧ i < xs.length := by
  unfold atI at h
  cases e : ixN xs.length i with
  | none => rw [e] at h; cases h
  | some j =>
    rw [e] at h
    obtain ⟨h1, h2, h3, h4⟩ := ixN_seq e
    exact ⟨j, h1, h, h2, h3, h4⟩
theorem atI_nat {α : Type} {xs : List α} {j : Nat} {v : α} (h : xs[j]? = some v) : atI xs (j : Int) = some v := by
  have hj : j < xs.length := (List.getElem?_eq_some_iff.mp h).1
  have e : ixN xs.length (j : Int) = some j := by
    unfold ixN
    rw [if_pos (by omega), if_pos (by omega)]; simp
  unfold atI; rw [e]; exact h
/-! ### what may be subscripted -/
/-- what stands as an index of a plain subscript -/
def PlainIx (b : Expr) : Prop := ∀ o i, subscripted b false o i = operate [o, i] (getItem o i)
/-- a subscript by values -/
def IxR (X : Cx) (r : R2) : Prop :=
  ∀ (value slice : Expr) (pins : List (Addr × Obj)) (s : Shared) (σ : St) (H : Hp) (x y : V) (v u : Value) (Q : VK), Inv X pins σ H s → RelV x v → RelV y u → r x y H Q →
    subscripted slice false v u = operate [v, u] (getItem v u) → wpAny (model X.prog X.w) X.A (subscriptTail value slice v u) (EP X pins σ Q) X.xe s
/-- a call of a builtin's method by values: the receiver, the arguments -/
def MtR (X : Cx) (id : String) (r : V → List V → Hp → VK → Prop) : Prop :=
  ∀ (pins : List (Addr × Obj)) (s : Shared) (σ : St) (H : Hp) (x : V) (xs : List V) (v : Value) (us : List Value) (Q : VK), Inv X pins σ H s → RelV x v → Vals xs us → r x xs H Q →
    wpAny (model X.prog X.w) X.A (call (.builtin id) (v :: us)) (EP X pins σ Q) X.xe s
section
variable {X : Cx} {a b : Expr} {ta tb : TE} {pos : Pos}
theorem IxR.or {r r' : R2} (h : IxR X r) (h' : IxR X r') : IxR X (fun x y H Q => r x y H Q ∨ r' x y H Q) := by
  intro value slice pins s σ H x y v u Q I rx ry q hs
  rcases q with q | q
  · exact h value slice pins s σ H x y v u Q I rx ry q hs
  · exact h' value slice pins s σ H x y v u Q I rx ry q hs
theorem MtR.or {id : String} {r r' : V → List V → Hp → VK → Prop} (h : MtR X id r) (h' : MtR X id r') : MtR X id (fun x xs H Q => r x xs H Q ∨ r' x xs H Q) := by
  intro pins s σ H x xs v us Q I rx rs q
  rcases q with q | q
  · exact h pins s σ H x xs v us Q I rx rs q
  · exact h' pins s σ H x xs v us Q I rx rs q
/-- a[b] -/
theorem pe_ix {r : R2} (hr : IxR X r) (ha : PE X a ta) (hb : PE X b tb) (hs : PlainIx b) : PE X (.Subscript a b pos) (tOp r ta tb) := by
  intro pins s σ H Q I h
  exact Subscript_ (binT ha hb I h fun v u s2 x y H2 I2 rx ry q => hr a b pins s2 σ H2 x y v u Q I2 rx ry q (hs _ _))

def rIxL (K : PySem.W.Frag) : R2 := fun x y H Q => ∃ p xs i v, x = .ref p ∧ y = .int i ∧ SqL K H p xs ∧ atI xs i = some v ∧ Q v H
def rIxT (K : PySem.W.Frag) : R2 := fun x y H Q => ∃ p xs i v, x = .ref p ∧ y = .int i ∧ SqT K H p xs ∧ atI xs i = some v ∧ Q v H
def rIxS : R2 := fun x y H Q => ∃ z i c, x = .str z ∧ y = .int i ∧ z.length ≤ sizeLine ∧ atI z.cps.toList i = some c ∧ Q (.str ⟨#[c]⟩) H
theorem ix_list : IxR X (rIxL X.K) := by
  intro value slice pins s σ H x y v u Q I rx ry h hs
  obtain ⟨p, xs, i, z, rfl, rfl, hq, he, q⟩ := h
  cases rx
  obtain ⟨t, rfl⟩ := ry
  obtain ⟨its, r, pl, hz⟩ := I.list hq
  obtain ⟨j, h1, h2, h3, h4, h5⟩ := atI_get he
  obtain ⟨w, ew, rw'⟩ := r.get h2
  have hl := r.length
  have hn := line63
  have fin : EP X pins σ Q w s := ⟨z, H, I, rw', q⟩
  by_cases h0 : 0 ≤ i
  · have hj : i.toNat = j := by
      rw [seqIndex_of h0 h5] at h1
      exact Option.some.inj h1
    exact item_listR pl.isList h0 (by omega) (by rw [hj]; simpa using ew) fin hs
  · have hj : (i + (its.toArray.size : Int)).toNat = j := by
      rw [seqIndex_neg (by omega) h4] at h1
      rw [List.size_toArray, ← hl]
      exact Option.some.inj h1
    exact subscriptTail_builtinR (x := w) pl.isList.typeIs slot_list_getitem.lookup
      (wpAny_getItem_list_neg (Q := fun r s' => r = w ∧ EP X pins σ Q r s') pl.isList (by omega) (by rw [List.size_toArray] <;> omega) (by omega) (by rw [hj]; simpa using ew) ⟨rfl, fin⟩) hs
theorem ix_tup : IxR X (rIxT X.K) := by
  intro value slice pins s σ H x y v u Q I rx ry h hs
  obtain ⟨p, xs, i, z, rfl, rfl, hq, he, q⟩ := h
  cases rx
  obtain ⟨t, rfl⟩ := ry
  obtain ⟨its, r, pl, hz⟩ := I.tuple hq
  obtain ⟨j, h1, h2, h3, h4, h5⟩ := atI_get he
  obtain ⟨w, ew, rw'⟩ := r.get h2
  have hl := r.length
  have hn := line63
  have fin : EP X pins σ Q w s := ⟨z, H, I, rw', q⟩
  exact subscriptTail_builtinR (x := w) pl.typeIs slot_tuple_getitem.lookup
    (getItem_tuple (j := j) (Q := fun r s' => r = w ∧ EP X pins σ Q r s') pl (by omega) (by omega) (by rw [List.size_toArray, ← hl]; exact h1) (by simpa using ew) ⟨rfl, fin⟩) hs
theorem ix_str : IxR X rIxS := by
  intro value slice pins s σ H x y v u Q I rx ry h hs
  obtain ⟨z, i, c, rfl, rfl, hz, he, q⟩ := h
  obtain ⟨t, rfl⟩ := rx
  obtain ⟨t', rfl⟩ := ry
  obtain ⟨j, h1, h2, h3, h4, h5⟩ := atI_get he
  have hl : z.cps.toList.length = z.length := by simp [Str.length]
  rw [hl] at h1 h4 h5
  have hn := line63
  exact tail_any (typeIs_str s z t) slot_str_getitem.lookup (getItem_str (c := c) (by
    have e1 : decide (i < -(2 ^ 63 : Int)) = false := decide_eq_false (by omega)
    have e2 : decide (i ≥ 2 ^ 63) = false := decide_eq_false (by omega)
    rw [e1, e2, Bool.or_false]) (by rw [h1]; simpa using h2) ⟨.str ⟨#[c]⟩, H, I.tok _, ⟨_, rfl⟩, q⟩) hs
/-! ### xs[i] = v, any sign -/
/-- the list's object behind a store -/
theorem mapSeq_set (its : List Value) (n j : Nat) (u : Value) : Obj.mapSeq (·.setIfInBounds j u) { cls := .type "list", data := .seq its.toArray n } = { cls := .type "list", data := .seq (its.set j u).toArray n } := by
  simp [Obj.mapSeq]
theorem Inv.lst {pins : List (Addr × Obj)} {σ : St} {H : Hp} {s : Shared} {p : Addr} {xs : List V} (I : Inv X pins σ H s) (h : H p = some (.lst xs)) :
    ∃ (its : List Value) (n : Nat), Vals xs its ∧ s.heap.get? p = some { cls := .type "list", data := .seq its.toArray n } ∧ xs.length ≤ sizeLine := by
  obtain ⟨z, its, n, r, e⟩ := I.hok p _ h
  exact ⟨its, n, r, e, z⟩
/-- the list at p is written by an update of its object -/
theorem Inv.lstUpd {pins : List (Addr × Obj)} {σ : St} {H : Hp} {s : Shared} {p : Addr} {xs ys : List V} {its its' : List Value} {n n' : Nat} {f : Obj → Obj} (I : Inv X pins σ H s) (h : H p = some (.lst xs))
    (ho : s.heap.get? p = some { cls := .type "list", data := .seq its.toArray n }) (hf : f { cls := .type "list", data := .seq its.toArray n } = { cls := .type "list", data := .seq its'.toArray n' }) (r : Vals ys its') (hz : ys.length ≤ sizeLine) (t : Nat) :
    Inv X pins σ (upd H p (.lst ys)) { s with heap := s.heap.update p f, toks := t } := by
  have e : (s.heap.update p f).get? p = some { cls := .type "list", data := .seq its'.toArray n' } := by
    rw [Heap.get?_update_self f ho (by rw [hf] <;> rfl), hf]
  refine I.write (x := p) (e := p) (by rw [h]; trivial) (.inl rfl) (fun b u hb q => (Heap.get?_update_other _ _ (Ne.symm hb)).trans q) ⟨_, e⟩ ?_
  exact ⟨hz, its', n', r, e⟩
def rSetL : V → V → V → Hp → (Hp → Prop) → Prop := fun o i v H Q => ∃ p xs k j, o = .ref p ∧ i = .int k ∧ H p = some (.lst xs) ∧ ixN xs.length k = some j ∧ Q (upd H p (.lst (xs.set j v)))
theorem set_list : PSet X rSetL := by
  intro pins s σ H o i v ov iv u Q I ro ri rv h
  obtain ⟨p, xs, k, j, rfl, rfl, hp, hj, q⟩ := h
  cases ro
  obtain ⟨t, rfl⟩ := ri
  obtain ⟨its, n, r, ho, hz⟩ := I.lst hp
  obtain ⟨h1, h2, h3, h4⟩ := ixN_seq hj
  have hl := r.length
  have hn := line63
  have I' : Inv X pins σ (upd H p (.lst (xs.set j v))) { s with heap := s.heap.update p (Obj.mapSeq (·.setIfInBounds j u)) } :=
    I.lstUpd hp ho (mapSeq_set its n j u) (r.set rv j) (by rw [List.length_set]; exact hz) s.toks
  by_cases h0 : 0 ≤ k
  · have hk : k.toNat = j := by
      rw [seqIndex_of h0 h4] at h1
      exact Option.some.inj h1
    exact PySem.W.ki_setAt ho h0 (by omega) (by rw [List.size_toArray, ← hl]; exact h4) (by rw [hk]; exact ⟨_, I', q⟩)
  · have hk : (k + (its.toArray.size : Int)).toNat = j := by
      rw [seqIndex_neg (by omega) h3] at h1
      rw [List.size_toArray, ← hl]
      exact Option.some.inj h1
    exact PySem.W.ki_setBack ho (by omega) (by rw [List.size_toArray, ← hl]; exact h3) (by omega) (by rw [hk]; exact ⟨_, I', q⟩)

/-! ### slices -/
theorem slice_bounds (lo hi : Option Int) (n : Nat) : (sliceBounds lo hi none n).1 = ((HT.sIx n 0 lo : Nat) : Int) ∧ (sliceBounds lo hi none n).2.1 = ((HT.sIx n n hi : Nat) : Int) ∧ (sliceBounds lo hi none n).2.2 = 1 := by
  refine ⟨?_, ?_, rfl⟩
  · cases lo with
    | none => simp [sliceBounds, HT.sIx]
    | some i =>
      simp only [sliceBounds, HT.sIx, Option.getD_none, show (1 : Int) > 0 by decide, if_true]
      by_cases h : i < 0
      · simp only [h, if_true] <;> omega
      · simp only [h, if_false] <;> omega
  · cases hi with
    | none => simp [sliceBounds, HT.sIx]
    | some i =>
      simp only [sliceBounds, HT.sIx, Option.getD_none, show (1 : Int) > 0 by decide, if_true]
      by_cases h : i < 0
      · simp only [h, if_true] <;> omega
      · simp only [h, if_false] <;> omega
theorem slicePick_cut (its : List Value) (lo hi : Option Int) : slicePick its.toArray lo hi none = ((its.drop (HT.sIx its.length 0 lo)).take (HT.sIx its.length its.length hi - HT.sIx its.length 0 lo)).toArray := by
  obtain ⟨h1, h2, h3⟩ := slice_bounds lo hi its.toArray.size
  unfold slicePick
  rw [h1, h2, h3]
  simp only [sliceRange_one, pick_run, List.size_toArray] <;> rfl
/-- xs[lo:hi] of a list: a new list -/
def rSlL (K : PySem.W.Frag) : V → Option Int → Option Int → Hp → VK → Prop := fun x lo hi H Q => ∃ a xs, x = .ref a ∧ SqL K H a xs ∧ ∀ p, H p = none → Q (.ref p) (upd H p (.lst (cutV xs lo hi)))
theorem sl_list : SlR X (rSlL X.K) := by
  intro pins s σ H x v vl vu lo hi sl Q I rx hs pl pu h
  obtain ⟨a, xs, rfl, hx, q⟩ := h
  cases rx
  obtain ⟨its, r, ht, hz⟩ := I.list hx
  have hlen := r.length
  refine ⟨"list", _, slot_list_getitem.lookup, ht.isList.typeIs, ?_⟩
  refine wpAny_getItem_list_slice ht.isList hs pl pu .none (by simp) ?_ (by rw [List.size_toArray] <;> omega)
  rw [slicePick_cut, ← hlen]
  refine ⟨.ref s.heap.objs.size, _, I.laid (t' := s.toks) (o := .lst (cutV xs lo hi)) (fun b ob q => Heap.get?_push_of_some _ q) (Nat.le_refl _) ?_, rfl, q _ (I.hok.fresh (Nat.le_refl _))⟩
  exact ⟨Nat.le_trans (cutV_length xs lo hi) hz, _, 0, (r.drop (HT.sIx xs.length 0 lo)).take (HT.sIx xs.length xs.length hi - HT.sIx xs.length 0 lo), Heap.get?_push_size _ rfl⟩

/-! ### in, not in: flat items -/
def flatV : V → Bool
  | .non => true
  | .bl _ => true
  | .int _ => true
  | .str _ => true
  | _ => false
/-- == of flat values -/
def eqV : V → V → Bool
  | .non, .non => true
  | .bl a, .bl b => a == b
  | .bl a, .int b => (if a then 1 else 0) == b
  | .int a, .bl b => a == (if b then 1 else 0)
  | .int a, .int b => a == b
  | .str a, .str b => a == b
  | _, _ => false
theorem eqAt_V {A : Around} {s : Shared} {y x : V} {u v : Value} (ry : RelV y u) (rx : RelV x v) (fy : flatV y = true) (fx : flatV x = true) : SeqAt.EqAt A s u v (eqV y x) := by
  cases y with
  | non =>
    cases ry
    cases x with
    | non => cases rx; exact SeqAt.EqAt.same _
    | bl b => cases rx; exact SeqAt.EqAt.none_bool b
    | int b => obtain ⟨t, rfl⟩ := rx; exact SeqAt.EqAt.none_int b t
    | str b => obtain ⟨t, rfl⟩ := rx; exact SeqAt.EqAt.none_str b t
    | _ => exact absurd (show false = true from fx) Bool.false_ne_true
  | bl a =>
    cases ry
    cases x with
    | non => cases rx; exact SeqAt.EqAt.bool_none a
    | bl b => cases rx; exact SeqAt.EqAt.bool_bool a b
    | int b => obtain ⟨t, rfl⟩ := rx; exact SeqAt.EqAt.bool_int a b t
    | str b => obtain ⟨t, rfl⟩ := rx; exact SeqAt.EqAt.bool_str a b t
    | _ => exact absurd (show false = true from fx) Bool.false_ne_true
  | int a =>
    obtain ⟨t', rfl⟩ := ry
    cases x with
    | non => cases rx; exact SeqAt.EqAt.int_none a t'
    | bl b => cases rx; exact SeqAt.EqAt.int_bool a t' b
    | int b => obtain ⟨t, rfl⟩ := rx; exact SeqAt.EqAt.int_int a t' b t
    | str b => obtain ⟨t, rfl⟩ := rx; exact SeqAt.EqAt.int_str a t' b t
    | _ => exact absurd (show false = true from fx) Bool.false_ne_true
  | str a =>
    obtain ⟨t', rfl⟩ := ry
    cases x with
    | non => cases rx; exact SeqAt.EqAt.str_none a t'
    | bl b => cases rx; exact SeqAt.EqAt.str_bool a t' b
    | int b => obtain ⟨t, rfl⟩ := rx; exact SeqAt.EqAt.str_int a t' b t
    | str b => obtain ⟨t, rfl⟩ := rx; exact SeqAt.EqAt.str_str a t' b t
    | _ => exact absurd (show false = true from fx) Bool.false_ne_true
  | _ => exact absurd (show false = true from fy) Bool.false_ne_true
/-! ### len, list(x), tuple(x) of any list or tuple that is read -/
theorem call_len_seq : CallR X (.builtin "len") (fun xs H Q => ∃ p ys, xs = [.ref p] ∧ (SqL X.K H p ys ∨ SqT X.K H p ys) ∧ Q (.int ys.length) H) := by
  intro pins s σ H xs us Q I r h
  obtain ⟨p, ys, rfl, hq, q⟩ := h
  obtain ⟨u, rfl, rx⟩ := vals1 r
  cases rx
  have hn := line63
  rcases hq with hq | hq
  · obtain ⟨its, r', pl, hz⟩ := I.list hq
    have hlen := r'.length
    exact Calls.call_len_list pl.isList (by simp only [List.size_toArray] <;> omega) ⟨.int ys.length, H, I.tok _, ⟨s.toks + 1, by rw [List.size_toArray, hlen]⟩, q⟩
  · obtain ⟨its, r', pl, hz⟩ := I.tuple hq
    have hlen := r'.length
    exact len_tuple pl (by simp only [List.size_toArray] <;> omega) ⟨.int ys.length, H, I.tok _, ⟨s.toks + 1, by rw [List.size_toArray, hlen]⟩, q⟩
theorem call_len_str : CallR X (.builtin "len") (fun xs H Q => ∃ z, xs = [.str z] ∧ z.length ≤ sizeLine ∧ Q (.int z.length) H) := by
  intro pins s σ H xs us Q I r h
  obtain ⟨z, rfl, hz, q⟩ := h
  obtain ⟨u, rfl, t, rfl⟩ := vals1 r
  have hn := line63
  exact len_str (by omega) ⟨.int z.length, H, I.tok _, ⟨_, rfl⟩, q⟩
theorem CallR.or {f : Value} {r r' : List V → Hp → VK → Prop} (h : CallR X f r) (h' : CallR X f r') : CallR X f (fun xs H Q => r xs H Q ∨ r' xs H Q) := by
  intro pins s σ H xs us Q I rs q
  rcases q with q | q
  · exact h pins s σ H xs us Q I rs q
  · exact h' pins s σ H xs us Q I rs q
theorem call_list_of : CallR X (.type "list") (fun xs H Q => ∃ p ys, xs = [.ref p] ∧ (SqL X.K H p ys ∨ SqT X.K H p ys) ∧ ∀ l, H l = none → Q (.ref l) (upd H l (.lst ys))) := by
  intro pins s σ H xs us Q I r h
  obtain ⟨p, ys, rfl, hq, q⟩ := h
  obtain ⟨u, rfl, rx⟩ := vals1 r
  cases rx
  have fin : ∀ (its : List Value), Vals ys its → ys.length ≤ sizeLine → ∀ (h' : Heap) (c' : Nat), (∀ b o', s.heap.get? b = some o' → h'.get? b = some o') →
      h'.get? s.heap.objs.size = some { cls := .type "list", dict := none, data := .seq its.toArray c', slots := #[] } → EP X pins σ Q (.ref s.heap.objs.size) { s with heap := h' } := fun its r' hz h' c' kp e =>
    ⟨.ref s.heap.objs.size, _, I.laid (t' := s.toks) kp (Nat.le_refl _) (show ObjOk X.prog X.w _ h' _ (.lst ys) from ⟨hz, its, c', r', e⟩), rfl, q _ (I.hok.fresh (Nat.le_refl _))⟩
  rcases hq with hq | hq
  · obtain ⟨its, r', pl, hz⟩ := I.list hq
    have hlen := r'.length
    obtain ⟨o, ho, hc, n, hd⟩ := pl.isList
    exact call_list_seq p (.inl rfl) ho hc hd (fun h' c' kp e => fin its r' hz h' c' kp e) (by simp only [List.size_toArray] <;> omega)
  · obtain ⟨its, r', pl, hz⟩ := I.tuple hq
    have hlen := r'.length
    obtain ⟨o, ho, hc, n, hd⟩ := pl
    exact call_list_seq p (.inr rfl) ho hc hd (fun h' c' kp e => fin its r' hz h' c' kp e) (by simp only [List.size_toArray] <;> omega)
/-! ### the call of a builtin's method: o.m(..) -/
/-- the value is of that builtin type -/
def tyV (K : PySem.W.Frag) (T : String) (x : V) (H : Hp) : Prop := match x with
  | .str _ => T = "str"
  | .int _ => T = "int"
  | .ref p => (T = "list" ∧ ∃ xs, SqL K H p xs) ∨ (T = "tuple" ∧ ∃ o, K.lookup p = some o ∧ o.cls = .type "tuple" ∧ o.dict = none) ∨
      (T = "dict" ∧ ((∃ kvs, H p = some (.dK kvs)) ∨ ∃ kvs, H p = some (.dT kvs))) ∨ (T = "set" ∧ ∃ S n, H p = some (.set S n))
  | _ => False
theorem tyV_is {pins : List (Addr × Obj)} {σ : St} {H : Hp} {s : Shared} {T : String} {x : V} {v : Value} (I : Inv X pins σ H s) (r : RelV x v) (ty : tyV X.K T x H) :
    s.TypeIs v T ∧ ∀ a, v = .ref a → ∃ ob, s.heap.get? a = some ob ∧ ob.dict = none := by
  cases x with
  | str z =>
    obtain ⟨t, rfl⟩ := r
    cases (show T = "str" from ty)
    exact ⟨typeIs_str s z t, fun _ e => nomatch e⟩
  | int i =>
    obtain ⟨t, rfl⟩ := r
    cases (show T = "int" from ty)
    exact ⟨typeIs_int s i t, fun _ e => nomatch e⟩
  | ref p =>
    cases r
    rcases ty with ⟨rfl, xs, hq⟩ | ⟨rfl, o, hk, hc, hd⟩ | ⟨rfl, hk⟩ | ⟨rfl, S, n, hk⟩
    · obtain ⟨its, _, pl, _⟩ := I.list hq
      refine ⟨pl.isList.typeIs, fun a e => ?_⟩
      cases e
      obtain ⟨o, n, e, c, hd, _⟩ := pl
      exact ⟨o, e, hd⟩
    · refine ⟨⟨o, I.kIn p o hk, hc⟩, fun a e => ?_⟩
      cases e
      exact ⟨o, I.kIn _ o hk, hd⟩
    · have z : ∃ o, s.heap.get? p = some o ∧ o.ExactDict := by
        rcases hk with ⟨kvs, hk⟩ | ⟨kvs, hk⟩
        · obtain ⟨_, _, _, _, o, _, _, e, ex, _⟩ := I.hok p _ hk
          exact ⟨o, e, ex⟩
        · obtain ⟨_, _, _, _, o, _, _, e, ex, _⟩ := I.hok p _ hk
          exact ⟨o, e, ex⟩
      obtain ⟨o, e, ex⟩ := z
      refine ⟨⟨o, e, ex.1⟩, fun a e2 => ?_⟩
      cases e2
      exact ⟨o, e, ex.2.1⟩
    · obtain ⟨o, _, _, _, e, ex, _⟩ := I.hok p _ hk
      refine ⟨⟨o, e, ex.1⟩, fun a e2 => ?_⟩
      cases e2
      exact ⟨o, e, ex.2.1⟩
  | _ => exact False.elim ty
variable {o e : Expr} {es : List Expr} {to : TE} {t : TA} {name : Str} {apos cpos : Pos} {T id : String} {r : V → List V → Hp → VK → Prop}
/- xs.append(e), list.index on a module's tuple .. are MtR facts of 06m -/
end
end L2

namespace L2
open PySem PySem.Spec PyProof.Rows

def MtM (X : Cx) (id : String) (r : V → List V → Hp → VK → Prop) : Prop :=
  ∀ (pins : List (Addr × Obj)) (s : Shared) (σ : St) (H : Hp) (x : V) (xs : List V) (v : Value) (us : List Value) (Q : VK), Inv X pins σ H s → RelV x v → Vals xs us → r x xs H Q →
    wpAny (model X.prog X.w) X.A (call (.builtin id) (v :: us)) (EP X pins σ Q) X.xe s

/-! ### lists of values -/
theorem Vals.one : ∀ {x : V} {us : List Value}, Vals [x] us → ∃ u, us = [u] ∧ RelV x u
  | _, _, .cons r .nil => ⟨_, rfl, r⟩
theorem Vals.two : ∀ {x y : V} {us : List Value}, Vals [x, y] us → ∃ u v, us = [u, v] ∧ RelV x u ∧ RelV y v
  | _, _, _, .cons r (.cons q .nil) => ⟨_, _, rfl, r, q⟩
theorem Vals.rep {xs : List V} {us : List Value} (h : Vals xs us) : ∀ k : Nat, Vals (List.replicate k xs).flatten (List.replicate k us).flatten
  | 0 => .nil
  | k + 1 => by
    rw [List.replicate_succ, List.replicate_succ, List.flatten_cons, List.flatten_cons]
    exact Vals.append h (Vals.rep h k)
theorem foldl_rep (its : List Value) : ∀ (k : Nat) (acc : List Value),
    List.foldl (fun x1 x2 => x1 ++ x2) acc.toArray (List.replicate k its.toArray) = (acc ++ (List.replicate k its).flatten).toArray
  | 0, acc => by simp
  | k + 1, acc => by
    have e : acc.toArray ++ its.toArray = (acc ++ its).toArray := by simp
    have e2 : (acc ++ its) ++ (List.replicate k its).flatten = acc ++ (List.replicate (k + 1) its).flatten := by
      rw [List.replicate_succ, List.flatten_cons, List.append_assoc]
    rw [← e2, ← foldl_rep its k (acc ++ its), ← e, List.replicate_succ, List.foldl_cons]

section
variable {X : Cx} {pins : List (Addr × Obj)} {σ : St} {H : Hp} {s : Shared} {l b : Addr} {xs ys zs : List V}

/-! ### the two steps: a tracked list is rewritten, a new list is laid -/
theorem Inv.lset {its its' : List Value} {n : Nat} {f : Array Value → Array Value} {t' : Nat} (I : Inv X pins σ H s) (hH : H l = some (.lst xs))
    (e : s.heap.get? l = some { cls := .type "list", data := .seq its.toArray n }) (hf : f its.toArray = its'.toArray) (hv : Vals ys its') (hz : ys.length ≤ sizeLine) :
    Inv X pins σ (upd H l (.lst ys)) { s with heap := s.heap.update l (Obj.mapSeq f), toks := t' } := by
  have q := PySem.IsL.update e f
  rw [hf] at q
  refine I.write (x := l) (e := l) (by rw [hH]; exact trivial) (.inl rfl) (fun b' u hb hu => (Heap.get?_update_other s.heap (Obj.mapSeq f) (Ne.symm hb)).trans hu) ⟨_, q⟩ ?_
  exact ⟨hz, its', _, hv, q⟩
theorem Inv.lnew {its : List Value} {t' : Nat} (I : Inv X pins σ H s) (hv : Vals ys its) (hz : ys.length ≤ sizeLine) :
    Inv X pins σ (upd H s.heap.objs.size (.lst ys)) { s with heap := s.heap.push { cls := .type "list", data := .seq its.toArray }, toks := t' } :=
  I.laid (fun _ _ q => Heap.get?_push_of_some _ q) (Nat.le_refl _) ⟨hz, its, 0, hv, Heap.get?_push_size _ rfl⟩
theorem Inv.fresh (I : Inv X pins σ H s) : H s.heap.objs.size = none := I.hok.fresh (Nat.le_refl _)
theorem Inv.lstM (I : Inv X pins σ H s) (hH : H l = some (.lst xs)) : xs.length ≤ sizeLine ∧ ∃ (its : List Value) (n : Nat), Vals xs its ∧ xs.length = its.length ∧ s.heap.get? l = some { cls := .type "list", data := .seq its.toArray n } := by
  obtain ⟨z, its, n, r, e⟩ := I.hok l _ hH
  exact ⟨z, its, n, r, r.length, e⟩

theorem notLongL {n : Nat} (h : n ≤ sizeLine) : Builtin.List.listTooLong n = false := by
  unfold Builtin.List.listTooLong
  exact decide_eq_false (by omega)
end

section
variable {X : Cx}

/-! ### methods -/
def rAppend : V → List V → Hp → VK → Prop := fun x vs H Q => ∃ l xs y, x = .ref l ∧ vs = [y] ∧ H l = some (.lst xs) ∧ xs.length < sizeLine ∧ Q .non (upd H l (.lst (xs ++ [y])))
theorem mt_append : MtM X "list.append" rAppend := by
  intro pins s σ H x vs v us Q I rx rv h
  obtain ⟨l, xs, y, rfl, rfl, hH, hz, q⟩ := h
  cases rx
  obtain ⟨u, rfl, ru⟩ := rv.one
  obtain ⟨z, its, n, r, hl, e⟩ := I.lstM hH
  refine call_meets F.slot_list_append ⟨_, e, rfl⟩ F.entry_list_append (F.args_list_append_2 _ _) (PySem.list_append l its.toArray n u (by rw [List.size_toArray]; omega)) ⟨e, ?_⟩
  refine ⟨.non, _, I.lset (its' := its ++ [u]) hH e (by simp) (r.append (.cons ru .nil)) ?_, rfl, q⟩
  rw [List.length_append, List.length_singleton]
  omega

def rExtend : V → List V → Hp → VK → Prop := fun x vs H Q => ∃ l b xs zs, x = .ref l ∧ vs = [.ref b] ∧ H l = some (.lst xs) ∧ H b = some (.lst zs) ∧ xs.length + zs.length ≤ sizeLine ∧ Q .non (upd H l (.lst (xs ++ zs)))
theorem mt_extend : MtM X "list.extend" rExtend := by
  intro pins s σ H x vs v us Q I rx rv h
  obtain ⟨l, b, xs, zs, rfl, rfl, hH, hB, hz, q⟩ := h
  cases rx
  obtain ⟨u, rfl, ru⟩ := rv.one
  cases ru
  obtain ⟨z, its, n, r, hl, e⟩ := I.lstM hH
  obtain ⟨z2, its2, n2, r2, hl2, e2⟩ := I.lstM hB
  have hsz : its.toArray.size + its2.toArray.size ≤ sizeLine := by rw [List.size_toArray, List.size_toArray]; omega
  have hlong : ¬ (!its.toArray.isEmpty && Builtin.List.listTooLong (its.toArray.size + its2.toArray.size)) = true := by
    rw [notLongL hsz, Bool.and_false]
    exact Bool.false_ne_true
  refine call_meets F.slot_list_extend ⟨_, e, rfl⟩ F.entry_list_extend (F.args_list_extend_2 _ _)
    (AutoSeq1.list_extend_list_list_0 l its.toArray n b its2.toArray n2 hlong (by rw [List.size_toArray]; omega) (by omega)) ⟨e, e2, ?_⟩
  refine ⟨.non, _, I.lset (its' := its ++ its2) hH e (by simp) (r.append r2) ?_, rfl, q⟩
  rw [List.length_append]
  omega

/-! ### list + list, list += list, list * int -/
def rCat : R2 := fun x y H Q => ∃ l b xs zs, x = .ref l ∧ y = .ref b ∧ H l = some (.lst xs) ∧ H b = some (.lst zs) ∧ xs.length + zs.length ≤ sizeLine ∧ ∀ p, H p = none → Q (.ref p) (upd H p (.lst (xs ++ zs)))
theorem op_cat : OpR X (binaryOp .Add) rCat := by
  intro pins s σ H x y v u Q I rx ry h
  obtain ⟨l, b, xs, zs, rfl, rfl, hH, hB, hz, q⟩ := h
  cases rx
  cases ry
  obtain ⟨z, its, n, r, hl, e⟩ := I.lstM hH
  obtain ⟨z2, its2, n2, r2, hl2, e2⟩ := I.lstM hB
  refine PySem.P.add_list e e2 ?_ (by rw [List.size_toArray, List.size_toArray]; omega)
  have ea : its.toArray ++ its2.toArray = (its ++ its2).toArray := by simp
  rw [ea]
  exact ⟨.ref _, _, I.lnew (t' := s.toks) (r.append r2) (by rw [List.length_append]; omega), rfl, q _ I.fresh⟩
/-- a list times an int (a negative one is nothing) -/
def rRep : R2 := fun x y H Q => ∃ l k xs, x = .ref l ∧ y = .int k ∧ H l = some (.lst xs) ∧ -(2 ^ 63) ≤ k ∧ k < 2 ^ 63 ∧ xs.length * k.toNat ≤ sizeLine ∧
  ∀ p, H p = none → Q (.ref p) (upd H p (.lst (List.replicate k.toNat xs).flatten))
theorem len_rep {α : Type} (xs : List α) (k : Nat) : (List.replicate k xs).flatten.length = k * xs.length := by
  induction k with
  | zero => simp
  | succ k ih => rw [List.replicate_succ, List.flatten_cons, List.length_append, ih, Nat.succ_mul, Nat.add_comm]
theorem op_rep : OpR X (binaryOp .Mult) rRep := by
  intro pins s σ H x y v u Q I rx ry h
  obtain ⟨l, k, xs, rfl, rfl, hH, h1, h2, hz, q⟩ := h
  cases rx
  obtain ⟨t, rfl⟩ := ry
  obtain ⟨z, its, n, r, hl, e⟩ := I.lstM hH
  have hlen : its.toArray.size * k.toNat ≤ sizeLine := by rw [List.size_toArray, ← hl]; exact hz
  have hcap : ¬ its.toArray.size * k.toNat > (2 ^ 63 - 1) / 8 := by
    have : (sizeLine : Nat) ≤ (2 ^ 63 - 1) / 8 := by decide
    omega
  have hfit : ¬ (!Builtin.List.listFitsIndex k) = true := by
    rw [fitsIndex_both h1 h2]
    exact Bool.false_ne_true
  have hlong : ¬ Builtin.List.listTooLong (its.toArray.size * k.toNat) = true := by
    rw [notLongL hlen]
    exact Bool.false_ne_true
  have hnew : List.foldl (fun x1 x2 => x1 ++ x2) #[] (List.replicate (if its.toArray.isEmpty = true then 0 else k.toNat) its.toArray) = (List.replicate k.toNat its).flatten.toArray := by
    have f0 : ∀ m : Nat, List.foldl (fun x1 x2 => x1 ++ x2) #[] (List.replicate m its.toArray) = (List.replicate m its).flatten.toArray := fun m => by
      have := foldl_rep its m []
      rw [List.nil_append] at this
      exact this
    rw [f0]
    cases its with
    | nil => simp
    | cons a r' => rw [if_neg (by simp)]
  refine wpAny_binaryOp_repeat_ref (T := "list") (U := "int") (by decide) ⟨_, e, rfl⟩ (fun s' => typeIs_int s' k t) noFill_list_mul F.fills_int_mul F.slot_int_rmul repeat_list F.slot_int_index.lookup
    (call_meets F.slot_int_rmul (typeIs_int s k t) F.entry_int_rmul (F.args_int_rmul_2 _ _) (int___rmul___int_list k t l its.toArray n)
      ⟨e, rfl, ⟨_, e, rfl⟩, call_meets F.slot_list_mul ⟨_, e, rfl⟩ F.entry_list_mul (F.args_list_mul_2 _ _) (AutoListH.list___mul___list_int_3 l its.toArray n k t hfit hcap hlong) ⟨e, ?_⟩⟩)
  rw [hnew]
  exact ⟨.ref _, _, I.lnew (t' := s.toks) (r.rep k.toNat) (by rw [len_rep, Nat.mul_comm]; exact hz), rfl, q _ I.fresh⟩

/-! ### del xs[i] -/
end

/-! ### xs[a:b] = ys -/
section
variable {prog : Program} {w : World} {A : Around} {E : Value → Shared → Prop} {s : Shared}
end

section
variable {X : Cx}
end
end L2

namespace Att
open PySem PySem.W PySem.Calls PyProof.Rows

/-! ### the script -/
theorem ints_of_wellAll {P : Params} {h : Heap} : ∀ (ns : List Int) (vs : List Value), WellAll P h vs (ns.map WData.int) → IntsAre vs ns := by
  intro ns
  induction ns with
  | nil =>
    intro vs w
    rw [List.map_nil] at w
    cases w
    exact .nil
  | cons n ns ih =>
    intro vs w
    rw [List.map_cons] at w
    cases w with
    | cons a b =>
      cases a
      exact .cons _ _ (ih _ b)

theorem script_of {l : OpenLaw} {n : Nat} (hn : l.most = some n) {P : Params} {h : Heap} {args : List WData} {vals : List Value}
    (hpre : l.row.toRowW.claim.pre args = true) (hwl : WellAll P h vals args) :
    ∃ a vs ns, vals = [Value.ref a] ∧ args = [WData.list (ns.map WData.int)] ∧ h.get? a = some { cls := .type "list", data := .seq vs.toArray } ∧ IntsAre vs ns ∧ ns.length ≤ n := by
  have hsh : WShape.hasAll [] args [.list .int] = true := (pre_splitW hpre).1
  have hc : l.pre.holds [] { args := args } = true := (pre_splitW hpre).2
  obtain ⟨d, r, rfl, h1, h2⟩ := hasAllW_cons hsh
  obtain rfl := hasAllW_nil h2
  obtain ⟨xs, rfl, h3⟩ := hasW_list h1
  obtain ⟨ns, rfl⟩ := items_int h3
  have hlen : ns.length ≤ n := by
    unfold OpenLaw.pre at hc
    have h4 : (WTm.not (.lt (.lit (.int (n : Int))) (.len (.arg 0)))).holds [] { args := [.list (ns.map .int)] } = true := by
      have h4 := (holds_andW hc).1
      rw [hn] at h4
      exact h4
    have h5 := condW_of h4 (w_not (w_lt w_lit (w_len_list (w_arg rfl))))
    rw [List.length_map] at h5
    refine Nat.le_of_not_lt fun q => ?_
    have q' : (n : Int) < ((ns.length : Nat) : Int) := by omega
    first
      | (rw [decide_eq_true q'] at h5; exact absurd h5 (by decide))
      | (simp at h5; omega)
  cases hwl with
  | cons w1 w2 =>
    cases w2
    cases w1 with
    | list ho hall => exact ⟨_, _, ns, rfl, rfl, ho, ints_of_wellAll ns _ hall, hlen⟩

theorem post_true (l : OpenLaw) (args : List WData) : l.row.toRowW.claim.post args (.bool true) args = true :=
  postW_of (r := l.row.toRowW) (X := (true == true))
    (show WShape.has [] (.bool true) .bool = true by first | rfl | decide | simp [WShape.has, WShape.arms, WShape.armsAll])
    (show (WTm.eq .res (.lit (.bool true))).value [] { args := args, res := some (.bool true), after := args } = some (.bool (true == true)) from w_eq_bool (w_res rfl) w_lit) rfl

/-! ### the attachment: holds_open's last premise (the goal 'hc' behind k_head) from a wpAny of the law's body -/
/-- the same from a codeAny of the CALL (for a layer whose function contracts speak of calls) -/
theorem attach_call {l : OpenLaw} {n : Nat} {q : Program} {loose : List Str} {XP : (Str → Option Value) → Heap → Prop} {YP : World → Heap → Prop} {d : DefRec}
    (hn : l.most = some n) (hdf : d.params.defaults = [])
    (call : ∀ (w : World) (s₀ s₁ : Shared) (mg mb : Str → Option Value) (fa : Addr) (o : Obj) (pm cd doc : Value) (a : Addr) (vs : List Value) (ns : List Int),
      Ground q loose [] XP w s₀ mg mb s₁.heap → YP w s₁.heap →
      s₁.heap.get? fa = some o → o.data = .func (docDef d.name d.params d.body d.scope pm cd doc) → s₁.heap.CodeRec cd d.name → mg d.name = some (.ref fa) →
      s₁.heap.get? a = some { cls := .type "list", data := .seq vs.toArray } → IntsAre vs ns → ns.length ≤ n → s₁.gens = #[] →
      codeAny (model l.prog w) callerA (.call (.ref fa) ⟨[.ref a], []⟩) (fun r s' => r = .ok (.ret (.bool true)) ∧ OldK s₁.heap s'.heap ∧ s'.os = s₁.os ∧ AllBare s'.gens) s₁) :
    WalkO q loose XP YP l.row.toRowW d [] (fun f vs => PySem.call f vs) := by
  intro w s₀ s₁ mg mb G Y fa o pm cd doc dV kV ho hd hcd hD hmg hg args vals as hpre hlay hrd hwl hlo
  obtain rfl : dV = .none := Dflts.none hD hdf
  obtain rfl : kV = .none := Dflts.noKw hD
  obtain ⟨a, vs, ns, rfl, rfl, hobj, hints, hlen⟩ := script_of hn hpre hwl
  refine enter_call (codeAny_mono (call w s₀ s₁ mg mb fa o pm cd doc a vs ns G Y ho (fd_plain hd) hcd hmg hobj hints hlen hg) fun r s' hq => ?_)
  obtain ⟨rfl, h2, h3, h4⟩ := hq
  exact ⟨.inl ⟨.bool true, .bool true, [], rfl, fun _ => rfl, .bool true, post_true l _, fun _ => ⟨List.Pairwise.nil, fun _ hm => (nomatch hm)⟩⟩, h2, h3, h4⟩

/-! ### rules over ANY heap (no ledger) from facts about the written part K: the library's own take a ledger (News) for what they write -/
section
variable {prog : Program} {w : World} {A : Around} {E : Value → Shared → Prop} {s : Shared} {K : Frag}

/-! the whole heap as the ledger: makes every rule that writes through a ledger a rule over any heap -/
def ledger (h : Heap) (L d : Addr) : List (Addr × Obj) := (List.range h.objs.size).filterMap fun a => if a = L ∨ a = d then none else (h.get? a).map fun o => (a, o)
end
end Att

namespace L2
open PySem PySem.Spec PyProof.Rows

theorem vals_ints : ∀ {vs : List Value} {ns : List Int}, IntsAre vs ns → Vals (ns.map V.int) vs
  | _, _, .nil => .nil
  | _, _, .cons n t h => .cons ⟨t, rfl⟩ (vals_ints h)

/-- nothing is tracked but the script, known to the object (or it is an object of the module) -/
def Only (H : Hp) : Prop := ∀ b, H b = none ∨ ∃ o xs, H b = some (.frz o (.lst xs))

/-- THE HEAD: the law's promise, at the heap behind the top. F, the promise of the law's def, may use that base is part of the heap (so K.In base, base.Ns mainGlobals mg stand in Mod) -/
theorem law_call {P : Program} {w : World} {K : PySem.W.Frag} {mg mb : Str → Option Value} {CX : CXT} {k : Nat} {fa a : Addr} {fd : FuncData} {x : Str} {sp : Sp} {s₁ : Shared} {vs : List Value} {ns : List Int}
    (KX : K.In s₁.heap) (hns : s₁.heap.Ns mainGlobals mg) (hb : s₁.heap.Ns builtinsNs mb) (hbb : ∀ x : Str, x ≠ "__name__" → mb x = bootBuiltins x) (hlim : s₁.heap.NoLimit) (hg : s₁.gens = #[])
    (ha : s₁.heap.get? a = some { cls := .type "list", data := .seq vs.toArray }) (hi : IntsAre vs ns) (hl : ns.length ≤ sizeLine) (hr : Room k callerA)
    (F : ∀ base : Heap, K.In base → base.Ns mainGlobals mg → FnOk P w K mg base CX k fa fd [x] sp) (hbind : ∀ (s : Shared) (u : Value), BindsTo s fd ⟨[u], []⟩ [(x, u)])
    (hsp : ∀ H : Hp, Only H → SqL K H a (ns.map V.int) → sp [.ref a] H (fun v _ => v = .bl true) fun _ _ _ => False)
    (hCX : ∀ H e s', CX [] H s₁ (fun _ _ _ => False) e s' → False) :
    codeAny (model P w) callerA (.call (.ref fa) ⟨[.ref a], []⟩) (fun r s' => r = .ok (.ret (.bool true)) ∧ OldK s₁.heap s'.heap ∧ s'.os = s₁.os ∧ AllBare s'.gens) s₁ := by
  have rv := vals_ints hi
  have lenV := hi.length
  -- from an abstract heap in which nothing but the script may be tracked
  have core : ∀ H : Hp, Only H → SqL K H a (ns.map V.int) → HOk P w H s₁.heap → (∀ b, H b ≠ none → b = a) → (H a ≠ none → K.lookup a = none) →
      codeAny (model P w) callerA (.call (.ref fa) ⟨[.ref a], []⟩) (fun r s' => r = .ok (.ret (.bool true)) ∧ OldK s₁.heap s'.heap ∧ s'.os = s₁.os ∧ AllBare s'.gens) s₁ := by
    intro H hO hS hok hA hK
    have base_of : ∀ {b : Addr} {o : Obj}, s₁.heap.get? b = some o → H b = none → (hidT s₁.heap H).get? b = some o := fun e n => hidT_get e n
    have noA : ∀ {b : Addr} {o : Obj} {es : Array DictEntry} {ep : Nat}, s₁.heap.get? b = some o → o.data = .dict es ep → H b = none := fun {b o es ep} e d => by
      cases q : H b with
      | none => rfl
      | some u =>
        have e' : b = a := hA b (by rw [q]; simp)
        subst e'
        rw [ha] at e; cases e
        have d' : Data.seq vs.toArray _ = Data.dict es ep := d
        cases d'
    have nsK : ∀ {b : Addr} {m : Str → Option Value}, s₁.heap.Ns b m → (hidT s₁.heap H).Ns b m := fun {b m} ⟨o, es, ep, e, d, r⟩ => ⟨o, es, ep, base_of e (noA e d), d, r⟩
    have hKb : K.In (hidT s₁.heap H) := fun b o e => base_of (KX b o e) (by
      cases q : H b with
      | none => rfl
      | some u =>
        have e' : b = a := hA b (by rw [q]; simp)
        subst e'
        rw [hK (by rw [q]; simp)] at e; cases e)
    have hM : Mod K mg (hidT s₁.heap H) := ⟨hKb, nsK hns, ⟨mb, nsK hb, hbb⟩, let ⟨mc, h1, h2⟩ := hlim; ⟨mc, nsK h1, h2⟩⟩
    have e0 : Env0 P w K mg (hidT s₁.heap H) callerA [] s₁ H := ⟨rfl, hM, fun b o e => of_hidT e, Nat.le_of_eq (hidT_size _ _), trivial, fun b hb => absurd (show b ∈ ([] : List Addr) from hb) (by simp), hok, .of_eq hg⟩
    refine codeAny_mono ((F _ hKb (nsK hns)).run callerA [] s₁ H ⟨[.ref a], []⟩ [.ref a] [.ref a] _ _ hr e0 (hbind s₁ (.ref a)) (.cons rfl .nil) (hsp H hO hS)) fun r s' h => ?_
    cases r with
    | error e => exact (hCX H e s' h).elim
    | ok fl =>
      cases fl with
      | next => exact False.elim h
      | brk => exact False.elim h
      | cont => exact False.elim h
      | ret u =>
        obtain ⟨v, H', os, bare, un, hok', r', q⟩ := h
        have q' : v = .bl true := q
        subst q'
        obtain rfl : u = Value.bool true := r'
        refine ⟨rfl, OldK.of_keep fun b o e => ?_, os, bare⟩
        cases q : H b with
        | none => exact un.keep b o e q (by intro z; exact absurd (show b ∈ ([] : List Addr) from z) (by simp)) (by simp)
        | some u =>
          rcases hO b with z | ⟨ob, xs, z⟩
          · rw [q] at z; cases z
          · have z2 := un.frzs b ob _ z
            obtain ⟨e1, _⟩ := hok b _ z
            obtain ⟨e2, _⟩ := hok' b _ z2
            rw [e] at e1; cases e1
            exact e2
  cases hk : K.lookup a with
  | some o =>
    -- the script is one of the module's own objects
    have e := KX a o hk
    rw [ha] at e
    cases e
    refine core (fun _ => none) (fun _ => .inl rfl) (.inr ⟨_, vs.toArray, _, hk, rfl, rfl, rfl, by rw [List.size_toArray, lenV]; exact hl, by simpa using rv⟩) (fun b u z => by have z' : (none : Option HO) = some u := z; cases z') (fun b z => absurd rfl z) fun z => absurd rfl z
  | none =>
    refine core (fun b => if b = a then some (.frz { cls := .type "list", data := .seq vs.toArray } (.lst (ns.map V.int))) else none) (fun b => ?_) (.inl (.inr ⟨{ cls := .type "list", data := .seq vs.toArray }, if_pos rfl⟩)) (fun b u z => ?_) (fun b z => ?_) fun _ => hk
    · by_cases hb : b = a
      · exact .inr ⟨_, _, if_pos hb⟩
      · exact .inl (if_neg hb)
    · by_cases hb : b = a
      · have z' := (if_pos hb).symm.trans z
        cases z'
        subst hb
        exact ⟨ha, by rw [List.length_map]; exact hl, vs, _, rv, ha⟩
      · have z' := (if_neg hb).symm.trans z
        cases z'
    · by_cases hb : b = a
      · exact hb
      · exact absurd (if_neg hb) z
end L2

namespace L2
open PySem PySem.Spec PyProof.Rows

/-- the goal that k_head leaves (case hc), from the law's promise. F gives the function object fd (K's own) once, then the promise over every base -/
theorem walk_of {l : PySem.W.OpenLaw} {n k : Nat} {q : Program} {loose : List Str} {XP : (Str → Option Value) → Heap → Prop} {YP : World → Heap → Prop} {d : DefRec} {K : Params → PySem.W.Frag} {CX : World → CXT} {sp : World → Sp} {x : Str}
    (hn : l.most = some n) (hn2 : n ≤ sizeLine) (hdf : d.params.defaults = []) (hr : Room k callerA)
    (hY : ∀ (w : World) (h : Heap), YP w h → (K w.params).In h)
    (F : ∀ (w : World) (mg : Str → Option Value) (fa : Addr) (h : Heap), (K w.params).In h → h.Ns mainGlobals mg → mg d.name = some (.ref fa) →
      ∃ fd : FuncData, (∀ (s : Shared) (u : Value), BindsTo s fd ⟨[u], []⟩ [(x, u)]) ∧
        ∀ base : Heap, (K w.params).In base → base.Ns mainGlobals mg → FnOk l.prog w (K w.params) mg base (CX w) k fa fd [x] (sp w))
    (hsp : ∀ (w : World) (H : Hp) (a : Addr) (ns : List Int), ns.length ≤ n → Only H → SqL (K w.params) H a (ns.map V.int) → sp w [.ref a] H (fun v _ => v = .bl true) fun _ _ _ => False)
    (hCX : ∀ (w : World) (H : Hp) (s : Shared) (e : Value) (s' : Shared), CX w [] H s (fun _ _ _ => False) e s' → False) :
    PySem.W.WalkO q loose XP YP l.row.toRowW d [] (fun f vs => PySem.call f vs) := by
  refine Att.attach_call hn hdf fun w s₀ s₁ mg mb fa o pm cd doc a vs ns G Y ho hd hcd hmg hobj hints hlen hg => ?_
  have KX := hY w _ Y
  obtain ⟨fd, hb, hF⟩ := F w mg fa _ KX G.T.g hmg
  exact law_call KX G.T.g G.T.b G.T.builtins G.T.nolimit hg hobj hints (Nat.le_trans hlen hn2) hr hF hb (fun H hO hS => hsp w H a ns hlen hO hS) fun H e s' => hCX w H s₁ e s'
end L2

/-! SHORT WORDS over the layer: a def of the text, its body, what a loop and a test want. -/
namespace L2
open PySem PySem.Spec PyProof.Rows

/-! ### the text by places -/
/-- the j-th statement of a class's body -/
def inClass (s : Stmt) (j : Nat) : Stmt := match s with
  | .ClassDef _ _ _ body _ _ _ _ _ _ _ => body.getD j (.Pass ⟨0, 0, 0, 0⟩)
  | _ => .Pass ⟨0, 0, 0, 0⟩
def defArgs (s : Stmt) : Arguments := match s with
  | .FunctionDef _ a _ _ _ _ _ _ _ _ => a
  | _ => { posonlyargs := [], args := [], vararg := none, kwonlyargs := [], kw_defaults := [], kwarg := none, defaults := [] }
def defBody (s : Stmt) : List Stmt := match s with
  | .FunctionDef _ _ b _ _ _ _ _ _ _ => b
  | _ => []
def defScope (s : Stmt) : Scope := match s with
  | .FunctionDef _ _ _ _ _ _ sc _ _ _ => sc
  | _ => { kind := .function, names := [], isGenerator := false, isCoroutine := false }

/-! ### no exception leaves a def -/
abbrev CX0 : CXT := fun _ _ _ _ _ _ => False
abbrev E0 : XK := fun _ _ _ => False
theorem pass0 {X : Cx} : Passes CX0 X E0 := fun _ _ _ _ _ _ _ h => h.elim

/-! ### a def (or method) of the text as it stands behind the top -/
structure Fun (K : PySem.W.Frag) (x qual : Str) (st : Stmt) (f : Addr) (fd : FuncData) : Prop where
  ex : ∃ (oc : Value) (od : Option Addr) (kV doc pm : Value) (an : Option Addr) (cdv ct : Value) (osl : Array (Option Value)),
    fd = PySem.W.fnOf x qual (defArgs st) (defBody st) (defScope st) .none kV doc pm an cdv ct ∧ K.lookup f = some ⟨oc, od, .func fd, osl⟩ ∧ PySem.W.codeIn K cdv qual = true
  kp : PySem.W.keepIn K (.ref f) = true
section
variable {P : Program} {w : World} {K : PySem.W.Frag} {mg : Str → Option Value} {base : Heap}
/-- THE RULE for a def: its body as a term of rules, and the reading of that term -/
theorem Fun.ok {x qual : Str} {st : Stmt} {f : Addr} {fd : FuncData} {N ps : List Str} {k : Nat} {sp : Sp} (F : Fun K x qual st f fd) (S : FnScope N ps (defScope st)) (len : ∀ vs H Q E, sp vs H Q E → vs.length = ps.length)
    (hbody : ∀ (cdv : Value) (A : Around) (outer : List Env) (s : Shared) (H : Hp) (vs : List V) (Q : VK) (E : XK), Room k (A.deeper (envOfC qual (defScope st) s.heap.objs.size f cdv)) → sp vs H Q E →
      ∃ t, PSs (cxOf CX0 P w K mg base N qual (defScope st) f cdv A outer s H E).nox (defBody st) t ∧ t { nx := fun _ H' => Q .non H', rt := Q } (start N vs) H) : FnOk P w K mg base CX0 (k + 1) f fd ps sp := by
  obtain ⟨oc, od, kV, doc, pm, an, cdv, ct, osl, rfl, lk, hcd⟩ := F.ex
  refine fn_of lk hcd S len fun A outer s H vs Q E hr hsp => ?_
  obtain ⟨t, h, q⟩ := hbody cdv A outer s H vs Q E hr hsp
  exact ⟨t, h.nox, q⟩
/-- how its arguments bind (no defaults): h is «fun _ _ _ _ _ _ us hl => match us, hl with | [_, _], _ => rfl», one _ a parameter -/
theorem Fun.binds {x qual : Str} {st : Stmt} {f : Addr} {fd : FuncData} {ps : List Str} (F : Fun K x qual st f fd)
    (h : ∀ (kV doc pm : Value) (an : Option Addr) (cdv ct : Value) (us : List Value), us.length = ps.length → bindArgs (PySem.W.fnOf x qual (defArgs st) (defBody st) (defScope st) .none kV doc pm an cdv ct) ⟨us, []⟩ = pure (ps.zip us)) : Binds K fd ps [] := by
  obtain ⟨oc, od, kV, doc, pm, an, cdv, ct, osl, rfl, lk, hcd⟩ := F.ex
  exact .all (h kV doc pm an cdv ct)
theorem fun_mk {x qual : Str} {st : Stmt} {f : Addr} {oc : Value} {od an : Option Addr} {osl : Array (Option Value)} {kV doc pm cdv ct : Value} (l : K.lookup f = some ⟨oc, od, .func (PySem.W.fnOf x qual (defArgs st) (defBody st) (defScope st) .none kV doc pm an cdv ct), osl⟩)
    (c : PySem.W.codeIn K cdv qual = true) (k : PySem.W.keepIn K (.ref f) = true) : Fun K x qual st f (PySem.W.fnOf x qual (defArgs st) (defBody st) (defScope st) .none kV doc pm an cdv ct) := ⟨⟨oc, od, kV, doc, pm, an, cdv, ct, osl, rfl, l, c⟩, k⟩
end
/-! ### expressions in short: the name that stands in the i-th slot -/
section
variable {X : Cx}
end

/-! ### tests -/
theorem iteF {A B : Prop} (h : B) : if false = true then A else B := by
  rw [if_neg Bool.false_ne_true]
  exact h
theorem iteT {A B : Prop} (h : A) : if true = true then A else B := by
  rw [if_pos rfl]
  exact h
/-! ### heaps -/
/-- all that was tracked is as it was -/
def Same (H H' : Hp) : Prop := ∀ b o, H b = some o → H' b = some o
theorem Same.refl (H : Hp) : Same H H := fun _ _ h => h
theorem Same.trans {H H1 H2 : Hp} (a : Same H H1) (b : Same H1 H2) : Same H H2 := fun c o h => b c o (a c o h)
theorem Same.free {H H' : Hp} (e : Same H H') {l : Addr} (h : H' l = Option.none) : H l = Option.none := by
  cases q : H l with
  | none => rfl
  | some o =>
    rw [e l o q] at h
    cases h
theorem Same.seq {K : PySem.W.Frag} {H H' : Hp} {a : Addr} {xs : List V} (e : Same H H') (h : SqL K H a xs) : SqL K H' a xs := by
  rcases h with (h | ⟨o, h⟩) | h
  · exact .inl (.inl (e _ _ h))
  · exact .inl (.inr ⟨o, e _ _ h⟩)
  · exact .inr h

end L2

set_option Elab.async false
set_option linter.all false
set_option maxRecDepth 100000
set_option maxHeartbeats 1000000
namespace L2
open PySem PySem.Spec PyProof.Rows

/-! ### branches that do not unfold -/
@[irreducible] def br (c : Bool) (A B : Prop) : Prop := if c = true then A else B
section
variable {A B p : Prop} {c : Bool}
theorem br_iff : br c A B = (if c = true then A else B) := by unfold br; rfl
theorem br_T (h : A) : br true A B := by unfold br; exact iteT h
theorem br_F (h : B) : br false A B := by unfold br; exact iteF h
theorem br_any (h1 : c = true → A) (h2 : c = false → B) : br c A B := by
  cases c with
  | true => exact br_T (h1 rfl)
  | false => exact br_F (h2 rfl)
theorem br_dec [Decidable p] (h1 : p → A) (h2 : ¬ p → B) : br (decide p) A B := br_any (fun h => h1 (of_decide_eq_true h)) fun h => h2 (of_decide_eq_false h)
theorem br_dT [Decidable p] (hp : p) (h : A) : br (decide p) A B := br_dec (fun _ => h) fun n => absurd hp n
theorem br_dF [Decidable p] (hp : ¬ p) (h : B) : br (decide p) A B := br_dec (fun n => absurd n hp) fun _ => h
theorem br_not (h : br c B A) : br (!c) A B := by
  cases c with
  | true => unfold br at h ⊢; simpa using h
  | false => unfold br at h ⊢; simpa using h
end

/-! ### heaps -/
/-- all but a is as it was -/
def Chg (a : Addr) (H H' : Hp) : Prop := ∀ b o, b ≠ a → H b = some o → H' b = some o
theorem Chg.upd {H : Hp} {a : Addr} {o : HO} : Chg a H (upd H a o) := fun b u hb e => by rw [upd_ne hb]; exact e
theorem Same.upd {H : Hp} {a : Addr} {o : HO} (h : H a = none) : Same H (L2.upd H a o) := fun b u e => by rw [upd_ne (ne_of_none e h)]; exact e
theorem Same.chg {H0 H H' : Hp} {a : Addr} (s : Same H0 H) (n : H0 a = none) (c : Chg a H H') : Same H0 H' := fun b o e => c b o (ne_of_none e n) (s b o e)
theorem Chg.refl (a : Addr) (H : Hp) : Chg a H H := fun _ _ _ e => e
theorem Chg.trans {H H1 H2 : Hp} {a : Addr} (x : Chg a H H1) (y : Chg a H1 H2) : Chg a H H2 := fun b o h e => y b o h (x b o h e)
theorem Chg.same {H H1 H2 : Hp} {a : Addr} (x : Chg a H H1) (y : Same H1 H2) : Chg a H H2 := fun b o h e => y b o (x b o h e)
theorem Same.at {H H' : Hp} {b : Addr} {o : HO} (s : Same H H') (e : H b = some o) : H' b = some o := s b o e
theorem Chg.at {H H' : Hp} {a b : Addr} {o : HO} (s : Chg a H H') (e : H b = some o) (n : b ≠ a) : H' b = some o := s b o n e
/-! ### names -/
def qV (i : Nat) : TE := fun σ H Q => match σ[i]? with
  | some (some v) => Q v H
  | _ => False
section
variable {X : Cx}
theorem pq (i : Nat) {x : Str} {pos : Pos} (hN : X.N[i]? = some x := by rfl) (hv : Vis X.env.scope x := by first | exact Or.inl rfl | exact Or.inr (Or.inl rfl) | exact Or.inr (Or.inr rfl)) (hd : (x == ("__debug__" : Str)) = false := by decide)
    (hcd : (x == ("__classdict__" : Str)) = false := by decide) : PE X (.Name x pos) (qV i) := fun pins s σ H Q I h => by
  refine pe_var hN hv hd hcd pins s σ H Q I ?_
  unfold qV at h
  split at h
  · rename_i v e
    exact ⟨v, e, h⟩
  · exact h.elim

/-! ### arithmetic -/
@[irreducible] def rMulI (i j : Int) (H : Hp) (Q : VK) : Prop := IntMulOk i j ∧ Q (.int (i * j)) H
@[irreducible] def rDivI (i j : Int) (H : Hp) (Q : VK) : Prop := (j ≠ 0 ∧ j.natAbs.log2 < 9000) ∧ Q (.int (i.fdiv j)) H
@[irreducible] def rModI (i j : Int) (H : Hp) (Q : VK) : Prop := j ≠ 0 ∧ Q (.int (i.fmod j)) H
@[irreducible] def rPowI (i j : Int) (H : Hp) (Q : VK) : Prop := CPow i j ∧ Q (.int (i ^ j.toNat)) H
@[irreducible] def rCatL (a b : Addr) (H : Hp) (Q : VK) : Prop := ∃ xs zs, H a = some (.lst xs) ∧ H b = some (.lst zs) ∧ xs.length + zs.length ≤ sizeLine ∧
  ∀ p H', H p = none → Same H H' → H' p = some (.lst (xs ++ zs)) → Q (.ref p) H'
@[irreducible] def rRepL (a : Addr) (k : Int) (H : Hp) (Q : VK) : Prop := ∃ xs, H a = some (.lst xs) ∧ -(2 ^ 63) ≤ k ∧ k < 2 ^ 63 ∧ xs.length * k.toNat ≤ sizeLine ∧
  ∀ p H', H p = none → Same H H' → H' p = some (.lst (List.replicate k.toNat xs).flatten) → Q (.ref p) H'
def rAddM : R2 := fun x y H Q => match x, y with
  | .int i, .int j => Q (.int (i + j)) H
  | .ref a, .ref b => rCatL a b H Q
  | .str a, .str b => a.length + b.length ≤ sizeLine ∧ Q (.str (a ++ b)) H
  | _, _ => False
def rSubM : R2 := fun x y H Q => match x, y with
  | .int i, .int j => Q (.int (i - j)) H
  | _, _ => False
def rMulM : R2 := fun x y H Q => match x, y with
  | .int i, .int j => rMulI i j H Q
  | .ref a, .int k => rRepL a k H Q
  | _, _ => False
def rDivM : R2 := fun x y H Q => match x, y with
  | .int i, .int j => rDivI i j H Q
  | _, _ => False
def rModM : R2 := fun x y H Q => match x, y with
  | .int i, .int j => rModI i j H Q
  | _, _ => False
def rPowM : R2 := fun x y H Q => match x, y with
  | .int i, .int j => rPowI i j H Q
  | _, _ => False
theorem oAdd : OpR X (binaryOp .Add) rAddM := by
  intro pins s σ H x y v u Q I rx ry h
  unfold rAddM at h
  split at h
  · exact op_add pins s σ H _ _ v u Q I rx ry ⟨_, _, rfl, rfl, h⟩
  · unfold rCatL at h
    obtain ⟨xs, zs, h1, h2, h3, h4⟩ := h
    exact op_cat pins s σ H _ _ v u Q I rx ry ⟨_, _, xs, zs, rfl, rfl, h1, h2, h3, fun p hp => h4 p _ hp (Same.upd hp) upd_same⟩
  · exact op_add_str pins s σ H _ _ v u Q I rx ry ⟨_, _, rfl, rfl, h.1, h.2⟩
  · exact h.elim
theorem oSub : OpR X (binaryOp .Sub) rSubM := by
  intro pins s σ H x y v u Q I rx ry h
  unfold rSubM at h
  split at h
  · exact op_sub pins s σ H _ _ v u Q I rx ry ⟨_, _, rfl, rfl, h⟩
  · exact h.elim
theorem oMul : OpR X (binaryOp .Mult) rMulM := by
  intro pins s σ H x y v u Q I rx ry h
  unfold rMulM at h
  split at h
  · unfold rMulI at h
    obtain ⟨t, rfl⟩ := rx
    obtain ⟨t', rfl⟩ := ry
    exact mul_int ⟨.int _, H, I.tok _, ⟨_, rfl⟩, h.2⟩ h.1
  · unfold rRepL at h
    obtain ⟨xs, h1, h2, h3, h4, h5⟩ := h
    exact op_rep pins s σ H _ _ v u Q I rx ry ⟨_, _, xs, rfl, rfl, h1, h2, h3, h4, fun p hp => h5 p _ hp (Same.upd hp) upd_same⟩
  · exact h.elim
theorem oDiv : OpR X (binaryOp .FloorDiv) rDivM := by
  intro pins s σ H x y v u Q I rx ry h
  unfold rDivM at h
  split at h
  · unfold rDivI at h
    obtain ⟨⟨h1, h2⟩, h3⟩ := h
    obtain ⟨t, rfl⟩ := rx
    obtain ⟨t', rfl⟩ := ry
    exact floordiv_int h1 ⟨.int _, H, I.tok _, ⟨_, rfl⟩, h3⟩ (.inl (PyProof.noPylong_of_log2 h2))
  · exact h.elim
theorem oMod : OpR X (binaryOp .Mod) rModM := by
  intro pins s σ H x y v u Q I rx ry h
  unfold rModM at h
  split at h
  · unfold rModI at h
    exact op_modN pins s σ H _ _ v u Q I rx ry ⟨_, _, rfl, rfl, h.1, h.2⟩
  · exact h.elim
theorem oPow : OpR X (binaryOp .Pow) rPowM := by
  intro pins s σ H x y v u Q I rx ry h
  unfold rPowM at h
  split at h
  · unfold rPowI at h
    exact op_pow pins s σ H _ _ v u Q I rx ry ⟨_, _, rfl, rfl, h.1, h.2⟩
  · exact h.elim
def rNegM : V → Hp → VK → Prop := fun x H Q => match x with
  | .int i => Q (.int (-i)) H
  | _ => False
theorem uNeg : UnR X (unaryOp .USub) rNegM := by
  intro pins s σ H x v Q I rx h
  unfold rNegM at h
  split at h
  · exact un_neg pins s σ H _ v Q I rx ⟨_, rfl, h⟩
  · exact h.elim

/-! how they are read -/
section
variable {i j : Int} {H : Hp} {Q : VK}
theorem mul_rd (h : IntMulOk i j) (q : Q (.int (i * j)) H) : rMulI i j H Q := by unfold rMulI; exact ⟨h, q⟩
theorem log2_lt {n k : Nat} (h : n < 2 ^ k) (hk : 0 < k) : n.log2 < k := by
  by_cases h0 : n = 0
  · subst h0; simpa using hk
  · exact (Nat.log2_lt h0).mpr h
theorem big9000 {j : Int} (h1 : -(10 ^ 240) < j) (h2 : j < 10 ^ 240) : j.natAbs < 2 ^ 2000 := by
  have e : (10 : Int) ^ 240 = ((10 ^ 240 : Nat) : Int) := by norm_cast
  have e2 : (10 : Nat) ^ 240 < 2 ^ 2000 := by decide +kernel
  rw [e] at h1 h2
  generalize hN : (10 : Nat) ^ 240 = N at h1 h2 e2
  generalize hM : (2 : Nat) ^ 2000 = M at e2
  omega
theorem div_rd (h1 : 0 < j) (h2 : j < 10 ^ 240) (q : Q (.int (i / j)) H) : rDivI i j H Q := by
  unfold rDivI
  refine ⟨⟨by omega, ?_⟩, ?_⟩
  · have h := log2_lt (big9000 (j := j) (by have : (0 : Int) < 10 ^ 240 := by decide +kernel
                                            generalize (10 : Int) ^ 240 = N at this; omega) h2) (by decide)
    omega
  · rw [Int.fdiv_eq_ediv_of_nonneg _ (by omega)]; exact q
theorem mod_rd (h1 : 0 < j) (q : Q (.int (i % j)) H) : rModI i j H Q := by
  unfold rModI
  refine ⟨by omega, ?_⟩
  rw [Int.fmod_eq_emod_of_nonneg _ (by omega)]; exact q
theorem pow_rd (h : CPow i j) (q : Q (.int (i ^ j.toNat)) H) : rPowI i j H Q := by unfold rPowI; exact ⟨h, q⟩
theorem cat_rd {a b : Addr} {xs zs : List V} (h1 : H a = some (.lst xs)) (h2 : H b = some (.lst zs)) (h3 : xs.length + zs.length ≤ sizeLine)
    (q : ∀ p H', H p = none → Same H H' → H' p = some (.lst (xs ++ zs)) → Q (.ref p) H') : rCatL a b H Q := by unfold rCatL; exact ⟨xs, zs, h1, h2, h3, q⟩
theorem rep_rd {a : Addr} {k : Int} {xs : List V} (h1 : H a = some (.lst xs)) (h2 : -(2 ^ 63) ≤ k) (h3 : k < 2 ^ 63) (h4 : xs.length * k.toNat ≤ sizeLine)
    (q : ∀ p H', H p = none → Same H H' → H' p = some (.lst (List.replicate k.toNat xs).flatten) → Q (.ref p) H') : rRepL a k H Q := by unfold rRepL; exact ⟨xs, h1, h2, h3, h4, q⟩
end

/-! ### comparisons -/
def rLeM : R2 := fun x y H Q => match x, y with
  | .int i, .int j => Q (.bl (decide (i ≤ j))) H
  | _, _ => False
def rGtM : R2 := fun x y H Q => match x, y with
  | .int i, .int j => Q (.bl (decide (j < i))) H
  | _, _ => False
def rGeM : R2 := fun x y H Q => match x, y with
  | .int i, .int j => Q (.bl (decide (j ≤ i))) H
  | _, _ => False
theorem oLe : OpR X (compareOp .LtE) rLeM := by
  intro pins s σ H x y v u Q I rx ry h
  unfold rLeM at h
  split at h
  · exact op_le pins s σ H _ _ v u Q I rx ry ⟨_, _, rfl, rfl, h⟩
  · exact h.elim
theorem oGt : OpR X (compareOp .Gt) rGtM := by
  intro pins s σ H x y v u Q I rx ry h
  unfold rGtM at h
  split at h
  · exact op_gt pins s σ H _ _ v u Q I rx ry ⟨_, _, rfl, rfl, h⟩
  · exact h.elim
theorem oGe : OpR X (compareOp .GtE) rGeM := by
  intro pins s σ H x y v u Q I rx ry h
  unfold rGeM at h
  split at h
  · exact op_ge pins s σ H _ _ v u Q I rx ry ⟨_, _, rfl, rfl, h⟩
  · exact h.elim
/-- == of two things, to a depth n -/
inductive EqR (K : PySem.W.Frag) (H : Hp) : Nat → V → V → Bool → Prop where
  | flat {n : Nat} {x y : V} (fx : flatV x = true) (fy : flatV y = true) : EqR K H n x y (eqV x y)
  | tup {n : Nat} {a b : Addr} {xs ys : List V} (e : Nat → Bool) (ha : SqT K H a xs) (hb : SqT K H b ys) (h : ∀ (j : Nat) (x y : V), xs[j]? = some x → ys[j]? = some y → EqR K H n x y (e j)) :
      EqR K H (n + 1) (.ref a) (.ref b) ((List.range (min xs.length ys.length)).all e && xs.length == ys.length)
  | lst {n : Nat} {a b : Addr} {xs ys : List V} (e : Nat → Bool) (ha : SqL K H a xs) (hb : SqL K H b ys) (hl : xs.length = ys.length) (h : ∀ (j : Nat) (x y : V), xs[j]? = some x → ys[j]? = some y → EqR K H n x y (e j)) :
      EqR K H (n + 1) (.ref a) (.ref b) ((List.range xs.length).all e)
  | lstN {n : Nat} {a b : Addr} {xs ys : List V} (ha : SqL K H a xs) (hb : SqL K H b ys) (hl : xs.length ≠ ys.length) : EqR K H (n + 1) (.ref a) (.ref b) false
theorem eqV_self {x : V} (f : flatV x = true) : eqV x x = true := by
  cases x <;> first | rfl | (simp [eqV]; done) | exact absurd (show false = true from f) Bool.false_ne_true
section
variable {pins : List (Addr × Obj)} {σ : St} {H : Hp} {s : Shared}
theorem EqR.self (I : Inv X pins σ H s) {n : Nat} {x y : V} {b : Bool} (h : EqR X.K H n x y b) : x = y → b = true := by
  induction h with
  | flat fx fy => rintro rfl; exact eqV_self fx
  | tup e ha hb h ih =>
    intro q
    cases q
    have q := I.tuple_inj ha hb
    subst q
    rw [Nat.min_self, Bool.and_eq_true]
    refine ⟨List.all_eq_true.mpr fun j hj => ?_, by simp⟩
    have hj := List.mem_range.mp hj
    exact ih j _ _ (List.getElem?_eq_getElem hj) (List.getElem?_eq_getElem hj) rfl
  | lst e ha hb hl h ih =>
    intro q
    cases q
    have q := I.list_inj ha hb
    subst q
    refine List.all_eq_true.mpr fun j hj => ?_
    have hj := List.mem_range.mp hj
    exact ih j _ _ (List.getElem?_eq_getElem hj) (List.getElem?_eq_getElem hj) rfl
  | lstN ha hb hl =>
    intro q
    cases q
    exact absurd (congrArg List.length (I.list_inj ha hb)) hl
theorem in1_units (A : Around) : A.in1.units = A.units + 1 := rfl
mutual
theorem EqR.at (I : Inv X pins σ H s) : ∀ {n : Nat} {x y : V} {b : Bool}, EqR X.K H n x y b → ∀ {u v : Value} {A : Around}, RelV x u → RelV y v → A.units + n < cLine → SeqAt.EqAt A s u v b
  | _, _, _, _, .flat fx fy, u, v, A, rx, ry, _ => eqAt_V rx ry fx fy
  | _, .ref a, .ref b, _, h, u, v, A, rx, ry, hu => by
    cases rx
    cases ry
    by_cases e : a = b
    · subst e
      rw [h.self I rfl]
      exact SeqAt.EqAt.same _
    · exact SeqAt.EqAt.of_refs e (EqR.rc I h hu)
theorem EqR.rc (I : Inv X pins σ H s) : ∀ {n : Nat} {a b : Addr} {c : Bool}, EqR X.K H n (.ref a) (.ref b) c → ∀ {A : Around}, A.units + n < cLine → SeqAt.RcAt A s (.ref a) (.ref b) c
  | _, _, _, _, .flat fx _, _, _ => absurd (show false = true from fx) Bool.false_ne_true
  | _, a, b, _, .tup (xs := xs) (ys := ys) e ha hb h, A, hu => by
    obtain ⟨its, r1, t1, z1⟩ := I.tuple ha
    obtain ⟨its2, r2, t2, z2⟩ := I.tuple hb
    have l1 : its.toArray.size = xs.length := by rw [List.size_toArray]; exact r1.length.symm
    have l2 : its2.toArray.size = ys.length := by rw [List.size_toArray]; exact r2.length.symm
    have q := SeqAt.RcAt.tuples (A := A) (e := e) t1 t2 (by omega) fun j h1 h2 => by
      rw [l1] at h1
      rw [l2] at h2
      obtain ⟨u1, e1, q1⟩ := r1.get (List.getElem?_eq_getElem h1)
      obtain ⟨u2, e2, q2⟩ := r2.get (List.getElem?_eq_getElem h2)
      have i1 : its.toArray[j] = u1 := by
        have := (List.getElem?_eq_some_iff.mp e1).2
        simpa using this
      have i2 : its2.toArray[j] = u2 := by
        have := (List.getElem?_eq_some_iff.mp e2).2
        simpa using this
      rw [i1, i2]
      exact EqR.at I (h j _ _ (List.getElem?_eq_getElem h1) (List.getElem?_eq_getElem h2)) q1 q2 (by rw [in1_units]; omega)
    rw [l1, l2] at q
    exact q
  | _, a, b, _, .lst (xs := xs) (ys := ys) e ha hb hl h, A, hu => by
    obtain ⟨its, r1, t1, z1⟩ := I.list ha
    obtain ⟨its2, r2, t2, z2⟩ := I.list hb
    have l1 : its.toArray.size = xs.length := by rw [List.size_toArray]; exact r1.length.symm
    have l2 : its2.toArray.size = ys.length := by rw [List.size_toArray]; exact r2.length.symm
    have q := SeqAt.RcAt.lists (A := A) (e := e) t1.isList t2.isList (by rw [l1, l2]; exact hl) (by omega) fun j h1 h2 => by
      rw [l1] at h1
      rw [l2] at h2
      obtain ⟨u1, e1, q1⟩ := r1.get (List.getElem?_eq_getElem h1)
      obtain ⟨u2, e2, q2⟩ := r2.get (List.getElem?_eq_getElem h2)
      have i1 : its.toArray[j] = u1 := by
        have := (List.getElem?_eq_some_iff.mp e1).2
        simpa using this
      have i2 : its2.toArray[j] = u2 := by
        have := (List.getElem?_eq_some_iff.mp e2).2
        simpa using this
      rw [i1, i2]
      exact EqR.at I (h j _ _ (List.getElem?_eq_getElem h1) (List.getElem?_eq_getElem h2)) q1 q2 (by rw [in1_units]; omega)
    rw [l1] at q
    exact q
  | _, a, b, _, .lstN (xs := xs) (ys := ys) ha hb hl, A, hu => by
    obtain ⟨its, r1, t1, z1⟩ := I.list ha
    obtain ⟨its2, r2, t2, z2⟩ := I.list hb
    have l1 : its.toArray.size = xs.length := by rw [List.size_toArray]; exact r1.length.symm
    have l2 : its2.toArray.size = ys.length := by rw [List.size_toArray]; exact r2.length.symm
    exact SeqAt.RcAt.lists_lengths t1.isList t2.isList (by rw [l1, l2]; simpa using hl) (by omega)
end
theorem EqR.rcNe (I : Inv X pins σ H s) : ∀ {n : Nat} {a b : Addr} {c : Bool}, EqR X.K H n (.ref a) (.ref b) c → ∀ {A : Around}, A.units + n < cLine → SeqAt.RcNeAt A s (.ref a) (.ref b) (!c)
  | _, _, _, _, .flat fx _, _, _ => absurd (show false = true from fx) Bool.false_ne_true
  | _, a, b, _, .tup (xs := xs) (ys := ys) e ha hb h, A, hu => by
    obtain ⟨its, r1, t1, z1⟩ := I.tuple ha
    obtain ⟨its2, r2, t2, z2⟩ := I.tuple hb
    have l1 : its.toArray.size = xs.length := by rw [List.size_toArray]; exact r1.length.symm
    have l2 : its2.toArray.size = ys.length := by rw [List.size_toArray]; exact r2.length.symm
    have q := SeqAt.RcNeAt.tuples (A := A) (e := e) t1 t2 (by omega) fun j h1 h2 => by
      rw [l1] at h1
      rw [l2] at h2
      obtain ⟨u1, e1, q1⟩ := r1.get (List.getElem?_eq_getElem h1)
      obtain ⟨u2, e2, q2⟩ := r2.get (List.getElem?_eq_getElem h2)
      have i1 : its.toArray[j] = u1 := by
        have := (List.getElem?_eq_some_iff.mp e1).2
        simpa using this
      have i2 : its2.toArray[j] = u2 := by
        have := (List.getElem?_eq_some_iff.mp e2).2
        simpa using this
      rw [i1, i2]
      exact EqR.at I (h j _ _ (List.getElem?_eq_getElem h1) (List.getElem?_eq_getElem h2)) q1 q2 (by rw [in1_units]; omega)
    rw [l1, l2] at q
    exact q
  | _, a, b, _, .lst (xs := xs) (ys := ys) e ha hb hl h, A, hu => by
    obtain ⟨its, r1, t1, z1⟩ := I.list ha
    obtain ⟨its2, r2, t2, z2⟩ := I.list hb
    have l1 : its.toArray.size = xs.length := by rw [List.size_toArray]; exact r1.length.symm
    have l2 : its2.toArray.size = ys.length := by rw [List.size_toArray]; exact r2.length.symm
    have q := SeqAt.RcNeAt.lists (A := A) (e := e) t1.isList t2.isList (by rw [l1, l2]; exact hl) (by omega) fun j h1 h2 => by
      rw [l1] at h1
      rw [l2] at h2
      obtain ⟨u1, e1, q1⟩ := r1.get (List.getElem?_eq_getElem h1)
      obtain ⟨u2, e2, q2⟩ := r2.get (List.getElem?_eq_getElem h2)
      have i1 : its.toArray[j] = u1 := by
        have := (List.getElem?_eq_some_iff.mp e1).2
        simpa using this
      have i2 : its2.toArray[j] = u2 := by
        have := (List.getElem?_eq_some_iff.mp e2).2
        simpa using this
      rw [i1, i2]
      exact EqR.at I (h j _ _ (List.getElem?_eq_getElem h1) (List.getElem?_eq_getElem h2)) q1 q2 (by rw [in1_units]; omega)
    rw [l1] at q
    exact q
  | _, a, b, _, .lstN (xs := xs) (ys := ys) ha hb hl, A, hu => by
    obtain ⟨its, r1, t1, z1⟩ := I.list ha
    obtain ⟨its2, r2, t2, z2⟩ := I.list hb
    have l1 : its.toArray.size = xs.length := by rw [List.size_toArray]; exact r1.length.symm
    have l2 : its2.toArray.size = ys.length := by rw [List.size_toArray]; exact r2.length.symm
    exact SeqAt.RcNeAt.lists_lengths t1.isList t2.isList (by rw [l1, l2]; simpa using hl) (by omega)
end
@[irreducible] def rEqO (K : PySem.W.Frag) (a b : Addr) (H : Hp) (Q : VK) : Prop := ∃ n c, n ≤ 40 ∧ EqR K H n (.ref a) (.ref b) c ∧ Q (.bl c) H
def rEqM (K : PySem.W.Frag) : R2 := fun x y H Q => match x, y with
  | .int i, .int j => Q (.bl (decide (i = j))) H
  | .bl i, .bl j => Q (.bl (decide (i = j))) H
  | .str i, .str j => Q (.bl (decide (i = j))) H
  | .ref a, .ref b => rEqO K a b H Q
  | x, y => scal x y = true ∧ Q (.bl (decide (x = y))) H
def rNeM (K : PySem.W.Frag) : R2 := fun x y H Q => rEqM K x y H fun v H' => match v with
  | .bl b => Q (.bl (!b)) H'
  | _ => False
theorem dec_inj {α β : Type} [DecidableEq α] [DecidableEq β] {f : α → β} (hf : ∀ a b, f a = f b → a = b) (a b : α) : decide (f a = f b) = decide (a = b) := by
  by_cases h : a = b
  · subst h; simp
  · rw [decide_eq_false h, decide_eq_false fun e => h (hf _ _ e)]
section
variable {K : PySem.W.Frag} {H : Hp} {Q : VK} {a b : Addr} {c : Bool} {n : Nat}
end

/-! ### tests, and, or, not, if -/
/-- a value's truth -/
def qB (t : TE) : TT := fun σ H Q => t σ H fun x H1 => match x with
  | .bl c => Q c H1
  | .int i => Q (!decide (i = 0)) H1
  | _ => False
theorem ptV {e : Expr} {t : TE} (h : PE X e t) (he : ∀ whole, isTrue e X.env whole = (do let v ← whole; standAt e.pos; holding [v] (truthy v)) := by intro _; rfl) : PT X e (qB t) := fun pins s σ H Q I hw => by
  refine isTrue_plain (thn (h pins s σ H _ I hw) fun v s1 ⟨x, H1, I1, r1, q1⟩ => ?_) (he _)
  dsimp only at q1
  split at q1
  · exact tru_ok pins s1 σ H1 _ v Q I1 r1 ⟨_, rfl, q1⟩
  · rename_i i
    refine tru_ok pins s1 σ H1 _ v Q I1 r1 ⟨_, rfl, ?_⟩
    have e : (i != 0) = !decide (i = 0) := by by_cases h : i = 0 <;> simp [h]
    rw [e]; exact q1
  · exact q1.elim
theorem ptC {a b : Expr} {ta tb : TE} {pos : Pos} {op : CmpOp} {r : R2} (ho : OpR X (compareOp op) r) (ha : PE X a ta) (hb : PE X b tb) (hm : behindInMarks op b = false := by first | exact nomark _ | with_unfolding_all rfl) : PT X (.Compare a [op] [b] pos) (qB (tOp r ta tb)) := by
  intro pins s σ H Q I h
  refine wpAny_isTrue_Compare1 (thn (ha pins s σ H _ I h) fun v s1 ⟨x, H1, I1, r1, q1⟩ => thn (hb pins s1 σ H1 _ I1 q1) fun u s2 ⟨y, H2, I2, r2, q2⟩ =>
    thn (ho pins s2 σ H2 x y v u _ I2 r1 r2 q2) fun c s3 ⟨z, H3, I3, r3, q3⟩ => ?_) hm
  dsimp only at q3
  split at q3
  · cases r3
    exact wpAny_truthy_bool ⟨H3, I3, q3⟩
  · rename_i i
    refine tru_ok pins s3 σ H3 _ c Q I3 r3 ⟨_, rfl, ?_⟩
    have e : (i != 0) = !decide (i = 0) := by by_cases h : i = 0 <;> simp [h]
    rw [e]; exact q3
  · exact q3.elim
theorem peC {a b : Expr} {ta tb : TE} {pos : Pos} {op : CmpOp} {r : R2} (ho : OpR X (compareOp op) r) (ha : PE X a ta) (hb : PE X b tb) (hm : behindInMarks op b = false := by first | exact nomark _ | with_unfolding_all rfl) : PE X (.Compare a [op] [b] pos) (tOp r ta tb) :=
  pe_cmpR ho ha hb hm

variable {a b : Expr} {rest : List Expr} {tA tB' : TT} {ta tb : TE} {pos : Pos}
def qAnd (t u : TT) : TT := fun σ H Q => t σ H fun c H1 => br c (u σ H1 Q) (Q false H1)
def qOr (t u : TT) : TT := fun σ H Q => t σ H fun c H1 => br c (Q true H1) (u σ H1 Q)
theorem pwAnd (ha : PT X a tA) (hb : PW X (.BoolOp .And (b :: rest) pos) tB') : PW X (.BoolOp .And (a :: b :: rest) pos) (qAnd tA tB') := fun wh pins s σ H Q I h =>
  pw_and ha hb wh pins s σ H Q I (by unfold qAnd at h; simp only [br_iff] at h; exact h)
theorem pwOr (ha : PT X a tA) (hb : PW X (.BoolOp .Or (b :: rest) pos) tB') : PW X (.BoolOp .Or (a :: b :: rest) pos) (qOr tA tB') := fun wh pins s σ H Q I h =>
  pw_or ha hb wh pins s σ H Q I (by unfold qOr at h; simp only [br_iff] at h; exact h)
def qAndV (ta tb : TE) : TE := fun σ H Q => ta σ H fun x H1 => match x with
  | .bl c => br c (tb σ H1 Q) (Q (.bl false) H1)
  | _ => False
def qNotV (ta : TE) : TE := fun σ H Q => ta σ H fun x H1 => match x with
  | .bl c => Q (.bl (!c)) H1
  | _ => False
theorem peAnd (ha : PE X a ta) (hb : PE X (.BoolOp .And (b :: rest) pos) tb) : PE X (.BoolOp .And (a :: b :: rest) pos) (qAndV ta tb) := by
  intro pins s σ H Q I h
  refine BoolOp_and (thn (ha pins s σ H _ I h) fun v s1 ⟨x, H1, I1, r1, q1⟩ => ?_)
  dsimp only at q1
  split at q1
  · rename_i c
    cases r1
    refine wpAny_truthy_bool ?_
    rw [br_iff] at q1
    cases c with
    | true => exact hb pins s1 σ H1 Q I1 (by simpa using q1)
    | false => exact ⟨.bl false, H1, I1, rfl, by simpa using q1⟩
  · exact q1.elim
theorem peNot (ha : PE X a ta) : PE X (.UnaryOp .Not a pos) (qNotV ta) := by
  intro pins s σ H Q I h
  refine UnaryOp_ (thn (ha pins s σ H _ I h) fun v s1 ⟨x, H1, I1, r1, q1⟩ => ?_)
  dsimp only at q1
  split at q1
  · rename_i c
    cases r1
    exact not_of (wpAny_truthy_bool ⟨.bl (!c), H1, I1, rfl, q1⟩)
  · exact q1.elim
def qChain (r r' : R2) (ta tb tc : TE) : TE := fun σ H Q => ta σ H fun x H1 => tb σ H1 fun y H2 => r x y H2 fun z H3 => match z with
  | .bl k => br k (tc σ H3 fun w' H4 => r' y w' H4 Q) (Q (.bl false) H3)
  | _ => False
theorem peChain {c : Expr} {tc : TE} {op op' : CmpOp} {r r' : R2} (ho : OpR X (compareOp op) r) (ho' : OpR X (compareOp op') r') (ha : PE X a ta) (hb : PE X b tb) (hc : PE X c tc)
    (hm : lastMarks [op, op'] [b, c] = false := by with_unfolding_all rfl) : PE X (.Compare a [op, op'] [b, c] pos) (qChain r r' ta tb tc) := by
  intro pins s σ H Q I h
  refine Compare_chain (thn (ha pins s σ H _ I h) fun v s1 ⟨x, H1, I1, r1, q1⟩ => chain_link (thn (hb pins s1 σ H1 _ I1 q1) fun u s2 ⟨y, H2, I2, r2, q2⟩ =>
    thn (ho pins s2 σ H2 x y v u _ I2 r1 r2 q2) fun d s3 ⟨z, H3, I3, r3, q3⟩ => ?_)) hm
  dsimp only at q3
  split at q3
  · rename_i k
    cases r3
    refine wpAny_truthy_bool ?_
    rw [br_iff] at q3
    cases k with
    | false => exact ite_ff ⟨.bl false, H3, I3, rfl, by simpa using q3⟩
    | true => exact ite_tt (chain_last (thn (hc pins s3 σ H3 _ I3 (by simpa using q3)) fun w' s4 ⟨z', H4, I4, r4, q4⟩ => ho' pins s4 σ H4 y z' u w' Q I4 r2 r4 q4))
  · exact q3.elim

/-! ### statements -/
variable {st : Stmt} {t u : TS} {e : Expr} {te : TE}
def qIfS (c : TT) (t u : TS) : TS := fun D σ H => c σ H fun b H1 => br b (t D σ H1) (u D σ H1)
theorem psIf {c : Expr} {a b : List Stmt} {tc : TT} (hc : PT X c tc) (ha : PSs X a t) (hb : PSs X b u) : PS X (.If c a b pos) (qIfS tc t u) := fun pins s σ H D I h =>
  ps_if hc ha hb pins s σ H D I (by unfold qIfS at h; simp only [br_iff] at h; exact h)
@[irreducible] def loopW (J : It) (g : TG) (tb : TS) (D : Ends) (σ : St) (H1 : Hp) : Prop := ∃ W : Nat → Nat → St → Hp → Prop, (∃ m, W 0 m σ H1) ∧ ∀ i m σ H, W i m σ H →
  (J.stop i H ∧ D.nx σ H) ∨ (J.go i H ∧ ∃ N : St → Hp → Prop, (∀ σ' H', N σ' H' → ∃ m', m' < m ∧ W (i + 1) m' σ' H') ∧ ∀ x H', J.yld i H x H' → g x σ H' fun σ2 H2 => tb { D with nx := N, ct := N, bk := D.nx } σ2 H2)
def qFor (wi : TI) (g : TG) (tb : TS) : TS := fun D σ H => wi σ H fun J H1 => loopW J g tb D σ H1
theorem psFor {iter tg : Expr} {body : List Stmt} {wi : TI} {g : TG} {tb : TS} {pos : Pos} (hp : PassesOwn (model X.prog X.w) X.A X.env X.xe) (hc : X.calm = true) (hi : PI X tg iter wi) (hg : PG X tg g) (hb : PSs X body tb)
    (hs : ∀ x, foldedSetIterable iter X.env x = pure x := by intro _; rfl) : PS X (.For tg iter body [] pos) (qFor wi g tb) := fun pins s σ H D I h =>
  ps_for hp hc hi hg hb hs pins s σ H D I (by unfold qFor at h; unfold loopW at h; exact h)
@[irreducible] def rIter (K : PySem.W.Frag) (a : Addr) (H : Hp) (R : It → Hp → Prop) : Prop := ((∃ xs, SqL K H a xs) ∧ R (Itl K a) H) ∨ ((∃ xs, SqT K H a xs) ∧ R (Itt K a) H)
def qiSeq (K : PySem.W.Frag) (tl : TE) : TI := fun σ H R => tl σ H fun x H1 => match x with
  | .ref a => rIter K a H1 R
  | _ => False
theorem piSeq {tg l : Expr} {tl : TE} (hl : PE X l tl) : PI X tg l (qiSeq X.K tl) := by
  intro pins s σ H R I h
  refine thn (hl pins s σ H _ I h) fun v s1 ⟨x, H1, I1, r1, q1⟩ => ?_
  dsimp only at q1
  split at q1
  · rename_i a
    unfold rIter at q1
    cases r1
    have fp : ∀ b ∈ [s1.heap.objs.size], FpOk X pins H1 b := fun b hb => by
      have e : b = s1.heap.objs.size := by simpa using hb
      subst e
      exact I1.fpOk (Nat.le_refl _) (I1.hok.fresh (Nat.le_refl _))
    rcases q1 with ⟨⟨xs, hq⟩, q⟩ | ⟨⟨xs, hq⟩, q⟩
    · obtain ⟨its, rv, p, hz⟩ := I1.list hq
      refine wpAny_pyIter_list p.isList ?_
      exact ⟨s1.heap.objs.size, [s1.heap.objs.size], _, _, H1, rfl, I1.kept (t' := s1.toks) fun b o e => Heap.get?_push_of_some _ e, turn_list a _, ⟨_, Heap.get?_push_size _ rfl, rfl, rfl⟩, fp, q⟩
    · obtain ⟨its, rv, p, hz⟩ := I1.tuple hq
      refine wpAny_pyIter_tuple (show s1.heap.IsTuple a its.toArray from p) ?_
      exact ⟨s1.heap.objs.size, [s1.heap.objs.size], _, _, H1, rfl, I1.kept (t' := s1.toks) fun b o e => Heap.get?_push_of_some _ e, turn_tuple a _, ⟨_, Heap.get?_push_size _ rfl, rfl, rfl⟩, fp, q⟩
  · exact q1.elim
@[irreducible] def rRange (i j : Int) (H : Hp) (R : It → Hp → Prop) : Prop := (-(2 ^ 62) ≤ i ∧ i < 2 ^ 62 ∧ -(2 ^ 62) ≤ j ∧ j < 2 ^ 62) ∧ R (Itr i (j - i).toNat) H
def qiRng (ta : TA) : TI := fun σ H R => ta σ H fun vs H1 => match vs with
  | [.int j] => rRange 0 j H1 R
  | [.int i, .int j] => rRange i j H1 R
  | _ => False
theorem piRng1 {tg a : Expr} {ta : TA} {p pos : Pos} (hm : X.mg "range" = none) (ha : PA X [a] ta) (hg : Gl X "range" := by rfl) (hs : starEach [a] X.env = [(false, eval a X.env)] := by rfl) : PI X tg (.Call (.Name "range" p) [a] [] pos) (qiRng ta) := by
  intro pins s σ H R I h
  refine Call_ (ld_blt I hg hm boot_range (PyProof.Rows.callWith_type1 (thn (ha pos pins s σ H _ I h) fun us s1 ⟨vs, H1, I1, r1, q1⟩ => ?_) hs rfl))
  dsimp only at q1
  split at q1
  · unfold rRange at q1
    obtain ⟨⟨a1, a2, a3, a4⟩, q⟩ := q1
    cases r1 with
    | cons r rr =>
      cases rr
      obtain ⟨t, rfl⟩ := r
      exact call_range_1 (range_it I1 a1 a2 a3 a4 q)
  · unfold rRange at q1
    cases r1 with
    | cons r rr =>
      cases rr with
      | cons r' rr =>
        cases rr
        obtain ⟨t, rfl⟩ := r
        obtain ⟨t', rfl⟩ := r'
        obtain ⟨⟨a1, a2, a3, a4⟩, q⟩ := q1
        exact call_range_2 (range_it I1 a1 a2 a3 a4 q)
  · exact q1.elim
theorem piRng2 {tg a b : Expr} {ta : TA} {p pos : Pos} (hm : X.mg "range" = none) (ha : PA X [a, b] ta) (hg : Gl X "range" := by rfl) (hs : starEach [a, b] X.env = [(false, eval a X.env), (false, eval b X.env)] := by rfl) (hs2 : starEach [b] X.env = [(false, eval b X.env)] := by rfl) :
    PI X tg (.Call (.Name "range" p) [a, b] [] pos) (qiRng ta) := by
  intro pins s σ H R I h
  refine Call_ (ld_blt I hg hm boot_range (PyProof.Rows.callWith_type1 (thn (ha pos pins s σ H _ I h) fun us s1 ⟨vs, H1, I1, r1, q1⟩ => ?_) (by rw [hs, hs2]) (by rw [hs2]; rfl)))
  dsimp only at q1
  split at q1
  · unfold rRange at q1
    obtain ⟨⟨a1, a2, a3, a4⟩, q⟩ := q1
    cases r1 with
    | cons r rr =>
      cases rr
      obtain ⟨t, rfl⟩ := r
      exact call_range_1 (range_it I1 a1 a2 a3 a4 q)
  · unfold rRange at q1
    cases r1 with
    | cons r rr =>
      cases rr with
      | cons r' rr =>
        cases rr
        obtain ⟨t, rfl⟩ := r
        obtain ⟨t', rfl⟩ := r'
        obtain ⟨⟨a1, a2, a3, a4⟩, q⟩ := q1
        exact call_range_2 (range_it I1 a1 a2 a3 a4 q)
  · exact q1.elim
/-! the loops' readings -/
section
variable {K : PySem.W.Frag} {g : TG} {tb : TS} {D : Ends} {σ : St} {H : Hp} {R : It → Hp → Prop}
theorem iterL_rd {a : Addr} {xs : List V} (h : H a = some (.lst xs)) (q : R (Itl K a) H) : rIter K a H R := by unfold rIter; exact .inl ⟨⟨xs, SqL.of h⟩, q⟩
theorem range_rd {i j : Int} (h1 : -(2 ^ 62) ≤ i) (h2 : i < 2 ^ 62) (h3 : -(2 ^ 62) ≤ j) (h4 : j < 2 ^ 62) (q : R (Itr i (j - i).toNat) H) : rRange i j H R := by unfold rRange; exact ⟨⟨h1, h2, h3, h4⟩, q⟩
theorem loop_list {a : Addr} {xs : List V} (Pv : Nat → St → Hp → Prop) (h0 : Pv 0 σ H) (hl : ∀ i σ H, i ≤ xs.length → Pv i σ H → SqL K H a xs)
    (hs : ∀ i x σ H, xs[i]? = some x → Pv i σ H → g x σ H fun σ2 H2 => tb { D with nx := Pv (i + 1), ct := Pv (i + 1), bk := D.nx } σ2 H2) (hd : ∀ σ H, Pv xs.length σ H → D.nx σ H) : loopW (Itl K a) g tb D σ H := by
  unfold loopW; exact for_list Pv h0 hl hs hd
theorem loop_range {lo : Int} {n : Nat} (Pv : Nat → St → Hp → Prop) (h0 : Pv 0 σ H)
    (hs : ∀ i σ H, i < n → Pv i σ H → g (.int (lo + i)) σ H fun σ2 H2 => tb { D with nx := Pv (i + 1), ct := Pv (i + 1), bk := D.nx } σ2 H2) (hd : ∀ σ H, Pv n σ H → D.nx σ H) : loopW (Itr lo n) g tb D σ H := by
  unfold loopW; exact for_range Pv h0 hs hd
end
/-! while -/
section
variable {c : TT} {tb : TS} {D : Ends} {σ : St} {H H1 : Hp} {W : Nat → St → Hp → Prop} {m : Nat} {p : Prop}
end

/-! ### displays, index, store, slices -/
@[irreducible] def rNewT (xs : List V) (H : Hp) (Q : VK) : Prop := xs.length ≤ sizeLine ∧ ∀ p H', H p = none → Same H H' → H' p = some (.tup xs) → Q (.ref p) H'
@[irreducible] def rNewL (xs : List V) (H : Hp) (Q : VK) : Prop := xs.length ≤ sizeLine ∧ ∀ p H', H p = none → Same H H' → H' p = some (.lst xs) → Q (.ref p) H'
def qTup (t : TA) : TE := fun σ H Q => t σ H fun xs H1 => rNewT xs H1 Q
def qLst (t : TA) : TE := fun σ H Q => t σ H fun xs H1 => rNewL xs H1 Q
theorem peTup {es : List Expr} {x1} {t : TA} (h : PA X es t) : PE X (.Tuple es x1 pos) (qTup t) := by
  intro pins s σ H Q I hq
  refine wpAny_Tuple_spliced (thn (h pos pins s σ H _ I hq) fun us s1 ⟨xs, H1, I1, r, z⟩ => ?_)
  unfold rNewT at z
  obtain ⟨z, q⟩ := z
  refine ⟨by rw [← r.length]; exact z, ?_⟩
  have hf : H1 s1.heap.objs.size = none := I1.hok.fresh (Nat.le_refl _)
  refine ⟨.ref s1.heap.objs.size, upd H1 s1.heap.objs.size (.tup xs), I1.laid (t' := s1.toks) (fun b u e => Heap.get?_push_of_some _ e) (Nat.le_refl _) ?_, rfl, q _ _ hf (Same.upd hf) upd_same⟩
  exact ⟨z, us, r, ⟨_, Heap.get?_push_size _ rfl, rfl, _, rfl⟩⟩
theorem peLst {es : List Expr} {t : TA} (h : PA X es t) : PE X (.List es pos) (qLst t) := by
  intro pins s σ H Q I hq
  refine wpAny_List_spliced (thn (h pos pins s σ H _ I hq) fun us s1 ⟨xs, H1, I1, r, z⟩ => ?_)
  unfold rNewL at z
  obtain ⟨z, q⟩ := z
  refine ⟨by rw [← r.length]; exact z, ?_⟩
  have hf : H1 s1.heap.objs.size = none := I1.hok.fresh (Nat.le_refl _)
  refine ⟨.ref s1.heap.objs.size, upd H1 s1.heap.objs.size (.lst xs), I1.laid (t' := s1.toks) (fun b u e => Heap.get?_push_of_some _ e) (Nat.le_refl _) ?_, rfl, q _ _ hf (Same.upd hf) upd_same⟩
  exact ⟨z, us, 0, r, Heap.get?_push_size _ rfl⟩
@[irreducible] def rIxA (K : PySem.W.Frag) (p : Addr) (i : Int) (H : Hp) (Q : VK) : Prop := ∃ xs v, (SqL K H p xs ∨ SqT K H p xs) ∧ atI xs i = some v ∧ Q v H
def rIxM (K : PySem.W.Frag) : R2 := fun x y H Q => match x, y with
  | .ref p, .int i => rIxA K p i H Q
  | .str z, .int i => ∃ c, z.length ≤ sizeLine ∧ atI z.cps.toList i = some c ∧ Q (.str ⟨#[c]⟩) H
  | _, _ => False
theorem ixM : IxR X (rIxM X.K) := by
  intro value slice pins s σ H x y v u Q I rx ry h hs
  unfold rIxM at h
  split at h
  · unfold rIxA at h
    obtain ⟨xs, z, h1, h2, q⟩ := h
    rcases h1 with h1 | h1
    · exact ix_list value slice pins s σ H _ _ v u Q I rx ry ⟨_, xs, _, z, rfl, rfl, h1, h2, q⟩ hs
    · exact ix_tup value slice pins s σ H _ _ v u Q I rx ry ⟨_, xs, _, z, rfl, rfl, h1, h2, q⟩ hs
  · obtain ⟨c, h1, h2, q⟩ := h
    exact ix_str value slice pins s σ H _ _ v u Q I rx ry ⟨_, _, c, rfl, rfl, h1, h2, q⟩ hs
  · exact h.elim
theorem peIx (ha : PE X a ta) (hb : PE X b tb) (hs : PlainIx b := by exact fun _ _ => rfl) : PE X (.Subscript a b pos) (tOp (rIxM X.K) ta tb) := pe_ix ixM ha hb hs
@[irreducible] def rSetA (p : Addr) (k : Int) (v : V) (H : Hp) (Q : Hp → Prop) : Prop := ∃ xs j, H p = some (.lst xs) ∧ ixN xs.length k = some j ∧ ∀ H', Chg p H H' → H' p = some (.lst (xs.set j v)) → Q H'
def rSetM : TSet := fun o i v H Q => match o, i with
  | .ref p, .int k => rSetA p k v H Q
  | _, _ => False
theorem setM : PSet X rSetM := by
  intro pins s σ H o i v ov iv u Q I ro ri rv h
  unfold rSetM at h
  split at h
  · unfold rSetA at h
    obtain ⟨xs, j, h1, h2, q⟩ := h
    exact set_list pins s σ H _ _ v ov iv u Q I ro ri rv ⟨_, xs, _, j, rfl, rfl, h1, h2, q _ Chg.upd upd_same⟩
  · exact h.elim
def qPart (t : TE) : TO := fun σ H Q => t σ H fun x H1 => match x with
  | .int i => Q (some i) H1
  | _ => False
theorem poSome (h : PE X e te) : PO X (some e) (qPart te) := by
  intro pins s σ H Q I hw
  rw [evalPart_some]
  refine thn (h pins s σ H _ I hw) fun u s1 ⟨x, H1, I1, r1, q1⟩ => ?_
  dsimp only at q1
  split at q1
  · rename_i i
    obtain ⟨t, rfl⟩ := r1
    exact ⟨some i, H1, I1, .int i t, q1⟩
  · exact q1.elim
section
variable {K : PySem.W.Frag} {H : Hp} {Q : VK} {p : Addr} {xs : List V} {v : V} {i : Int}
theorem newT_rd (q : ∀ p H', H p = none → Same H H' → H' p = some (.tup xs) → Q (.ref p) H') (h : xs.length ≤ sizeLine := by first | assumption | (simp only [List.length_cons, List.length_nil, Nat.zero_add, Nat.reduceAdd]; decide)) : rNewT xs H Q := by unfold rNewT; exact ⟨h, q⟩
theorem newL_rd (q : ∀ p H', H p = none → Same H H' → H' p = some (.lst xs) → Q (.ref p) H') (h : xs.length ≤ sizeLine := by first | assumption | (simp only [List.length_cons, List.length_nil, Nat.zero_add, Nat.reduceAdd]; decide)) : rNewL xs H Q := by unfold rNewL; exact ⟨h, q⟩
theorem ixT_rd (h : H p = some (.tup xs)) (e : atI xs i = some v) (q : Q v H) : rIxA K p i H Q := by unfold rIxA; exact ⟨xs, v, .inr (SqT.of h), e, q⟩
theorem ixL_rd (h : H p = some (.lst xs)) (e : atI xs i = some v) (q : Q v H) : rIxA K p i H Q := by unfold rIxA; exact ⟨xs, v, .inl (SqL.of h), e, q⟩
theorem set_rd {R : Hp → Prop} {j : Nat} (h : H p = some (.lst xs)) (e : ixN xs.length i = some j) (q : ∀ H', Chg p H H' → H' p = some (.lst (xs.set j v)) → R H') : rSetA p i v H R := by unfold rSetA; exact ⟨xs, j, h, e, q⟩
end

/-! ### tuple targets -/
def qgNil : TGs := fun vs σ H Q => match vs with
  | [] => Q σ H
  | _ => False
def qgCons (t : TG) (u : TGs) : TGs := fun vs σ H Q => match vs with
  | v :: r => t v σ H fun σ' H' => u r σ' H' Q
  | _ => False
theorem pgsNil : PGs X [] qgNil := fun pins s σ H vs us Q I r h => by
  unfold qgNil at h
  split at h
  · exact pgs_nil pins s σ H _ us Q I r ⟨rfl, h⟩
  · exact h.elim
theorem pgsCons {e : Expr} {es : List Expr} {t : TG} {u : TGs} (h1 : PG X e t) (h2 : PGs X es u)
    (hs : (assignEach (e :: es) X.env).map (·.2) = assign e X.env :: (assignEach es X.env).map (·.2) := by rfl) : PGs X (e :: es) (qgCons t u) := fun pins s σ H vs us Q I r h => by
  unfold qgCons at h
  split at h
  · exact pgs_cons h1 h2 hs pins s σ H _ us Q I r ⟨_, _, rfl, h⟩
  · exact h.elim
end
end L2

set_option Elab.async false
set_option linter.all false
set_option maxRecDepth 100000
set_option maxHeartbeats 1000000
namespace L2
open PySem PySem.Spec PyProof.Rows
section
variable {X : Cx}
/-! ### built-in calls, by values -/
def rAbsM : List V → Hp → VK → Prop := fun xs H Q => match xs with
  | [.int i] => Q (.int (i.natAbs : Int)) H
  | _ => False
@[irreducible] def rLenA (K : PySem.W.Frag) (p : Addr) (H : Hp) (Q : VK) : Prop := ∃ ys, (SqL K H p ys ∨ SqT K H p ys) ∧ Q (.int ys.length) H
def rLenM (K : PySem.W.Frag) : List V → Hp → VK → Prop := fun xs H Q => match xs with
  | [.ref p] => rLenA K p H Q
  | [.str z] => z.length ≤ sizeLine ∧ Q (.int z.length) H
  | _ => False
theorem cLen : CallR X (.builtin "len") (rLenM X.K) := fun pins s σ H xs us Q I r h => by
  unfold rLenM at h
  split at h
  · unfold rLenA at h
    obtain ⟨ys, h1, h2⟩ := h
    exact call_len_seq pins s σ H _ us Q I r ⟨_, ys, rfl, h1, h2⟩
  · exact call_len_str pins s σ H _ us Q I r ⟨_, rfl, h.1, h.2⟩
  · exact h.elim
@[irreducible] def rIsiA (K : PySem.W.Frag) (x c : V) (H : Hp) (Q : VK) : Prop := ∃ t b, TyOf K H x t ∧ (∀ cv, RelV c cv → PySem.W.kitOne K t cv = some b) ∧ Q (.bl b) H
def rIsiM (K : PySem.W.Frag) : List V → Hp → VK → Prop := fun xs H Q => match xs with
  | [x, c] => rIsiA K x c H Q
  | _ => False
theorem cIsi : CallR X (.builtin "isinstance") (rIsiM X.K) := fun pins s σ H xs us Q I r h => by
  unfold rIsiM at h
  split at h
  · unfold rIsiA at h
    obtain ⟨t, b, h1, h2, h3⟩ := h
    obtain ⟨u, w, rfl, r1, r2⟩ := vals2 r
    exact isinst_ok I r1 h1 (h2 _ r2) fun tk => ⟨.bl b, H, I.tok _, rfl, h3⟩
  · exact h.elim
section
variable {K : PySem.W.Frag} {H : Hp} {Q : VK} {p : Addr} {xs : List V}
theorem lenL_rd (h : H p = some (.lst xs)) (q : Q (.int xs.length) H) : rLenA K p H Q := by unfold rLenA; exact ⟨xs, .inl (SqL.of h), q⟩
theorem lenT_rd (h : H p = some (.tup xs)) (q : Q (.int xs.length) H) : rLenA K p H Q := by unfold rLenA; exact ⟨xs, .inr (SqT.of h), q⟩
theorem isiI_rd {i : Int} {n : String} {b : Bool} (q : Q (.bl b) H) (e : PySem.W.kitOne K (.type "int") (.type n) = some b := by rfl) : rIsiA K (.int i) (.ty n) H Q := by
  unfold rIsiA; exact ⟨_, b, .int i, fun cv r => by cases r; exact e, q⟩
theorem isiB_rd {i : Bool} {n : String} {b : Bool} (q : Q (.bl b) H) (e : PySem.W.kitOne K (.type "bool") (.type n) = some b := by rfl) : rIsiA K (.bl i) (.ty n) H Q := by
  unfold rIsiA; exact ⟨_, b, .bl i, fun cv r => by cases r; exact e, q⟩
theorem isiN_rd {n : String} {b : Bool} (q : Q (.bl b) H) (e : PySem.W.kitOne K (.type "NoneType") (.type n) = some b := by rfl) : rIsiA K .non (.ty n) H Q := by
  unfold rIsiA; exact ⟨_, b, .non, fun cv r => by cases r; exact e, q⟩
theorem isiS_rd {x : Str} {n : String} {b : Bool} (q : Q (.bl b) H) (e : PySem.W.kitOne K (.type "str") (.type n) = some b := by rfl) : rIsiA K (.str x) (.ty n) H Q := by
  unfold rIsiA; exact ⟨_, b, .str x, fun cv r => by cases r; exact e, q⟩
theorem isiT_rd {n : String} {b : Bool} (h : H p = some (.tup xs)) (q : Q (.bl b) H) (e : PySem.W.kitOne K (.type "tuple") (.type n) = some b := by rfl) : rIsiA K (.ref p) (.ty n) H Q := by
  unfold rIsiA; exact ⟨_, b, .tup h, fun cv r => by cases r; exact e, q⟩
theorem isiL_rd {n : String} {b : Bool} (h : H p = some (.lst xs)) (q : Q (.bl b) H) (e : PySem.W.kitOne K (.type "list") (.type n) = some b := by rfl) : rIsiA K (.ref p) (.ty n) H Q := by
  unfold rIsiA; exact ⟨_, b, .lst h, fun cv r => by cases r; exact e, q⟩
end
/-! the names of the built-ins -/
theorem bt_len : bootBuiltins "len" = some (.builtin "len") := by decide +kernel
theorem bt_sum : bootBuiltins "sum" = some (.builtin "sum") := by decide +kernel
theorem bt_all : bootBuiltins "all" = some (.builtin "all") := by decide +kernel
theorem bt_isinstance : bootBuiltins "isinstance" = some (.builtin "isinstance") := by decide +kernel
theorem bt_int : bootBuiltins "int" = some (.type "int") := by decide +kernel
theorem bt_bool : bootBuiltins "bool" = some (.type "bool") := by decide +kernel
theorem bt_str : bootBuiltins "str" = some (.type "str") := by decide +kernel
theorem bt_list : bootBuiltins "list" = some (.type "list") := by decide +kernel
theorem bt_tuple : bootBuiltins "tuple" = some (.type "tuple") := by decide +kernel
theorem pTy {x : Str} {n : String} {pos : Pos} (hm : X.mg x = none) (hv : bootBuiltins x = some (.type n)) (hg : Gl X x := by rfl) (hn : x ≠ "__name__" := by decide) (hd : (x == ("__debug__" : Str)) = false := by decide) : PE X (.Name x pos) (tC (.ty n)) :=
  pe_bltn hg hm hv rfl hn hd
theorem pB {x : Str} {p pos : Pos} {e : Expr} {es : List Expr} {t : TA} {id : String} {r : List V → Hp → VK → Prop} (hc : CallR X (.builtin id) r) (hm : X.mg x = none) (hv : bootBuiltins x = some (.builtin id)) (ha : PA X (e :: es) t) (hg : Gl X x := by rfl) (hn : x ≠ "__name__" := by decide) (hdb : (x == ("__debug__" : Str)) = false := by decide)
    (he : starEach (e :: es) X.env = (false, eval e X.env) :: starEach es X.env := by rfl) (hpl : (backTo pos (starEach es X.env)).any (·.1) = false := by rfl) : PE X (.Call (.Name x p) (e :: es) [] pos) (tCB r t) := pe_callB hc hg hm hv ha hn hdb he hpl
theorem pT {x : Str} {p pos : Pos} {e : Expr} {es : List Expr} {t : TA} {id : String} {r : List V → Hp → VK → Prop} (hc : CallR X (.type id) r) (hm : X.mg x = none) (hv : bootBuiltins x = some (.type id)) (ha : PA X (e :: es) t) (hg : Gl X x := by rfl) (hn : x ≠ "__name__" := by decide) (hdb : (x == ("__debug__" : Str)) = false := by decide)
    (he : starEach (e :: es) X.env = (false, eval e X.env) :: starEach es X.env := by rfl) (hpl : (backTo pos (starEach es X.env)).any (·.1) = false := by rfl) : PE X (.Call (.Name x p) (e :: es) [] pos) (tCB r t) := pe_callTy hc hg hm hv ha hn hdb he hpl
/-! a def of the text, called: what is known of it -/
structure Def (P : Program) (w : World) (K : PySem.W.Frag) (mg : Str → Option Value) (base : Heap) (CX : CXT) (k : Nat) (x : Str) (ps : List Str) (sp : Sp) : Prop where
  ex : ∃ (f : Addr) (fd : FuncData), FnOk P w K mg base CX k f fd ps sp ∧ mg x = some (.ref f) ∧ PySem.W.keepIn K (.ref f) = true ∧ Binds K fd ps []
def qCall (sp : Sp) (E : XK) (t : TA) : TE := fun σ H Q => t σ H fun vs H1 => sp vs H1 Q E
theorem pD {CX : CXT} {k j : Nat} {x : Str} {ps : List Str} {sp : Sp} {E : XK} {p pos : Pos} {e : Expr} {es : List Expr} {t : TA} (F : Def X.prog X.w X.K X.mg X.base CX k x ps sp) (hr : Room j X.A) (hx : Passes CX X E) (ha : PA X (e :: es) t) (hk : k ≤ j := by decide) (hg : Gl X x := by rfl)
    (hdb : (x == ("__debug__" : Str)) = false := by decide) (he : starEach (e :: es) X.env = (false, eval e X.env) :: starEach es X.env := by rfl) (hpl : (backTo pos (starEach es X.env)).any (·.1) = false := by rfl) :
    PE X (.Call (.Name x p) (e :: es) [] pos) (qCall sp E t) := by
  obtain ⟨f, fd, F1, F2, F3, F4⟩ := F.ex
  intro pins s σ H Q I h
  refine pe_call F1 (hr.mono hk) hg F2 F3 F4 .nil hx ha hdb he hpl pins s σ H Q I ?_
  unfold tCall
  simp only [List.append_nil]
  exact h
theorem psS {i : Nat} {x : Str} {e : Expr} {te : TE} {pos' pos : Pos} (hN : X.N.Nodup) (he : PE X e te) (hi : X.N[i]? = some x := by rfl) (hx : Loc X.env.scope x := by first | exact Or.inl rfl | exact Or.inr rfl) (hs : swapsWith e (some (.Name x pos')) pos.line X.env = pure false := by rfl) (hf : X.fn x = true ∨ X.env.scope.names.lookup x = some .local := by first | exact .inl rfl | exact .inr rfl | assumption) :
    PS X (.Assign [.Name x pos'] e pos) (tAsg te (gName i)) := ps_set hN hi hx he hs hf
section
variable {K : PySem.W.Frag} {H : Hp} {Q : VK} {p : Addr} {xs : List V} {i j : Int}
theorem mulL_rd (h1 : -18446744073709551616 < i) (h2 : i < 18446744073709551616) (q : Q (.int (i * j)) H) : rMulI i j H Q := mul_rd (.of_left (intBits_le_64 (by simpa using h1) (by simpa using h2))) q
theorem mulR_rd (h1 : -18446744073709551616 < j) (h2 : j < 18446744073709551616) (q : Q (.int (i * j)) H) : rMulI i j H Q := mul_rd (.of_right (intBits_le_64 (by simpa using h1) (by simpa using h2))) q
/-- a remainder, by its bounds alone -/
theorem modG_rd (h : 0 < j) (q : ∀ r : Int, 0 ≤ r → r < j → Q (.int r) H) : rModI i j H Q := mod_rd h (q _ (Int.emod_nonneg _ (by omega)) (Int.emod_lt_of_pos _ h))
/-- an item at a drawn place -/
theorem ixAny_rd (h : H p = some (.lst xs)) (h0 : 0 ≤ i) (h1 : i < xs.length) (q : ∀ v, v ∈ xs → Q v H) : rIxA K p i H Q := by
  have hl : i.toNat < xs.length := by omega
  refine ixL_rd h (v := xs[i.toNat]) ?_ (q _ (List.getElem_mem hl))
  have e : ((i.toNat : Nat) : Int) = i := by omega
  have z := atI_nat (List.getElem?_eq_getElem hl)
  rw [e] at z
  exact z
theorem hu40 {A : Around} {k : Nat} (hr : Room k A) : A.units + 40 < cLine := by have := hr.units; omega
end
/-! ### a word between two statements -/
@[irreducible] def qCut (t : TS) : TS := fun D σ H => ∃ R : St → Hp → Prop, t { D with nx := R } σ H ∧ ∀ σ' H', R σ' H' → D.nx σ' H'
theorem psCut {st : Stmt} {t : TS} (h : PS X st t) : PS X st (qCut t) := fun pins s σ H D I hq => by
  unfold qCut at hq
  obtain ⟨R, h1, h2⟩ := hq
  refine thn (h pins s σ H _ I h1) fun f s' q => ?_
  cases f with
  | next => obtain ⟨σ', H', I', z⟩ := q; exact ⟨σ', H', I', h2 _ _ z⟩
  | brk => exact q
  | cont => exact q
  | ret u => exact q
theorem cut_rd {t : TS} {D : Ends} {σ : St} {H : Hp} (R : St → Hp → Prop) (h1 : t { D with nx := R } σ H) (h2 : ∀ σ' H', R σ' H' → D.nx σ' H') : qCut t D σ H := by unfold qCut; exact ⟨R, h1, h2⟩
theorem cut_id {t : TS} {D : Ends} {σ : St} {H : Hp} (h1 : t D σ H) : qCut t D σ H := by unfold qCut; exact ⟨D.nx, h1, fun _ _ h => h⟩
/-! the script's numbers -/
end
end L2

set_option Elab.async false
set_option linter.all false
set_option maxRecDepth 100000
set_option maxHeartbeats 2000000
namespace L2
open PySem PySem.Spec PyProof.Rows
/-! ### comprehensions -/
theorem closure_go {env : Env} : ∀ (names : List (Str × NameKind)) (acc : List (Str × Addr)), (∀ x ∈ names, x.2 = .free → ∃ c, env.cells.lookup x.1 = some c) →
    ∃ acc', (forIn (m := Sem) names acc (fun (x : Str × NameKind) (r : List (Str × Addr)) => if (x.2 == .free) = true then (do let c ← cellOf env x.1; pure (ForInStep.yield ((x.1, c) :: r))) else pure (ForInStep.yield r))) = pure acc' ∧
      (∀ x c, acc'.lookup x = some c → acc.lookup x = some c ∨ env.cells.lookup x = some c) ∧ (∀ x c, acc.lookup x = some c → ∃ c', acc'.lookup x = some c') ∧ ∀ x ∈ names, x.2 = .free → ∃ c, acc'.lookup x.1 = some c
  | [], acc, _ => ⟨acc, rfl, fun _ _ h => .inl h, fun _ c h => ⟨c, h⟩, fun _ h => by cases h⟩
  | (n, k) :: r, acc, h => by
    by_cases hk : k = .free
    · subst hk
      obtain ⟨c, hc⟩ := h (n, .free) List.mem_cons_self rfl
      obtain ⟨acc', e, h1, h2, h3⟩ := closure_go r ((n, c) :: acc) fun x hx => h x (List.mem_cons_of_mem _ hx)
      have hco : cellOf env n = pure c := by unfold cellOf; rw [hc]
      refine ⟨acc', ?_, fun x d hd => ?_, fun x d hd => ?_, fun x hx hf => ?_⟩
      · rw [List.forIn_cons]
        simp only [hco]
        exact e
      · rcases h1 x d hd with q | q
        · rw [List.lookup_cons] at q
          split at q
          · rename_i hx
            have hx : x = n := by simpa using hx
            subst hx
            cases q
            exact .inr hc
          · exact .inl q
        · exact .inr q
      · by_cases hx : x = n
        · subst hx
          exact h2 x c (by simp [List.lookup_cons])
        · refine h2 x d ?_
          rw [List.lookup_cons]
          have : (x == n) = false := by simpa using hx
          rw [this]; exact hd
      · rcases List.mem_cons.mp hx with rfl | hx
        · exact h2 n c (by simp [List.lookup_cons])
        · exact h3 x hx hf
    · obtain ⟨acc', e, h1, h2, h3⟩ := closure_go r acc fun x hx => h x (List.mem_cons_of_mem _ hx)
      refine ⟨acc', ?_, h1, h2, fun x hx hf => ?_⟩
      · rw [List.forIn_cons]
        have : (k == NameKind.free) = false := by simpa using hk
        simp only [this]
        exact e
      · rcases List.mem_cons.mp hx with rfl | hx
        · exact absurd hf hk
        · exact h3 x hx hf
theorem closure_ok {scope : Scope} {env : Env} (h : ∀ x ∈ scope.names, x.2 = .free → ∃ c, env.cells.lookup x.1 = some c) :
    ∃ cl, closureFor scope env = pure cl ∧ (∀ x c, cl.lookup x = some c → env.cells.lookup x = some c) ∧ ∀ x ∈ scope.names, x.2 = .free → ∃ c, cl.lookup x.1 = some c := by
  obtain ⟨cl, e, h1, _, h3⟩ := closure_go (env := env) scope.names [] h
  refine ⟨cl, ?_, fun x c hc => (h1 x c hc).elim (fun q => by cases q) id, h3⟩
  unfold closureFor
  show (forIn (m := Sem) scope.names ([] : List (Str × Addr)) _ >>= fun r => pure r) = _
  rw [e]
  rfl
theorem relabel_free {env : Env} : ∀ {names : List (Str × NameKind)} {x : Str}, names.lookup x = some .free →
    (names.map fun (n, k) => if (k == NameKind.free && env.scope.kind == .function && env.kindOf n == some .cell) then (n, NameKind.cell) else (n, k)).lookup x = some .cell ∨
    (names.map fun (n, k) => if (k == NameKind.free && env.scope.kind == .function && env.kindOf n == some .cell) then (n, NameKind.cell) else (n, k)).lookup x = some .free
  | [], _, h => by simp at h
  | (n, k) :: r, x, h => by
    have ih := @relabel_free env r x
    show List.lookup x ((if (k == NameKind.free && env.scope.kind == .function && env.kindOf n == some .cell) = true then (n, NameKind.cell) else (n, k)) :: _) = _ ∨ List.lookup x ((if (k == NameKind.free && env.scope.kind == .function && env.kindOf n == some .cell) = true then (n, NameKind.cell) else (n, k)) :: _) = _
    cases hx : x == n with
    | true =>
      simp only [List.lookup_cons, hx] at h
      cases h
      by_cases hc : (NameKind.free == NameKind.free && env.scope.kind == .function && env.kindOf n == some .cell) = true
      · left; rw [if_pos hc]; simp only [List.lookup_cons, hx]
      · right; rw [if_neg hc]; simp only [List.lookup_cons, hx]
    | false =>
      simp only [List.lookup_cons, hx] at h
      by_cases hc : (k == NameKind.free && env.scope.kind == .function && env.kindOf n == some .cell) = true
      · rw [if_pos hc]; simp only [List.lookup_cons, hx]; exact ih h
      · rw [if_neg hc]; simp only [List.lookup_cons, hx]; exact ih h
/-- what a name's kind in the block says of the written scope -/
theorem relabel_kind {env : Env} : ∀ {names : List (Str × NameKind)} {x : Str} {k' : NameKind}, (∀ y ∈ names, y.2 ≠ .cell) → (k' = .cell ∨ k' = .free) →
    (names.map fun (n, k) => if (k == NameKind.free && env.scope.kind == .function && env.kindOf n == some .cell) then (n, NameKind.cell) else (n, k)).lookup x = some k' → ∃ y ∈ names, y.1 = x ∧ y.2 = .free
  | [], _, _, _, _, h => by simp at h
  | (n, k) :: r, x, k', hn, hk, h => by
    have ih := @relabel_kind env r x k' (fun y hy => hn y (List.mem_cons_of_mem _ hy)) hk
    replace h : List.lookup x ((if (k == NameKind.free && env.scope.kind == .function && env.kindOf n == some .cell) = true then (n, NameKind.cell) else (n, k)) :: List.map (fun (n, k) => if (k == NameKind.free && env.scope.kind == .function && env.kindOf n == some .cell) then (n, NameKind.cell) else (n, k)) r) = some k' := h
    cases hx : x == n with
    | true =>
      have hx' : x = n := by simpa using hx
      by_cases hf : k = .free
      · exact ⟨(n, k), List.mem_cons_self, hx'.symm, hf⟩
      · have hc : ¬ (k == NameKind.free && env.scope.kind == .function && env.kindOf n == some .cell) = true := by
          have : (k == NameKind.free) = false := by simpa using hf
          rw [this]; simp
        rw [if_neg hc] at h
        simp only [List.lookup_cons, hx] at h
        have : k = k' := Option.some.inj h
        subst this
        rcases hk with hk | hk
        · exact absurd hk (hn (n, k) List.mem_cons_self)
        · exact absurd hk hf
    | false =>
      have h' : List.lookup x (List.map (fun (n, k) => if (k == NameKind.free && env.scope.kind == .function && env.kindOf n == some .cell) then (n, NameKind.cell) else (n, k)) r) = some k' := by
        by_cases hc : (k == NameKind.free && env.scope.kind == .function && env.kindOf n == some .cell) = true
        · rw [if_pos hc] at h; simp only [List.lookup_cons, hx] at h; exact h
        · rw [if_neg hc] at h; simp only [List.lookup_cons, hx] at h; exact h
      obtain ⟨y, hy, h1, h2⟩ := ih h'
      exact ⟨y, List.mem_cons_of_mem _ hy, h1, h2⟩

/-- the context of a comprehension's block -/
def blk (X : Cx) (N : List Str) (scope : Scope) (cl : List (Str × Addr)) (C : Addr) (s3 : Shared) (H3 : Hp) (fp : List Addr) : Cx :=
  { X with N := N, s₀ := s3, H₀ := H3, env := compEnvC scope cl C X.env, outer := X.stack, ex := fp, fn := fun _ => false, pn := [], xe := fun _ _ => False }
def PTs (X : Cx) (ifs : List Expr) (t : TT) : Prop :=
  ∀ (pins : List (Addr × Obj)) (s : Shared) (σ : St) (H : Hp) (Q : Bool → Hp → Prop), Inv X pins σ H s → t σ H Q →
    wpAny (model X.prog X.w) X.A (forIn ifs true fun c r => if r = true then do let ok ← isTrue c X.env (eval c X.env); pure (ForInStep.yield ok) else pure (ForInStep.yield r)) (TP X pins σ Q) X.xe s
theorem pts_nil {X : Cx} : PTs X [] (fun _ H Q => Q true H) := fun _ _ _ H _ I h => wpAny_tests_nil ⟨H, I, h⟩
theorem pts_one {X : Cx} {c : Expr} {t : TT} (h : PT X c t) : PTs X [c] t := fun pins s σ H Q I hq => wpAny_tests_one (h pins s σ H Q I hq)
/-- one turn after another: the list so far -/
@[irreducible] def cPut (W : Nat → Nat → List V → St → Hp → Prop) (acc : Addr) (ys : List V) (i m : Nat) (σ2 : St) (v : V) (H5 : Hp) : Prop :=
  H5 acc = some (.lst ys) ∧ ∀ H6, Chg acc H5 H6 → H6 acc = some (.lst (ys ++ [v])) → ∃ m', m' < m ∧ W (i + 1) m' (ys ++ [v]) σ2 H6
@[irreducible] def cSkip (W : Nat → Nat → List V → St → Hp → Prop) (ys : List V) (i m : Nat) (σ2 : St) (H4 : Hp) : Prop := ∃ m', m' < m ∧ W (i + 1) m' ys σ2 H4
@[irreducible] def compW (J : It) (g : TG) (tt : TT) (te : TE) (σ0 : St) (H1 : Hp) (Q : VK) : Prop :=
  ∀ acc H2, H1 acc = none → Same H1 H2 → H2 acc = some (.lst []) → ∃ W : Nat → Nat → List V → St → Hp → Prop, (∃ m, W 0 m [] σ0 H2) ∧ ∀ i m ys σ H, W i m ys σ H → H acc = some (.lst ys) ∧ ys.length < sizeLine ∧
    ((J.stop i H ∧ Q (.ref acc) H) ∨ (J.go i H ∧ ∀ x H', J.yld i H x H' → g x σ H' fun σ2 H3 => tt σ2 H3 fun b H4 =>
      br b (te σ2 H4 fun v H5 => cPut W acc ys i m σ2 v H5) (cSkip W ys i m σ2 H4)))
section
variable {X : Cx} {pins : List (Addr × Obj)} {σ : St} {H : Hp} {s2 : Shared}
theorem blk_inv {N : List Str} {scope : Scope} {cl : List (Str × Addr)} {C : Addr} {s3 s4 : Shared} {H3 : Hp} {fp : List Addr} {σc : St} (I : Inv X pins σ H3 s3)
    (hcl1 : ∀ x c, cl.lookup x = some c → X.env.cells.lookup x = some c) (hcl2 : ∀ x ∈ scope.names, x.2 = .free → ∃ c, cl.lookup x.1 = some c) (hkind : scope.kind = .function) (hcell : ∀ y ∈ scope.names, y.2 ≠ .cell)
    (hcap : ∀ (i : Nat) (x : Str) (v : V), N[i]? = some x → σc[i]? = some (some v) → ∃ j : Nat, X.N[j]? = some x ∧ σ[j]? = some (some v) ∧ scope.names.lookup x = some .free ∧ (X.env.kindOf x = some .cell ∨ X.env.kindOf x = some .free))
    (hlen : σc.length = N.length) (hC : s3.heap.objs.size = C) (hfp : ∀ b ∈ fp, FpOk X pins H3 b) (hfpl : ∀ b ∈ fp, b < C) (hex : ∀ b o, X.base.get? b = some o → b ∉ fp) (hns : ∃ m, s4.heap.Ns C m) (hk : ∀ b o, s3.heap.get? b = some o → s4.heap.get? b = some o) (h4 : s4.os = s3.os) (h5 : s4.gens = s3.gens) :
    Inv (blk X N scope cl C s3 H3 fp) [] σc H3 s4 := by
  subst hC
  have look : ∀ x, (blk X N scope cl s3.heap.objs.size s3 H3 fp).env.kindOf x = (relabel scope X.env).names.lookup x := fun x => rfl
  have cne : ∀ x c, cl.lookup x = some c → c < s3.heap.objs.size := fun x c h => by
    obtain ⟨v, o, ho, _⟩ := I.cell x c (hcl1 x c h)
    exact Heap.lt_size ho
  refine ⟨⟨I.ok.mod, ?_, I.ok.glob, I.ok.blt, Nat.le_refl _, fun x y c h1 h2 => I.ok.inj x y c (hcl1 _ _ h1) (hcl1 _ _ h2), fun x hx => ?_, fun x c h => ?_, I.ok.hd, I.ok.frames, .inl rfl, fun b hb => ⟨Nat.ne_of_lt (hfpl b hb), fun x c h => ?_⟩, fun b o e => I.bs b o e, Nat.le_trans I.ok.bsz I.sz, fun b o e => hex b o e, fun b hb => ?_, I.stack, I.stkFree⟩,
    h4, by rw [h5]; exact I.bare, Un.kept hk, ?_, fun x c h => ?_, I.hok.fresh (Nat.le_refl _), fun x c h => I.freeC x c (hcl1 _ _ h), fun p hp => (by cases hp), I.hok.kept hk, hlen⟩
  · exact hkind
  · have hx' : (relabel scope X.env).names.lookup x = some .cell ∨ (relabel scope X.env).names.lookup x = some .free := hx
    have hz : ∃ y ∈ scope.names, y.1 = x ∧ y.2 = .free := by
      rcases hx' with q | q
      · exact relabel_kind hcell (.inl rfl) q
      · exact relabel_kind hcell (.inr rfl) q
    obtain ⟨y, hy, rfl, hf⟩ := hz
    exact hcl2 y hy hf
  · exact absurd (show false = true from h) Bool.false_ne_true
  · exact (hfp b hb).2.2.2.2.1 x c (hcl1 x c h)
  · have := (hfp b hb).1
    intro hz
    obtain ⟨f0, f1, f2, _⟩ := hfp b hb
    have hz : b ∈ frs X.stack := hz
    rcases List.mem_cons.mp (I.stkSub b hz) with q | q
    · exact f1 q
    · exact f2 q
  · obtain ⟨m, hm⟩ := hns
    refine ⟨m, hm, fun i x v h1 h2 h3 => ?_⟩
    obtain ⟨j, e1, e2, e3, e4⟩ := hcap i x v h1 h2
    obtain ⟨mX, _, hl⟩ := I.loc
    obtain ⟨u, r, q⟩ := hl j x v e1 e2 (by rcases e4 with e4 | e4; exact .inr (.inl e4); exact .inr (.inr e4))
    refine ⟨u, r, .inr ⟨relabel_free e3, ?_⟩⟩
    obtain ⟨c, hc⟩ := hcl2 (x, .free) (PySem.mem_of_lookup e3) rfl
    refine ⟨c, hc, ?_⟩
    have hc' := hcl1 x c hc
    rcases q with ⟨k, _⟩ | ⟨_, c2, e5, o, ho, hd⟩
    · rcases e4 with e4 | e4 <;> rw [e4] at k <;> cases k
    · rw [hc'] at e5
      cases e5
      exact ⟨o, hk _ _ ho, hd⟩
  · obtain ⟨v, o, ho, hd⟩ := I.cell x c (hcl1 x c h)
    exact ⟨v, o, hk _ _ ho, hd⟩
theorem comp_loop {prog : Program} {w : World} {A : Around} {R : Result → Shared → Prop} {s : Shared} {elt target iter : Expr} {ifs : List Expr} {scope : Scope} {pos : Pos} {it acc : Value} {env : Env} (I : Nat → Shared → Prop)
    (turn : ∀ n s, I n s → wpAny (model prog w) A (pyNext it) (fun r s₁ => match r with
      | none => R (.ok .next) s₁
      | some v => wpAny (model prog w) A (letOwnedTupleGo target it v) (fun _ s₁' => wpAny (model prog w) A (assign target env v) (fun _ s₂ =>
          wpAny (model prog w) A (forIn ifs true fun c r => if r = true then do let ok ← isTrue c env (eval c env); pure (ForInStep.yield ok) else pure (ForInStep.yield r)) (fun ok s₃ =>
            if ok = true then wpAny (model prog w) A (eval elt env) (fun x s₄ =>
              wpAny (model prog w) A (call (.builtin "list.append") [acc, x]) (fun _ s₅ => ∃ m, m < n ∧ I m s₅) (fun _ _ => False) s₄) (fun _ _ => False) s₃
            else ∃ m, m < n ∧ I m s₃) (fun _ _ => False) s₂) (fun _ _ => False) s₁') (fun _ _ => False) s₁) (fun _ _ => False) s)
    (n : Nat) (h : I n s) : codeAny (model prog w) A (.compLoop (.ListComp elt [⟨target, iter, ifs, 0⟩] scope pos) 0 it acc env) R s := by
  refine codeAny_loop rfl I (fun n s hI => ?_) n h
  show wpAny _ A ((compTurn (.ListComp elt [⟨target, iter, ifs, 0⟩] scope pos) 0 it acc env).onRaise (fun x => do noteFrame x env; theTreesLotGoes x)) _ _ s
  refine wpAny_noted ?_
  rw [compTurn_list]
  refine wpAny_bind (wpAny_standAt (wpAny_bind (wpAny_mono (turn n s hI) (fun r s₁ h₁ => ?_) fun _ _ h' => h'.elim)))
  cases r with
  | none => exact wpAny_pure h₁
  | some v =>
    refine wpAny_bind (wpAny_mono h₁ (fun _ s₁' h₁' => ?_) fun _ _ h' => h'.elim)
    refine wpAny_bind (wpAny_mono h₁' (fun _ s₂ h₂ => wpAny_bind (wpAny_mono h₂ (fun ok s₃ h₃ => ?_) fun _ _ h' => h'.elim)) fun _ _ h' => h'.elim)
    cases ok with
    | false => exact wpAny_pure ⟨rfl, h₃⟩
    | true =>
      exact wpAny_bind (wpAny_bind (wpAny_mono h₃ (fun x s₄ h₄ => wpAny_bind (wpAny_mono h₄ (fun _ s₅ h₅ => wpAny_pure (wpAny_pure ⟨rfl, h₅⟩)) fun _ _ h' => h'.elim)) fun _ _ h' => h'.elim))

theorem comp_core {E : Value → Shared → Prop} {elt tg iter : Expr} {ifs : List Expr} {scope : Scope} {pos : Pos} {cl : List (Str × Addr)} {N : List Str} {σc : St} {J : It} {fp : List Addr} {it : Addr} {tn : Nat → Heap → Prop} {g : TG} {tt : TT} {te : TE} {Q : VK}
    {RR : Value → Addr → Result → Shared → Prop}
    (hcl1 : ∀ x c, cl.lookup x = some c → X.env.cells.lookup x = some c) (hcl2 : ∀ x ∈ scope.names, x.2 = .free → ∃ c, cl.lookup x.1 = some c) (hkind : scope.kind = .function) (hcell : ∀ y ∈ scope.names, y.2 ≠ .cell)
    (hcap : ∀ (i : Nat) (x : Str) (v : V), N[i]? = some x → σc[i]? = some (some v) → ∃ j : Nat, X.N[j]? = some x ∧ σ[j]? = some (some v) ∧ scope.names.lookup x = some .free ∧ (X.env.kindOf x = some .cell ∨ X.env.kindOf x = some .free))
    (hlen : σc.length = N.length) (hc : X.calm = true) (I : Inv X pins σ H s2) (T : Turn X.prog X.w X.K tg J fp it tn) (st : tn 0 s2.heap) (fpok : ∀ b ∈ fp, FpOk X pins H b)
    (hg : ∀ C s3 H3 fp, PG (blk X N scope cl C s3 H3 fp) tg g) (ht : ∀ C s3 H3 fp, PTs (blk X N scope cl C s3 H3 fp) ifs tt) (he : ∀ C s3 H3 fp, PE (blk X N scope cl C s3 H3 fp) elt te)
    (h : compW J g tt te σc H Q)
    (hRR : ∀ (acc C : Addr) (H' : Hp) (s' : Shared), Inv X pins σ H' s' → FpOk X pins H' C → (∃ m, s'.heap.Ns C m) → Q (.ref acc) H' → RR (.ref acc) C (.ok .next) s') :
    wpAny (model X.prog X.w) X.A (newList []) (fun acc s₃ => wpAny (model X.prog X.w) X.A (newFunctionEnv scope X.env.globals cl [] X.env.qual none .none (some X.env)) (fun cenv s₄ =>
      codeAny (model X.prog X.w) X.A (.compStart (.ListComp elt [⟨tg, iter, ifs, 0⟩] scope pos) 0 (.ref it) acc { cenv with scope := relabel scope X.env }) (RR acc cenv.locals) s₄) E s₃) E s2 := by
  refine wpAny_newObj_type (wpAny_newFunctionEnv hcell (by intro y hy; simp at hy) (fun h₁ hns₁ hsb₁ => ?_) hkind)
  dsimp only at hns₁ hsb₁ ⊢
  have hf : H s2.heap.objs.size = none := I.fresh
  have I3 : Inv X pins σ (upd H s2.heap.objs.size (.lst [])) { s2 with heap := s2.heap.push { cls := .type "list", data := .seq ([] : List Value).toArray } } := I.lnew (t' := s2.toks) (its := []) .nil (Nat.zero_le _)
  generalize hs3 : ({ s2 with heap := s2.heap.push { cls := .type "list", data := .seq ([] : List Value).toArray } } : Shared) = s3 at I3
  have hH : s2.heap.push { cls := .type "list", dict := none, data := .seq ([] : List Value).toArray } = s3.heap := by rw [← hs3]
  rw [hH] at hns₁ hsb₁ ⊢
  have hsz : s3.heap.objs.size = s2.heap.objs.size + 1 := by rw [← hH, Heap.size_push]
  have old23 : ∀ b o, s2.heap.get? b = some o → s3.heap.get? b = some o := fun b o e => by rw [← hH]; exact Heap.get?_push_of_some _ e
  have fplt : ∀ b ∈ fp, b < s2.heap.objs.size := fun b hb => by
    obtain ⟨o, e, _⟩ := T.obj 0 _ st b hb
    exact Heap.lt_size e
  have fp3 : ∀ b ∈ fp, FpOk X pins (upd H s2.heap.objs.size (.lst [])) b := fun b hb => by
    obtain ⟨f0, f1⟩ := fpok b hb
    refine ⟨?_, f1⟩
    rw [upd_ne (Nat.ne_of_lt (fplt b hb))]
    exact f0
  have old34 : ∀ b o, s3.heap.get? b = some o → h₁.get? b = some o := fun b o e => hsb₁.extBut b o (Nat.ne_of_lt (Heap.lt_size e)) (Heap.get?_push_of_some _ e)
  have nob : ∀ b o, X.base.get? b = some o → b ∉ fp := fun b o e hb => by
    obtain ⟨_, _, _, f3, _, _⟩ := fpok b hb
    rcases f3 with f3 | f3
    · exact I.ok.noex b o e f3
    · exact absurd (Nat.lt_of_lt_of_le (Heap.lt_size e) I.ok.bsz) (Nat.not_lt.mpr f3)
  have hs4e : ({ s2 with heap := h₁, toks := s2.toks + ([] : List (Str × Value)).length } : Shared).os = s3.os := by rw [← hs3]
  have hs4g : ({ s2 with heap := h₁, toks := s2.toks + ([] : List (Str × Value)).length } : Shared).gens = s3.gens := by rw [← hs3]
  have I4 : Inv (blk X N scope cl s3.heap.objs.size s3 (upd H s2.heap.objs.size (.lst [])) fp) [] σc (upd H s2.heap.objs.size (.lst [])) { s2 with heap := h₁, toks := s2.toks + ([] : List (Str × Value)).length } :=
    blk_inv (s4 := { s2 with heap := h₁, toks := s2.toks + ([] : List (Str × Value)).length }) I3 hcl1 hcl2 hkind hcell hcap hlen rfl fp3 (fun b hb => Nat.lt_of_lt_of_le (fplt b hb) (by rw [hsz]; exact Nat.le_succ _)) nob ⟨_, hns₁⟩ old34 hs4e hs4g
  have st4 : tn 0 h₁ := T.keep _ _ _ st fun b hb o e => old34 b o (old23 b o e)
  unfold compW at h
  obtain ⟨W, ⟨m0, w0⟩, turn⟩ := h s2.heap.objs.size _ hf (Same.upd hf) upd_same
  have loop : codeAny (model X.prog X.w) X.A (.compLoop (.ListComp elt [⟨tg, iter, ifs, 0⟩] scope pos) 0 (.ref it) (.ref s2.heap.objs.size) (blk X N scope cl s3.heap.objs.size s3 (upd H s2.heap.objs.size (.lst [])) fp).env)
      (RR (.ref s2.heap.objs.size) s3.heap.objs.size) { s2 with heap := h₁, toks := s2.toks + ([] : List (Str × Value)).length } := by
    refine comp_loop (fun n s' => ∃ i ys σ' H', Inv (blk X N scope cl s3.heap.objs.size s3 (upd H s2.heap.objs.size (.lst [])) fp) [] σ' H' s' ∧ tn i s'.heap ∧ (∀ b ∈ fp, H' b = none) ∧ W i n ys σ' H') ?_ m0 ⟨0, [], σc, _, I4, st4, fun b hb => (fp3 b hb).1, w0⟩
    rintro n s5 ⟨i, ys, σ5, H5, I5, st5, fr5, w5⟩
    obtain ⟨hacc, hl5, hcase⟩ := turn i n ys σ5 H5 w5
    have stat : ∀ {H' : Hp}, (∀ b ∈ fp, H' b = none) → ∀ b ∈ fp, FpOk (blk X N scope cl s3.heap.objs.size s3 (upd H s2.heap.objs.size (.lst [])) fp) [] H' b := fun hn b hb => by
      obtain ⟨_, f1, f2, f3, f4, _⟩ := fpok b hb
      refine ⟨hn b hb, Nat.ne_of_lt (Nat.lt_of_lt_of_le (fplt b hb) (by rw [hsz]; exact Nat.le_succ _)), fun hz => ?_, .inl hb, fun x c hx => f4 x c (hcl1 x c hx), fun p hp => by cases hp⟩
      rcases List.mem_cons.mp (I.stkSub b hz) with q | q
      · exact f1 q
      · exact f2 q
    rcases hcase with ⟨stop, hq⟩ | ⟨go, step⟩
    · refine thn (T.done (blk X N scope cl s3.heap.objs.size s3 (upd H s2.heap.objs.size (.lst [])) fp) rfl rfl rfl hc i [] s5 σ5 H5 (fun _ _ => False) I5 (stat fr5) st5 stop) fun r s6 ⟨hr, I6⟩ => ?_
      subst hr
      have u1 : Un (frs X.stack) fp H (upd H s2.heap.objs.size (.lst [])) s2.heap s3.heap := Un.laid old23 (Nat.le_refl _) hf
      have u2 : Un (frs X.stack) fp (upd H s2.heap.objs.size (.lst [])) H5 s3.heap s6.heap := I6.base
      have hC : H5 s3.heap.objs.size = none := I6.free
      obtain ⟨m6, hm6, _⟩ := I6.loc
      have hos : s6.os = s2.os := by rw [I6.os]; show s3.os = s2.os; rw [← hs3]
      have hok6 := I6.hok
      have bare6 := I6.bare
      obtain ⟨hh, gg, dd, tt', os'⟩ := s6
      obtain rfl : os' = s2.os := hos
      exact hRR _ _ H5 _ (I.call (h' := hh) (g' := gg) (d' := dd) (t' := tt') (ch := fp) (u1.trans u2) hok6 bare6 fun b hb => ⟨(fpok b hb).2.2.2.1, (fpok b hb).2.1, (fpok b hb).2.2.2.2.1, (fpok b hb).2.2.2.2.2⟩)
        (I.fpOk (by rw [hsz]; exact Nat.le_succ _) hC) ⟨m6, hm6⟩ hq
    · refine thn (T.item (blk X N scope cl s3.heap.objs.size s3 (upd H s2.heap.objs.size (.lst [])) fp) rfl rfl rfl hc i [] s5 σ5 H5 (fun _ _ => False) I5 (stat fr5) st5 go) fun r s6 ⟨u, hr, h6⟩ => ?_
      subst hr
      refine thn h6 fun _ s7 ⟨x, H7, I7, r7, y7, st7, fr7⟩ => ?_
      have I7' := I7.pinned (stat fr7) (T.obj _ _ st7)
      refine thn (hg _ _ _ _ _ s7 σ5 H7 x u _ I7' r7 (step x H7 y7)) fun _ s8 ⟨σ8, H8, I8, q8⟩ => ?_
      refine thn (ht _ _ _ _ _ s8 σ8 H8 _ I8 q8) fun ok s9 ⟨H9, I9, q9⟩ => ?_
      have again : ∀ {s10 : Shared} {σ10 : St} {H10 : Hp} {zs : List V}, Inv (blk X N scope cl s3.heap.objs.size s3 (upd H s2.heap.objs.size (.lst [])) fp) ([] ++ pinsAt fp s7.heap) σ10 H10 s10 → (∃ m', m' < n ∧ W (i + 1) m' zs σ10 H10) →
          ∃ m, m < n ∧ ∃ i ys σ' H', Inv (blk X N scope cl s3.heap.objs.size s3 (upd H s2.heap.objs.size (.lst [])) fp) [] σ' H' s10 ∧ tn i s10.heap ∧ (∀ b ∈ fp, H' b = none) ∧ W i m ys σ' H' := fun {s10 σ10 H10 zs} I10 ⟨m', hm, w10⟩ => by
        refine ⟨m', hm, i + 1, zs, σ10, H10, I10.unpinned, T.keep _ _ _ st7 fun b hb o e => (I10.pin (b, o) (List.mem_append_right _ (List.mem_append_right _ (mem_pinsAt hb e)))).1, fun b hb => ?_, w10⟩
        obtain ⟨o, e, d⟩ := T.obj _ _ st7 b hb
        exact (I10.pin (b, o) (List.mem_append_right _ (List.mem_append_right _ (mem_pinsAt hb e)))).2.1
      dsimp only at q9
      rw [br_iff] at q9
      cases ok with
      | false =>
        have q9 : ∃ m', m' < n ∧ W (i + 1) m' ys σ8 H9 := by rw [if_neg Bool.false_ne_true] at q9; unfold cSkip at q9; exact q9
        exact again I9 q9
      | true =>
        have q9 := (if_pos rfl ▸ q9 : te σ8 H9 _)
        refine thn (he _ _ _ _ _ s9 σ8 H9 _ I9 q9) fun v s10 ⟨y, H10, I10, r10, q10⟩ => ?_
        unfold cPut at q10
        obtain ⟨e10, q10⟩ := q10
        refine thn (mt_append _ s10 σ8 H10 (.ref s2.heap.objs.size) [y] (.ref s2.heap.objs.size) [v] (fun _ H11 => ∃ m', m' < n ∧ W (i + 1) m' (ys ++ [y]) σ8 H11) I10 rfl (.cons r10 .nil) ⟨_, ys, y, rfl, rfl, e10, hl5, q10 _ Chg.upd upd_same⟩) fun _ s11 ⟨z, H11, I11, _, q11⟩ => ?_
        exact again I11 q11
  exact codeAny_compStart_list loop (T.self _ 0 _ _ _ st4 loop)
/-- what the block sees of the frame: by slots -/
def capS (ks : List (Option Nat)) (σ : St) : St := ks.map fun k => match k with
  | none => none
  | some j => (σ[j]?).join
inductive CapOk (X : Cx) (scope : Scope) : List Str → List (Option Nat) → Prop where
  | nil : CapOk X scope [] []
  | skip {x : Str} {N : List Str} {ks : List (Option Nat)} (t : CapOk X scope N ks) : CapOk X scope (x :: N) (none :: ks)
  | take {x : Str} {N : List Str} {ks : List (Option Nat)} {j : Nat} (h1 : X.N[j]? = some x) (h2 : scope.names.lookup x = some .free) (h3 : X.env.kindOf x = some .cell ∨ X.env.kindOf x = some .free) (t : CapOk X scope N ks) : CapOk X scope (x :: N) (some j :: ks)
theorem CapOk.cap {scope : Scope} {N : List Str} {ks : List (Option Nat)} (h : CapOk X scope N ks) (σ : St) : ∀ (i : Nat) (x : Str) (v : V), N[i]? = some x → (capS ks σ)[i]? = some (some v) → ∃ j : Nat, X.N[j]? = some x ∧ σ[j]? = some (some v) ∧ scope.names.lookup x = some .free ∧ (X.env.kindOf x = some .cell ∨ X.env.kindOf x = some .free) := by
  induction h with
  | nil => intro i x v h; simp at h
  | skip t ih =>
    intro i x v h1 h2
    cases i with
    | zero => simp [capS] at h2
    | succ i => exact ih i x v (by simpa using h1) (by simpa [capS] using h2)
  | take a b c t ih =>
    intro i x v h1 h2
    cases i with
    | zero =>
      simp only [List.getElem?_cons_zero, Option.some.injEq] at h1
      subst h1
      refine ⟨_, a, ?_, b, c⟩
      simpa [capS, Option.join_eq_some_iff] using h2
    | succ i => exact ih i x v (by simpa using h1) (by simpa [capS] using h2)
theorem CapOk.len {scope : Scope} {N : List Str} {ks : List (Option Nat)} (h : CapOk X scope N ks) (σ : St) : (capS ks σ).length = N.length := by
  have : ks.length = N.length := by
    induction h with
    | nil => rfl
    | skip t ih => simp [ih]
    | take a b c t ih => simp [ih]
  simp [capS, this]
def qComp (ks : List (Option Nat)) (wi : TI) (g : TG) (tt : TT) (te : TE) : TE := fun σ H Q => wi σ H fun J H1 => compW J g tt te (capS ks σ) H1 Q
def freeB (scope : Scope) (f : Str → Option NameKind) : Bool := scope.names.all fun x => x.2 != .free || (f x.1 == some .cell || f x.1 == some .free)
def scopeB (scope : Scope) : Bool := scope.names.all (fun x => x.2 != .cell) && scope.names.all fun x => x.2 != .local || scope.names.lookup x.1 == some .local
theorem freeB_ok {scope : Scope} {f : Str → Option NameKind} (h : freeB scope f = true) : ∀ x ∈ scope.names, x.2 = .free → f x.1 = some .cell ∨ f x.1 = some .free := fun x hx hf => by
  have := List.all_eq_true.mp h x hx
  simpa [hf] using this
theorem scopeB_ok {scope : Scope} (h : scopeB scope = true) : (∀ y ∈ scope.names, y.2 ≠ .cell) ∧ ∀ x ∈ scope.names, x.2 = .local → scope.names.lookup x.1 = some .local := by
  unfold scopeB at h
  rw [Bool.and_eq_true] at h
  refine ⟨fun y hy => ?_, fun x hx hl => ?_⟩
  · have := List.all_eq_true.mp h.1 y hy
    simpa using this
  · have := List.all_eq_true.mp h.2 x hx
    simpa [hl] using this
theorem peComp {elt tg iter : Expr} {ifs : List Expr} {scope : Scope} {pos : Pos} {N : List Str} {ks : List (Option Nat)} {wi : TI} {g : TG} {tt : TT} {te : TE} (hi : PI X tg iter wi)
    (hg : ∀ cl C s3 H3 fp, PG (blk X N scope cl C s3 H3 fp) tg g) (ht : ∀ cl C s3 H3 fp, PTs (blk X N scope cl C s3 H3 fp) ifs tt) (he : ∀ cl C s3 H3 fp, PE (blk X N scope cl C s3 H3 fp) elt te) (hcap : CapOk X scope N ks)
    (hc : X.calm = true := by rfl) (hkind : scope.kind = .function := by rfl) (hb : freeB scope X.env.kindOf = true := by rfl) (hn : scopeB scope = true := by rfl) (hs : ∀ x, foldedSetIterable iter X.env x = pure x := by intro _; rfl) :
    PE X (.ListComp elt [⟨tg, iter, ifs, 0⟩] scope pos) (qComp ks wi g tt te) := by
  intro pins s σ H Q I h
  obtain ⟨hcell, hnames⟩ := scopeB_ok hn
  obtain ⟨cl, hcl, hcl1, hcl2⟩ := closure_ok (scope := scope) (env := X.env) fun x hx hf => I.ok.has x.1 (freeB_ok hb x hx hf)
  rw [eval_ListComp]
  refine wpAny_comprehension_free (use := none) rfl hs hcl hkind hnames ?_
  show wpAny _ _ (eval iter X.env) _ _ s
  refine thn (hi pins s σ H _ I h) fun v s1 h1 => thn h1 fun itv s2 h2 => ?_
  obtain ⟨it, fp, tn, J, H2, e, I2, T, st2, f2, q2⟩ := h2
  subst e
  refine comp_core (RR := fun acc C => compPost (model X.prog X.w) X.A X.xe none (EP X pins σ Q) acc C) hcl1 hcl2 hkind hcell (hcap.cap σ) (hcap.len σ) hc I2 T st2 f2 (hg cl) (ht cl) (he cl) q2 ?_
  rintro acc C H' s' I' hC ⟨m, hm⟩ hq
  refine ⟨m, hm, fun h' hsb => ⟨.ref acc, H', ?_, rfl, hq⟩⟩
  exact I'.turned (t' := s'.toks) (fun b o hb e => hsb.extBut b o hb e) hC.1 hC.2.1 hC.2.2.2.1 hC.2.2.2.2.1 hC.2.2.2.2.2
/-- name = [.. for ..], the name a plain local -/
theorem psC {i : Nat} {y : Str} {py spos : Pos} {elt tg iter : Expr} {ifs : List Expr} {scope : Scope} {pos : Pos} {N : List Str} {ks : List (Option Nat)} {wi : TI} {g : TG} {tt : TT} {te : TE} (hN : X.N.Nodup) (hi : PI X tg iter wi)
    (hg : ∀ cl C s3 H3 fp, PG (blk X N scope cl C s3 H3 fp) tg g) (ht : ∀ cl C s3 H3 fp, PTs (blk X N scope cl C s3 H3 fp) ifs tt) (he : ∀ cl C s3 H3 fp, PE (blk X N scope cl C s3 H3 fp) elt te) (hcap : CapOk X scope N ks)
    (hy : X.N[i]? = some y := by rfl) (hl : X.env.scope.names.lookup y = some .local := by rfl) (hsw : swapsWith (.ListComp elt [⟨tg, iter, ifs, 0⟩] scope pos) (some (.Name y py)) spos.line X.env = pure true := by rfl)
    (hc : X.calm = true := by rfl) (hkind : scope.kind = .function := by rfl) (hb : freeB scope X.env.kindOf = true := by rfl) (hn : scopeB scope = true := by rfl) (hs : ∀ x, foldedSetIterable iter X.env x = pure x := by intro _; rfl) :
    PS X (.Assign [.Name y py] (.ListComp elt [⟨tg, iter, ifs, 0⟩] scope pos) spos) (tAsg (qComp ks wi g tt te) (gName i)) := by
  intro pins s σ H D I h
  obtain ⟨hcell, hnames⟩ := scopeB_ok hn
  obtain ⟨cl, hcl, hcl1, hcl2⟩ := closure_ok (scope := scope) (env := X.env) fun x hx hf => I.ok.has x.1 (freeB_ok hb x hx hf)
  rw [exec_Assign_Name_used _ _ _ _ hsw]
  refine wpAny_bind (wpAny_standAt (wpAny_bind ?_))
  show wpAny _ X.A (do let _ ← comprehension (.ListComp elt [⟨tg, iter, ifs, 0⟩] scope pos) scope X.env _ (newList []) false (eval iter X.env) (some (assign (.Name y py) X.env))) _ _ s
  refine wpAny_bind (wpAny_mono (wpAny_comprehension_free (use := some (assign (.Name y py) X.env)) (Q := fun _ s' => SP X pins D .next s') rfl hs hcl hkind hnames ?_) (fun _ s' hq => wpAny_pure (wpAny_pure hq)) fun _ _ e => e)
  refine thn (hi pins s σ H _ I h) fun v s1 h1 => thn h1 fun itv s2 h2 => ?_
  obtain ⟨it, fp, tn, J, H2, e, I2, T, st2, f2, q2⟩ := h2
  subst e
  refine comp_core (RR := fun acc C => compPost (model X.prog X.w) X.A X.xe (some (assign (.Name y py) X.env)) (fun _ s' => SP X pins D .next s') acc C) hcl1 hcl2 hkind hcell (hcap.cap σ) (hcap.len σ) hc I2 T st2 f2 (hg cl) (ht cl) (he cl) q2 ?_
  rintro acc C H' s' I' hC ⟨m, hm⟩ hq
  show wpAny _ _ (assign (.Name y py) X.env (.ref acc)) _ _ _
  refine wpAny_assign_Name (store_ok2 I' hN hy (.inl hl) (v := .ref acc) rfl (fun s'' I'' hsb => ?_) (.inr hl))
  obtain ⟨a, hsb, ha⟩ := hsb
  have hCa : C ≠ a := by
    rcases ha with ha | ha
    · rw [ha]; exact hC.2.1
    · exact (hC.2.2.2.2.1 y a ha).symm
  refine ⟨m, hm.sameBut hsb hCa, fun h' hsb' => ⟨σ.set i (some (.ref acc)), H', ?_, hq⟩⟩
  exact I''.turned (t' := s''.toks) (fun b o hb e => hsb'.extBut b o hb e) hC.1 hC.2.1 hC.2.2.2.1 hC.2.2.2.2.1 hC.2.2.2.2.2
end
/-! ### how a comprehension is read -/
section
variable {K : PySem.W.Frag} {g : TG} {tt : TT} {te : TE} {σ0 : St} {H1 : Hp} {Q : VK}
end
end L2

set_option Elab.async false
set_option linter.all false
set_option maxRecDepth 100000
set_option maxHeartbeats 2000000
namespace L2
open PySem PySem.Spec PyProof.Rows
section
variable {X : Cx}
/-! ### sum, all, list, tuple of what is read -/
@[irreducible] def rSumA (K : PySem.W.Frag) (p : Addr) (H : Hp) (Q : VK) : Prop := ∃ ns : List Int, SqL K H p (ns.map V.int) ∧ Q (.int ns.sum) H
def rSumM (K : PySem.W.Frag) : List V → Hp → VK → Prop := fun xs H Q => match xs with
  | [.ref p] => rSumA K p H Q
  | _ => False
theorem cSum (hc : X.calm = true) : CallR X (.builtin "sum") (rSumM X.K) := fun pins s σ H xs us Q I r h => by
  unfold rSumM at h
  split at h
  · unfold rSumA at h
    obtain ⟨ns, h1, h2⟩ := h
    obtain ⟨u, rfl, rx⟩ := vals1 r
    cases rx
    obtain ⟨its, r', pl, hz⟩ := I.list h1
    have hi := intsAre_of r'
    obtain ⟨ys, hx⟩ := hi.allInts.items
    have hl' : s.heap.IsList _ (intItems ys) := hx ▸ pl.isList
    refine sum_intListG (I.ok.hd hc) hl' fun h' tk t' hk => ?_
    have e1 : ns = ys.toList.map (·.1) := by
      rw [← nums_intItems, ← hx]
      exact (show numsOf its.toArray.toList = ns from hi.numsOf).symm
    have e2 : preSum (numAt ys) ys.size = ns.sum := by
      rw [preSum_eq, List.take_of_length_le (by simp), e1]
    rw [e2]
    exact ⟨.int ns.sum, H, I.kept hk, ⟨_, rfl⟩, h2⟩
  · exact h.elim
theorem sum_rd {K : PySem.W.Frag} {p : Addr} {H : Hp} {Q : VK} {ns : List Int} (h : H p = some (.lst (ns.map V.int))) (q : Q (.int ns.sum) H) : rSumA K p H Q := by unfold rSumA; exact ⟨ns, SqL.of h, q⟩
theorem boolsAre_of : ∀ {bs : List Bool} {us : List Value}, Vals (bs.map V.bl) us → LSm.BoolsAre us bs
  | [], us, r => by rw [List.map_nil] at r; cases r; exact .nil
  | b :: bs, us, r => by
    rw [List.map_cons] at r
    cases r with
    | cons r1 r2 =>
      cases r1
      exact .cons b (boolsAre_of r2)
@[irreducible] def rAllA (K : PySem.W.Frag) (p : Addr) (H : Hp) (Q : VK) : Prop := ∃ bs : List Bool, SqL K H p (bs.map V.bl) ∧ Q (.bl (bs.all id)) H
def rAllM (K : PySem.W.Frag) : List V → Hp → VK → Prop := fun xs H Q => match xs with
  | [.ref p] => rAllA K p H Q
  | _ => False
theorem cAll (hc : X.calm = true) : CallR X (.builtin "all") (rAllM X.K) := fun pins s σ H xs us Q I r h => by
  unfold rAllM at h
  split at h
  · rename_i p
    unfold rAllA at h
    obtain ⟨bs, h1, h2⟩ := h
    obtain ⟨u, rfl, rx⟩ := vals1 r
    cases rx
    obtain ⟨its, r', pl, hz⟩ := I.list h1
    have hb := boolsAre_of r'
    have hlt : p < s.heap.objs.size := by obtain ⟨_, e, _⟩ := pl.isList; exact Heap.lt_size e
    refine call_all_walk (wpAny_pyIter_list pl.isList ?_)
    refine ⟨s.heap.objs.size, [s.heap.objs.size, _], [s.heap.objs.size], its.toArray.size, _, _, fun i => (bs[i]?).getD true, rfl, Walks.list (A := X.A.in1) (I.ok.hd hc) _ _ (Nat.ne_of_lt hlt) its.toArray,
      ⟨⟨_, Heap.get?_push_size _ rfl, rfl, rfl⟩, pl.isList.push _⟩, fun i v s' Q' E' hP hQ => ?_, fun h' tk hk => ?_⟩
    · obtain ⟨b, e, rfl⟩ := hb.get i v (by simpa using hP)
      simp only [e, Option.getD_some] at hQ
      exact wpAny_truthy_bool hQ
    · have e : ((List.range its.toArray.size).all fun i => (bs[i]?).getD true) = bs.all id := by
        rw [List.size_toArray, hb.length]; exact LSm.range_all bs
      rw [e]
      exact ⟨.bl _, H, I.kept (LSm.kept_iter hk), rfl, h2⟩
  · exact h.elim
theorem all_rd {K : PySem.W.Frag} {p : Addr} {H : Hp} {Q : VK} {bs : List Bool} (h : H p = some (.lst (bs.map V.bl))) (q : Q (.bl (bs.all id)) H) : rAllA K p H Q := by unfold rAllA; exact ⟨bs, SqL.of h, q⟩
@[irreducible] def rListA (K : PySem.W.Frag) (p : Addr) (H : Hp) (Q : VK) : Prop := ∃ ys, (SqL K H p ys ∨ SqT K H p ys) ∧ ∀ l H', H l = none → Same H H' → H' l = some (.lst ys) → Q (.ref l) H'
def rListM (K : PySem.W.Frag) : List V → Hp → VK → Prop := fun xs H Q => match xs with
  | [.ref p] => rListA K p H Q
  | _ => False
theorem cList : CallR X (.type "list") (rListM X.K) := fun pins s σ H xs us Q I r h => by
  unfold rListM at h
  split at h
  · unfold rListA at h
    obtain ⟨ys, h1, h2⟩ := h
    exact call_list_of pins s σ H _ us Q I r ⟨_, ys, rfl, h1, fun l hl => h2 l _ hl (Same.upd hl) upd_same⟩
  · exact h.elim
theorem listL_rd {K : PySem.W.Frag} {p : Addr} {H : Hp} {Q : VK} {ys : List V} (h : SqL K H p ys) (q : ∀ l H', H l = none → Same H H' → H' l = some (.lst ys) → Q (.ref l) H') : rListA K p H Q := by unfold rListA; exact ⟨ys, .inl h, q⟩
/-! ### methods of lists -/
@[irreducible] def rLstIs (K : PySem.W.Frag) (p : Addr) (H : Hp) (R : Prop) : Prop := (∃ xs, SqL K H p xs) ∧ R
def qBM (K : PySem.W.Frag) (r : Addr → List V → Hp → VK → Prop) (to : TE) (t : TA) : TE := fun σ H Q => to σ H fun x H1 => match x with
  | .ref p => rLstIs K p H1 (t σ H1 fun xs H2 => r p xs H2 Q)
  | _ => False
theorem lst_is {K : PySem.W.Frag} {p : Addr} {H : Hp} {R : Prop} {xs : List V} (h : H p = some (.lst xs)) (q : R) : rLstIs K p H R := by unfold rLstIs; exact ⟨⟨xs, SqL.of h⟩, q⟩
def MtA (X : Cx) (id : String) (r : Addr → List V → Hp → VK → Prop) : Prop :=
  ∀ (pins : List (Addr × Obj)) (s : Shared) (σ : St) (H : Hp) (p : Addr) (xs : List V) (us : List Value) (Q : VK), Inv X pins σ H s → Vals xs us → r p xs H Q →
    wpAny (model X.prog X.w) X.A (call (.builtin id) (.ref p :: us)) (EP X pins σ Q) X.xe s
theorem peBM {o e : Expr} {es : List Expr} {to : TE} {t : TA} {name : Str} {apos cpos : Pos} {id : String} {r : Addr → List V → Hp → VK → Prop} (slot : Slot "list" name id) (hty : typeOf (.builtin id) = pure (.type "method_descriptor")) (hm : MtA X id r) (ho : PE X o to) (ha : PA X (e :: es) t)
    (hbase : attributeBase o name X.env (eval o X.env) = eval o X.env := by rfl)
    (hfew : ((backTo cpos (starEach (e :: es) X.env)).all (fun x => !x.1) && (backToKw cpos (keywordEach [] X.env)).all (fun x => x.1.isSome)
      && decide ((e :: es).length + ([] : List Keyword).length + (if ([] : List Keyword).isEmpty then 0 else 1) < 30)) = true := by rfl)
    (hline : (apos.endLine == cpos.line) = true := by rfl) (hs : starEach (e :: es) X.env = (false, eval e X.env) :: starEach es X.env := by rfl) (hplain : (backTo cpos (starEach es X.env)).any (·.1) = false := by rfl) :
    PE X (.Call (.Attribute o name apos) (e :: es) [] cpos) (qBM X.K r to t) := by
  intro pins s σ H Q I h
  refine wpAny_Call_method_late hbase hfew hline rfl (thn (ho pins s σ H _ I h) fun v s1 ⟨x, H1, I1, r1, q1⟩ => ?_)
  dsimp only at q1
  split at q1
  · rename_i p
    unfold rLstIs at q1
    obtain ⟨hq, q1⟩ := q1
    obtain ⟨h1, h2⟩ := tyV_is (T := "list") I1 r1 (.inl ⟨rfl, hq⟩)
    refine ⟨"list", id, PySem.F.plainAttrs_list, slot, hty, h1, h2, ?_⟩
    have hA := ha cpos pins s1 σ H1 _ I1 q1
    rw [hs] at hA ⊢
    refine Calls.callWith_builtin (by show (false || (backTo cpos (starEach es X.env)).any (·.1)) = false; rw [hplain] <;> rfl) (Calls.evalArgs_plain ?_)
    cases r1
    exact thn hA fun us s2 ⟨vs, H2, I2, r2, q2⟩ => hm pins s2 σ H2 p vs us Q I2 r2 q2
  · exact q1.elim
@[irreducible] def rAppA (p : Addr) (v : V) (H : Hp) (Q : VK) : Prop := ∃ xs, H p = some (.lst xs) ∧ xs.length < sizeLine ∧ ∀ H', Chg p H H' → H' p = some (.lst (xs ++ [v])) → Q .non H'
def rAppM : Addr → List V → Hp → VK → Prop := fun p vs H Q => match vs with
  | [v] => rAppA p v H Q
  | _ => False
theorem mAppend : MtA X "list.append" rAppM := fun pins s σ H p xs us Q I r h => by
  unfold rAppM at h
  split at h
  · unfold rAppA at h
    obtain ⟨ys, h1, h2, h3⟩ := h
    exact mt_append pins s σ H (.ref p) _ (.ref p) us Q I rfl r ⟨p, ys, _, rfl, rfl, h1, h2, h3 _ Chg.upd upd_same⟩
  · exact h.elim
theorem app_rd {p : Addr} {v : V} {H : Hp} {Q : VK} {xs : List V} (h : H p = some (.lst xs)) (hz : xs.length < sizeLine) (q : ∀ H', Chg p H H' → H' p = some (.lst (xs ++ [v])) → Q .non H') : rAppA p v H Q := by unfold rAppA; exact ⟨xs, h, hz, q⟩
theorem peM_append {o e : Expr} {to : TE} {t : TA} {apos cpos : Pos} (ho : PE X o to) (ha : PA X [e] t) (hbase : attributeBase o "append" X.env (eval o X.env) = eval o X.env := by rfl)
    (hfew : ((backTo cpos (starEach [e] X.env)).all (fun x => !x.1) && (backToKw cpos (keywordEach [] X.env)).all (fun x => x.1.isSome)
      && decide ([e].length + ([] : List Keyword).length + (if ([] : List Keyword).isEmpty then 0 else 1) < 30)) = true := by rfl)
    (hline : (apos.endLine == cpos.line) = true := by rfl) (hs : starEach [e] X.env = (false, eval e X.env) :: starEach [] X.env := by rfl) (hplain : (backTo cpos (starEach [] X.env)).any (·.1) = false := by rfl) : PE X (.Call (.Attribute o "append" apos) [e] [] cpos) (qBM X.K rAppM to t) :=
  peBM PySem.F.slot_list_append PySem.F.type_list_append mAppend ho ha hbase hfew hline hs hplain
/-! ### name op= e -/
/-! ### is None -/
/-! ### a, b = a list -/
section
variable {prog : Program} {w : World} {A : Around} {E : Value → Shared → Prop} {s : Shared}
theorem draw_list {it t : Addr} {items : Array Value} (hne : t ≠ it) : ∀ (n i : Nat) (s : Shared) (Q : List Value → Shared → Prop), s.heap.IsListIter it t i → s.heap.IsList t items → i + n ≤ items.size →
    (∀ h', h'.IsListIter it t (i + n) → Heap.SameBut it s.heap h' → Q ((items.toList.drop i).take n) { s with heap := h' }) → wpAny (model prog w) A (draw (.ref it) n) Q E s
  | 0, i, s, Q, hit, _, _, hQ => by
    show wpAny _ _ (pure []) Q E s
    exact wpAny_pure (by simpa using hQ s.heap hit (Heap.SameBut.refl ..))
  | n + 1, i, s, Q, hit, ht, hle, hQ => by
    have hlt : i < items.size := by omega
    show wpAny _ _ (pyNext (.ref it) >>= _) Q E s
    refine wpAny_bind (wpAny_pyNext_list_item hit ht (x := items[i]) (by simp [hlt]) fun h₁ hit₁ hs₁ => ?_)
    refine wpAny_bind (wpAny_holding (draw_list hne n (i + 1) _ _ hit₁ (ht.extBut hs₁.extBut hne) (by omega) fun h₂ hit₂ hs₂ => wpAny_pure ?_))
    have hd : items.toList.drop i = items[i] :: items.toList.drop (i + 1) := by simp [List.drop_eq_getElem_cons, hlt]
    have := hQ h₂ (by rw [show i + (n + 1) = i + 1 + n by omega]; exact hit₂) (hs₁.trans hs₂)
    rw [hd, List.take_succ_cons] at this
    exact this
theorem assign_Tuple_list {env : Env} {elts : List Expr} {x1} {pos : Pos} {t : Addr} {items : Array Value} {Q : Unit → Shared → Prop} (hh : A.handled = none) (ht : s.heap.IsList t items)
    (hn : (assignEach elts env).length = items.size) (hstar : (assignEach elts env).findIdx? (·.1) = none)
    (h : ∀ h', Heap.ExtBut s.heap.objs.size s.heap h' → wpAny (model prog w) A (assignInOrder ((assignEach elts env).map (·.2)) items.toList) Q E { s with heap := h' }) :
    wpAny (model prog w) A (assign (.Tuple elts x1 pos) env (.ref t)) Q E s := by
  rw [assign_Tuple]
  refine wpAny_bind (wpAny_standAt ?_)
  unfold unpack
  rw [hn, hstar]
  refine wpAny_bind (wpAny_holding ?_)
  have hlt : t ≠ s.heap.objs.size := by obtain ⟨o, ho, _⟩ := ht; exact Nat.ne_of_lt (Heap.lt_size ho)
  unfold unpackItems
  refine wpAny_bind ?_
  unfold notIterableAtAll
  refine wpAny_bind (wpAny_specialOf ht.typeIs F.slot_list_iter.lookup ?_)
  refine wpAny_pure ?_
  simp only [Bool.false_eq_true, if_false]
  refine wpAny_bind (wpAny_holding (wpAny_pyIter_list ht ?_))
  refine wpAny_bind (wpAny_holding (draw_list hlt items.size 0 _ _ ⟨_, Heap.get?_push_size _ rfl, rfl, rfl⟩ (ht.push _) (by omega) fun h₁ hit₁ hs₁ => ?_))
  have hall : List.take items.size (List.drop 0 items.toList) = items.toList := by
    rw [List.drop_zero]; exact List.take_of_length_le (by simp)
  rw [hall]
  rw [if_neg (by simp)]
  have ht₁ : h₁.IsList t items := (ht.push _).extBut hs₁.extBut hlt
  refine wpAny_bind (wpAny_holding (wpAny_pyNext_list_end hh hit₁ ht₁ (by simp) fun h₂ he₂ => ?_))
  simp only [Option.isSome_none, Bool.false_eq_true, if_false]
  exact wpAny_pure (h h₂ fun b o hb e => he₂ b o hb (hs₁.extBut b o hb (Heap.get?_push_of_some _ e)))
end
@[irreducible] def rUnpA (K : PySem.W.Frag) (a : Addr) (n : Nat) (t : TGs) (σ : St) (H : Hp) (Q : St → Hp → Prop) : Prop := ∃ xs, (SqT K H a xs ∨ SqL K H a xs) ∧ xs.length = n ∧ t xs σ H Q
def qgAny (K : PySem.W.Frag) (n : Nat) (t : TGs) : TG := fun v σ H Q => match v with
  | .ref a => rUnpA K a n t σ H Q
  | _ => False
theorem pgAny {pos : Pos} {es : List Expr} {k : Nat} {t : TGs} {n : Nat} (hc : X.calm = true) (h : PGs X es t)
    (hn : (assignEach es X.env).length = n := by rfl) (hst : (assignEach es X.env).findIdx? (·.1) = none := by rfl) : PG X (.Tuple es k pos) (qgAny X.K n t) := fun pins s σ H v u Q I r hq => by
  unfold qgAny at hq
  split at hq
  · unfold rUnpA at hq
    obtain ⟨xs, a1, a2, a3⟩ := hq
    rcases a1 with a1 | a1
    · exact pg_tup hc h hn hst pins s σ H _ u Q I r ⟨_, xs, rfl, a1, a2, a3⟩
    · cases r
      obtain ⟨its, rv, pl, hz⟩ := I.list a1
      refine assign_Tuple_list (I.ok.hd hc) pl.isList (by simp [hn, ← a2, rv.length]) hst fun h' hx => ?_
      have I1 : Inv X pins σ H { s with heap := h' } := I.kept (t' := s.toks) fun b o e => hx b o (Nat.ne_of_lt (Heap.lt_size e)) e
      exact h pins _ σ H xs _ Q I1 (by simpa using rv) a3
  · exact hq.elim
theorem unpT_rd {K : PySem.W.Frag} {a : Addr} {n : Nat} {t : TGs} {σ : St} {H : Hp} {Q : St → Hp → Prop} {xs : List V} (h : H a = some (.tup xs)) (q : t xs σ H Q) (e : xs.length = n := by rfl) : rUnpA K a n t σ H Q := by
  unfold rUnpA; exact ⟨xs, .inl (SqT.of h), e, q⟩
theorem unpL_rd {K : PySem.W.Frag} {a : Addr} {n : Nat} {t : TGs} {σ : St} {H : Hp} {Q : St → Hp → Prop} {xs : List V} (h : H a = some (.lst xs)) (q : t xs σ H Q) (e : xs.length = n := by rfl) : rUnpA K a n t σ H Q := by
  unfold rUnpA; exact ⟨xs, .inr (SqL.of h), e, q⟩
end
/-! ### two objects may have changed -/
def Chg2 (a c : Addr) (H H' : Hp) : Prop := ∀ b o, b ≠ a → b ≠ c → H b = some o → H' b = some o
theorem Chg2.refl (a c : Addr) (H : Hp) : Chg2 a c H H := fun _ _ _ _ e => e
theorem Chg2.trans {a c : Addr} {H H1 H2 : Hp} (x : Chg2 a c H H1) (y : Chg2 a c H1 H2) : Chg2 a c H H2 := fun b o h1 h2 e => y b o h1 h2 (x b o h1 h2 e)
theorem Chg2.same {a c : Addr} {H H1 H2 : Hp} (x : Chg2 a c H H1) (y : Same H1 H2) : Chg2 a c H H2 := fun b o h1 h2 e => y b o (x b o h1 h2 e)
theorem Chg.toL {a c : Addr} {H H1 : Hp} (x : Chg a H H1) : Chg2 a c H H1 := fun b o h1 _ e => x b o h1 e
theorem Chg.toR {a c : Addr} {H H1 : Hp} (x : Chg c H H1) : Chg2 a c H H1 := fun b o _ h2 e => x b o h2 e
theorem Same.to2 {a c : Addr} {H H1 : Hp} (x : Same H H1) : Chg2 a c H H1 := fun b o _ _ e => x b o e
theorem Chg2.at {a c b : Addr} {o : HO} {H H' : Hp} (x : Chg2 a c H H') (e : H b = some o) (h1 : b ≠ a) (h2 : b ≠ c) : H' b = some o := x b o h1 h2 e
/-! == with an empty list -/
theorem EqR.nilR {K : PySem.W.Frag} {H : Hp} {a b : Addr} {xs : List V} (ha : H a = some (.lst xs)) (hb : H b = some (.lst [])) : EqR K H 1 (.ref a) (.ref b) (decide (xs.length = 0)) := by
  by_cases h : xs.length = 0
  · rw [decide_eq_true h]
    have e : xs = [] := List.length_eq_zero_iff.mp h
    subst e
    exact EqR.lst (n := 0) (fun _ => true) (SqL.of ha) (SqL.of hb) rfl (fun j x y hx => by simp at hx)
  · rw [decide_eq_false h]
    exact EqR.lstN (SqL.of ha) (SqL.of hb) (by simpa using h)
/-! ### comprehensions whose elements change things: the word speaks of the heap by itself -/
def cV (n : Nat) (acc : Addr) (Pv : Nat → List V → St → Hp → Prop) : Nat → Nat → List V → St → Hp → Prop := fun i m ys σ H => m = n - i ∧ i ≤ n ∧ ys.length ≤ i ∧ H acc = some (.lst ys) ∧ Pv i ys σ H
section
variable {K : PySem.W.Frag} {g : TG} {tt : TT} {te : TE} {σ0 : St} {H1 : Hp} {Q : VK}
theorem cputV_rd {n i m : Nat} {acc : Addr} {Pv : Nat → List V → St → Hp → Prop} {ys : List V} {σ2 : St} {v : V} {H5 : Hp} (hi : i < n) (hm : m = n - i) (hl : ys.length ≤ i) (ha : H5 acc = some (.lst ys))
    (q : ∀ H6, Chg acc H5 H6 → H6 acc = some (.lst (ys ++ [v])) → Pv (i + 1) (ys ++ [v]) σ2 H6) : cPut (cV n acc Pv) acc ys i m σ2 v H5 := by
  unfold cPut
  exact ⟨ha, fun H6 hc h6 => ⟨n - (i + 1), by omega, rfl, by omega, by rw [List.length_append, List.length_singleton]; omega, h6, q H6 hc h6⟩⟩
theorem comp_rangeV {lo : Int} {n : Nat} (hn : n < sizeLine) (h : ∀ acc H2, H1 acc = none → Same H1 H2 → H2 acc = some (.lst []) → ∃ Pv : Nat → List V → St → Hp → Prop, Pv 0 [] σ0 H2 ∧
    (∀ i m ys σ H, i < n → m = n - i → ys.length ≤ i → H acc = some (.lst ys) → Pv i ys σ H → g (.int (lo + i)) σ H fun σ2 H3 => tt σ2 H3 fun b H4 => br b (te σ2 H4 fun v H5 => cPut (cV n acc Pv) acc ys i m σ2 v H5) (cSkip (cV n acc Pv) ys i m σ2 H4)) ∧
    ∀ ys σ H, H acc = some (.lst ys) → Pv n ys σ H → Q (.ref acc) H) : compW (Itr lo n) g tt te σ0 H1 Q := by
  unfold compW
  intro acc H2 hf hs ha
  obtain ⟨Pv, h0, turn, fin⟩ := h acc H2 hf hs ha
  refine ⟨cV n acc Pv, ⟨n, by simp, Nat.zero_le _, Nat.le_refl _, ha, h0⟩, ?_⟩
  rintro i m ys σ H ⟨hm, hi, hl, ha', hp⟩
  refine ⟨ha', by omega, ?_⟩
  by_cases hlt : i < n
  · refine .inr ⟨hlt, fun x H' y => ?_⟩
    obtain ⟨e, y⟩ := y
    subst e y
    exact turn i m ys σ _ hlt hm hl ha' hp
  · have e : i = n := by omega
    subst e
    exact .inl ⟨Nat.le_refl _, fin ys σ H ha' hp⟩
end
/-! ### the rules by the written part itself, so that a block's reading hangs on nothing of the block -/
section
variable {X : Cx} {K : PySem.W.Frag}
theorem peIxK {a b : Expr} {ta tb : TE} {pos : Pos} (hK : X.K = K) (ha : PE X a ta) (hb : PE X b tb) (hs : PlainIx b := by exact fun _ _ => rfl) : PE X (.Subscript a b pos) (tOp (rIxM K) ta tb) := by subst hK; exact peIx ha hb hs
theorem cLenK (hK : X.K = K) : CallR X (.builtin "len") (rLenM K) := by subst hK; exact cLen
theorem cIsiK (hK : X.K = K) : CallR X (.builtin "isinstance") (rIsiM K) := by subst hK; exact cIsi
theorem cSumK (hK : X.K = K) (hc : X.calm = true) : CallR X (.builtin "sum") (rSumM K) := by subst hK; exact cSum hc
theorem cAllK (hK : X.K = K) (hc : X.calm = true) : CallR X (.builtin "all") (rAllM K) := by subst hK; exact cAll hc
theorem cListK (hK : X.K = K) : CallR X (.type "list") (rListM K) := by subst hK; exact cList
theorem piSeqK {tg l : Expr} {tl : TE} (hK : X.K = K) (hl : PE X l tl) : PI X tg l (qiSeq K tl) := by subst hK; exact piSeq hl
theorem pgAnyK {pos : Pos} {es : List Expr} {k : Nat} {t : TGs} {n : Nat} (hK : X.K = K) (hc : X.calm = true) (h : PGs X es t)
    (hn : (assignEach es X.env).length = n := by rfl) (hst : (assignEach es X.env).findIdx? (·.1) = none := by rfl) : PG X (.Tuple es k pos) (qgAny K n t) := by subst hK; exact pgAny hc h hn hst
end
end L2

set_option Elab.async false
set_option linter.all false
set_option maxRecDepth 100000
set_option maxHeartbeats 2000000
namespace L2
open PySem PySem.Spec PyProof.Rows
/-! ### enumerate over a list -/
def Ite (K : PySem.W.Frag) (a : Addr) : It :=
  ⟨fun i H => ∃ xs x, SqL K H a xs ∧ xs[i]? = some x, fun i H v H' => ∃ p y, v = .ref p ∧ H p = none ∧ Same H H' ∧ H' p = some (.tup [.int i, y]) ∧ ∀ xs, SqL K H a xs → xs[i]? = some y, fun i H => ∃ xs, SqL K H a xs ∧ xs.length ≤ i⟩
theorem turn_enum {P : Program} {w : World} {K : PySem.W.Frag} {elts : List Expr} {k : Nat} {pos : Pos} (a it e : Addr) (hne : e ≠ it) : Turn P w K (.Tuple elts k pos) (Ite K a) [it, e] e (fun i h => (∃ old, IsEnum h e it i old) ∧ h.IsListIter it a i) where
  mem := by simp
  obj := fun i h st b hb => by
    obtain ⟨⟨old, he⟩, o, e1, c, d⟩ := st
    rcases List.mem_cons.mp hb with rfl | hb
    · exact ⟨o, e1, fun v z => by rw [d] at z; cases z⟩
    · have : b = e := by simpa using hb
      subst this
      exact ⟨_, he, fun v z => by cases z⟩
  keep := fun i h h' st kp => by
    obtain ⟨⟨old, he⟩, hi⟩ := st
    exact ⟨⟨old, kp e (by simp) _ he⟩, hi.at fun o x => kp it (by simp) o x⟩
  item := by
    intro X hP hw hK hc i pins s σ H E I hf st hg
    subst hP hw hK
    obtain ⟨⟨old, he⟩, hit⟩ := st
    obtain ⟨xs, x, hq, hx⟩ := hg
    obtain ⟨its, rv, p, hz⟩ := I.list hq
    obtain ⟨u, hu, ru⟩ := rv.get hx
    obtain ⟨f0, f1, f2, f3, f4, f5⟩ := hf it (by simp)
    obtain ⟨g0, g1, g2, g3, g4, g5⟩ := hf e (by simp)
    refine wpAny_pyNext_enum_item he hit p.isList (x := u) (by simpa using hu) hne fun h1 heo hit1 ht1 hz1 hk1 => ?_
    refine ⟨_, rfl, wpAny_letOwnedTupleGo_enum heo fun h2 he2 hs2 => ?_⟩
    replace hs2 : Heap.SameBut e h1 h2 := hs2
    have hel : e < s.heap.objs.size := Heap.lt_size he
    have kp : ∀ b o, b ∉ [it, e] → s.heap.get? b = some o → h2.get? b = some o := fun b o hb x => by
      have b1 : b ≠ it := fun z => hb (by simp [z])
      have b2 : b ≠ e := fun z => hb (by simp [z])
      exact (hs2.2 b b2).trans (hk1 b o b2 b1 x)
    have ht2 : h2.get? s.heap.objs.size = some { cls := .type "tuple", data := .seq #[.int i s.toks, u] } := (hs2.2 _ (Nat.ne_of_gt hel)).trans ht1
    have hfr : H s.heap.objs.size = none := I.fresh
    have nof : ∀ b v, H b = some v → b ∉ [it, e] := fun b v hb z => by
      rcases List.mem_cons.mp z with rfl | z
      · rw [f0] at hb; cases hb
      · have : b = e := by simpa using z
        subst this
        rw [g0] at hb; cases hb
    have nlt : ∀ b o, s.heap.get? b = some o → b ≠ s.heap.objs.size := fun b o x => Nat.ne_of_lt (Heap.lt_size x)
    have hok : HOk X.prog X.w (upd H s.heap.objs.size (.tup [.int i, x])) h2 := fun b v hb => by
      by_cases e1 : b = s.heap.objs.size
      · subst e1
        rw [upd_same] at hb
        cases hb
        exact ⟨by show 2 ≤ sizeLine; decide, [.int i s.toks, u], .cons ⟨_, rfl⟩ (.cons ru .nil), ⟨_, ht2, rfl, _, rfl⟩⟩
      · rw [upd_ne e1] at hb
        refine (I.hok b v hb).stay (fun c w' hc q => ?_) (fun c q => ?_) (fun c ys q => ?_)
        · rcases hc with rfl | hc
          · exact kp _ _ (nof _ _ hb) q
          · exact kp _ _ (nof _ _ hc) q
        · rw [upd_ne (ne_of_none q hfr)]; exact q
        · rw [upd_ne (ne_of_none q hfr)]; exact q
    have chs : ∀ b ∈ [it, e], (b ∈ X.ex ∨ X.s₀.heap.objs.size ≤ b) ∧ b ≠ X.env.locals ∧ (∀ x c, X.env.cells.lookup x = some c → c ≠ b) ∧ ∀ p ∈ X.pn ++ pins, p.1 ≠ b := fun b hb => by
      rcases List.mem_cons.mp hb with rfl | hb
      · exact ⟨f3, f1, f4, f5⟩
      · have : b = e := by simpa using hb
        subst this
        exact ⟨g3, g1, g4, g5⟩
    have I2 : Inv X pins σ (upd H s.heap.objs.size (.tup [.int i, x])) { s with heap := h2, toks := s.toks + 1 } :=
      I.step (g' := s.gens) (d' := s.drawn) (t' := s.toks + 1) (ch := [it, e]) chs (fun b o _ _ hb x _ => kp b o hb x) (fun b o _ _ hb x _ => ⟨o.slots, kp b o hb x⟩)
        (fun b o _ x n => by rw [upd_ne (nlt b o x)]; exact n) (fun b o hb x => ⟨o, kp b o hb x⟩) (fun b ys q => by rw [upd_ne (ne_of_none q hfr)]; exact q) (fun b o v q => by rw [upd_ne (ne_of_none q hfr)]; exact q)
        (fun b ps q => ⟨#[], by rw [upd_ne (ne_of_none q hfr), q]; simp⟩)
        (fun m hm => by
          obtain ⟨o, es, ep, ho, r⟩ := hm
          exact ⟨o, es, ep, kp _ o (fun z => by
            rcases List.mem_cons.mp z with z | z
            · exact f1 z.symm
            · exact g1 (by simpa using z : X.env.locals = e).symm) ho, r⟩) hok I.bare
    have hi1 : h2.IsListIter it a (i + 1) := hit1.extBut hs2.extBut (Ne.symm hne)
    have he3 : IsEnum h2 e it ((i + 1 : Nat) : Int) u := by
      have : ((i + 1 : Nat) : Int) = (i : Int) + 1 := by push_cast; rfl
      rw [this]; exact he2
    refine ⟨.ref s.heap.objs.size, _, I2, rfl, ⟨_, x, rfl, hfr, Same.upd hfr, upd_same, fun ys hy => by rw [I.list_inj hy hq]; exact hx⟩, ⟨⟨u, he3⟩, hi1⟩, fun b hb => ?_⟩
    have hb0 : H b = none := (hf b hb).1
    have hlt : b ≠ s.heap.objs.size := by
      rcases List.mem_cons.mp hb with rfl | hb
      · obtain ⟨o, ho, _⟩ := hit; exact nlt _ _ ho
      · have : b = e := by simpa using hb
        subst this
        exact Nat.ne_of_lt hel
    rw [upd_ne hlt]; exact hb0
  done := by
    intro X hP hw hK hc i pins s σ H E I hf st hg
    subst hP hw hK
    obtain ⟨⟨old, he⟩, hit⟩ := st
    obtain ⟨xs, hq, hx⟩ := hg
    obtain ⟨its, rv, p, hz⟩ := I.list hq
    obtain ⟨f0, f1, f2, f3, f4, f5⟩ := hf it (by simp)
    have hl := rv.length
    exact wpAny_pyNext_enum_end (I.ok.hd hc) he hit p.isList (by simp; omega) fun h' eb => ⟨rfl, I.turned (t' := s.toks) (fun b o hb e => eb b o hb e) f0 f1 f3 f4 f5⟩
  self := fun _ _ _ _ _ st h => by
    obtain ⟨⟨old, he⟩, _⟩ := st
    exact wpAny_pyIter_enum he h
section
variable {X : Cx} {K : PySem.W.Frag}
theorem bt_enumerate : bootBuiltins "enumerate" = some (.type "enumerate") := by decide +kernel
@[irreducible] def rEnum (K : PySem.W.Frag) (a : Addr) (H : Hp) (R : It → Hp → Prop) : Prop := (∃ xs, SqL K H a xs) ∧ R (Ite K a) H
def qiEnum (K : PySem.W.Frag) (ta : TA) : TI := fun σ H R => ta σ H fun vs H1 => match vs with
  | [.ref a] => rEnum K a H1 R
  | _ => False
theorem piEnum {elts : List Expr} {k : Nat} {pt : Pos} {a : Expr} {ta : TA} {p pos : Pos} (hm : X.mg "enumerate" = none) (ha : PA X [a] ta) (hg : Gl X "enumerate" := by rfl) (hs : starEach [a] X.env = [(false, eval a X.env)] := by rfl) :
    PI X (.Tuple elts k pt) (.Call (.Name "enumerate" p) [a] [] pos) (qiEnum X.K ta) := by
  intro pins s σ H R I h
  refine Call_ (ld_blt I hg hm bt_enumerate (PyProof.Rows.callWith_type1 (thn (ha pos pins s σ H _ I h) fun us s1 ⟨vs, H1, I1, r1, q1⟩ => ?_) hs rfl))
  dsimp only at q1
  split at q1
  · rename_i l
    unfold rEnum at q1
    obtain ⟨⟨xs, hq⟩, q⟩ := q1
    obtain ⟨u, rfl, rx⟩ := vals1 r1
    cases rx
    obtain ⟨its, rv, pl, hz⟩ := I1.list hq
    refine call_enumerate_list pl.isList fun h' he hit hsz hk => ?_
    refine wpAny_pyIter_enum he ?_
    have I2 : Inv X pins σ H1 { s1 with heap := h' } := I1.kept (t' := s1.toks) hk
    refine ⟨s1.heap.objs.size + 1, [s1.heap.objs.size, s1.heap.objs.size + 1], _, Ite X.K l, H1, rfl, I2, turn_enum l _ _ (Nat.succ_ne_self _), ⟨⟨_, he⟩, hit⟩, fun b hb => ?_, q⟩
    have hb' : s1.heap.objs.size ≤ b := by
      rcases List.mem_cons.mp hb with rfl | hb
      · exact Nat.le_refl _
      · have : b = s1.heap.objs.size + 1 := by simpa using hb
        subst this
        exact Nat.le_succ _
    exact I1.fpOk hb' (I1.hok.fresh hb')
  · exact q1.elim
theorem piEnumK {elts : List Expr} {k : Nat} {pt : Pos} {a : Expr} {ta : TA} {p pos : Pos} (hK : X.K = K) (hm : X.mg "enumerate" = none) (ha : PA X [a] ta) (hg : Gl X "enumerate" := by rfl) (hs : starEach [a] X.env = [(false, eval a X.env)] := by rfl) :
    PI X (.Tuple elts k pt) (.Call (.Name "enumerate" p) [a] [] pos) (qiEnum K ta) := by subst hK; exact piEnum hm ha hg hs
end
section
variable {K : PySem.W.Frag} {g : TG} {tb : TS} {D : Ends} {σ : St} {H : Hp} {R : It → Hp → Prop}
theorem enum_rd {a : Addr} {xs : List V} (h : H a = some (.lst xs)) (q : R (Ite K a) H) : rEnum K a H R := by unfold rEnum; exact ⟨⟨xs, SqL.of h⟩, q⟩
theorem loop_enum {a : Addr} {xs : List V} (Pv : Nat → St → Hp → Prop) (h0 : Pv 0 σ H) (hl : ∀ i σ H, i ≤ xs.length → Pv i σ H → SqL K H a xs)
    (hs : ∀ i y σ H p H', xs[i]? = some y → Pv i σ H → H p = none → Same H H' → H' p = some (.tup [.int i, y]) → g (.ref p) σ H' fun σ2 H2 => tb { D with nx := Pv (i + 1), ct := Pv (i + 1), bk := D.nx } σ2 H2) (hd : ∀ σ H, Pv xs.length σ H → D.nx σ H) : loopW (Ite K a) g tb D σ H := by
  unfold loopW
  refine ⟨fun i m σ H => m = xs.length - i ∧ i ≤ xs.length ∧ Pv i σ H, ⟨xs.length, by simp, Nat.zero_le _, h0⟩, ?_⟩
  rintro i m σ H ⟨rfl, hi, p⟩
  have q := hl i σ H hi p
  by_cases hlt : i < xs.length
  · refine .inr ⟨⟨xs, xs[i], q, by simp [hlt]⟩, Pv (i + 1), fun σ' H' p' => ⟨xs.length - (i + 1), by omega, rfl, hlt, p'⟩, fun x H' y => ?_⟩
    obtain ⟨pp, yy, rfl, y1, y2, y3, y4⟩ := y
    exact hs i yy σ H pp H' (y4 xs q) p y1 y2 y3
  · have e : i = xs.length := by omega
    subst e
    exact .inl ⟨⟨xs, q, Nat.le_refl _⟩, hd σ H p⟩
end
section
variable {K : PySem.W.Frag} {g : TG} {tt : TT} {te : TE} {σ0 : St} {H1 : Hp} {Q : VK}
end
/-! ### list.count of flat things -/
section
variable {X : Cx} {K : PySem.W.Frag}
end
end L2

set_option Elab.async false
set_option linter.all false
set_option maxRecDepth 100000
set_option maxHeartbeats 2000000
namespace L2
open PySem PySem.Spec PyProof.Rows
/-! ### slices -/
theorem cut_drop {xs : List V} {k : Int} (h : 0 ≤ k) : cutV xs (some k) none = xs.drop k.toNat := by
  show List.take (xs.length - (if k < 0 then (k + (xs.length : Int)).toNat else min k.toNat xs.length)) (List.drop (if k < 0 then (k + (xs.length : Int)).toNat else min k.toNat xs.length) xs) = _
  rw [if_neg (by omega)]
  by_cases hk : k.toNat ≤ xs.length
  · rw [Nat.min_eq_left hk, List.take_of_length_le (by rw [List.length_drop]; omega)]
  · rw [Nat.min_eq_right (by omega), List.drop_of_length_le (by omega), List.drop_of_length_le (by omega), List.take_nil]
theorem cut_takeV {xs : List V} {k : Int} (h : 0 ≤ k) : cutV xs none (some k) = xs.take k.toNat := by
  show List.take ((if k < 0 then (k + (xs.length : Int)).toNat else min k.toNat xs.length) - 0) (List.drop 0 xs) = _
  rw [if_neg (by omega), List.drop_zero, Nat.sub_zero]
  by_cases hk : k.toNat ≤ xs.length
  · rw [Nat.min_eq_left hk]
  · rw [Nat.min_eq_right (by omega), List.take_of_length_le (Nat.le_refl _), List.take_of_length_le (by omega)]
theorem cut_init {xs : List V} : cutV xs none (some (-1)) = xs.take (xs.length - 1) := by
  show List.take ((if (-1 : Int) < 0 then ((-1 : Int) + (xs.length : Int)).toNat else min (-1 : Int).toNat xs.length) - 0) (List.drop 0 xs) = _
  rw [if_pos (by decide), List.drop_zero, Nat.sub_zero]
  congr 1
  omega
/-! ### rows of ints, by a function -/
def rowV (n : Nat) (r : Nat → Int) : List V := (List.range n).map fun t => V.int (r t)
theorem rowV_len (n : Nat) (r : Nat → Int) : (rowV n r).length = n := by unfold rowV; simp
theorem rowV_get {n : Nat} {r : Nat → Int} {i : Nat} (h : i < n) : (rowV n r)[i]? = some (.int (r i)) := by unfold rowV; simp [h]
theorem rowV_at {n : Nat} {r : Nat → Int} {i : Int} (h0 : 0 ≤ i) (h : i < n) : atI (rowV n r) i = some (.int (r i.toNat)) := by
  have := atI_nat (rowV_get (r := r) (i := i.toNat) (n := n) (by omega))
  rw [show ((i.toNat : Nat) : Int) = i by omega] at this
  exact this
theorem rowV_ext {n : Nat} {r s : Nat → Int} (h : ∀ t, t < n → r t = s t) : rowV n r = rowV n s := by
  unfold rowV
  refine List.map_congr_left fun t ht => ?_
  rw [h t (List.mem_range.mp ht)]
theorem rowV_set {n : Nat} {r : Nat → Int} {j : Nat} {v : Int} : (rowV n r).set j (.int v) = rowV n fun t => if t = j then v else r t := by
  apply List.ext_getElem?
  intro i
  rw [List.getElem?_set]
  by_cases hi : i < n
  · rw [rowV_get hi, rowV_get hi]
    by_cases hj : j = i
    · subst hj; simp [rowV_len, hi]
    · simp [hj, Ne.symm hj]
  · have e : ∀ r : Nat → Int, (rowV n r)[i]? = none := fun r => by simp [rowV_len]; omega
    rw [e, e]
    split
    · simp [rowV_len]; omega
    · rfl
theorem rowV_ints (n : Nat) (r : Nat → Int) : rowV n r = ((List.range n).map r).map V.int := by unfold rowV; rw [List.map_map]; rfl
/-! ### an item by a place -/
theorem at_last {xs : List V} {v : V} {n : Nat} (h : xs.length = n + 1) (e : xs[n]? = some v) : atI xs (-1) = some v := by
  unfold atI ixN
  rw [if_neg (by decide), if_pos (by omega)]
  show xs[((-1 : Int) + xs.length).toNat]? = _
  rw [show ((-1 : Int) + xs.length).toNat = n by omega]; exact e
theorem ixN_in {n : Nat} {i : Int} (h0 : 0 ≤ i) (h1 : i < n) : ixN n i = some i.toNat := by unfold ixN; rw [if_pos h0, if_pos h1]
/-! ### a list of rows -/
structure GridAt (H : Hp) (a : Addr) (ps : List Addr) (n h : Nat) (g : Nat → Nat → Int) : Prop where
  out : H a = some (.lst (ps.map V.ref))
  len : ps.length = n
  row : ∀ (i : Nat) (p : Addr), ps[i]? = some p → H p = some (.lst (rowV h (g i)))
theorem GridAt.same {H H' : Hp} {a : Addr} {ps : List Addr} {n h : Nat} {g : Nat → Nat → Int} (G : GridAt H a ps n h g) (s : Same H H') : GridAt H' a ps n h g := ⟨s _ _ G.out, G.len, fun i p e => s _ _ (G.row i p e)⟩
theorem GridAt.some {H : Hp} {a : Addr} {ps : List Addr} {n h : Nat} {g : Nat → Nat → Int} (G : GridAt H a ps n h g) {i : Nat} (hi : i < n) : ∃ p, ps[i]? = .some p ∧ H p = .some (.lst (rowV h (g i))) := by
  have hl : i < ps.length := by rw [G.len]; exact hi
  exact ⟨ps[i], List.getElem?_eq_getElem hl, G.row i _ (List.getElem?_eq_getElem hl)⟩
/-! ### comprehensions, by what is walked -/
structure Wk (J : It) (n : Nat) (H1 : Hp) (X : Nat → V → Hp → Prop) : Prop where
  go : ∀ i H, Same H1 H → i < n → J.go i H
  stop : ∀ H, Same H1 H → J.stop n H
  yld : ∀ i H x H', Same H1 H → i < n → J.yld i H x H' → Same H H' ∧ X i x H'
theorem Wk.range {lo : Int} {n : Nat} {H1 : Hp} : Wk (Itr lo n) n H1 fun i x _ => x = .int (lo + i) :=
  ⟨fun i H _ h => h, fun H _ => Nat.le_refl _, fun i H x H' _ _ y => by obtain ⟨rfl, rfl⟩ := y; exact ⟨Same.refl _, rfl⟩⟩
theorem Wk.list {K : PySem.W.Frag} {a : Addr} {xs : List V} {H1 : Hp} (h : SqL K H1 a xs) : Wk (Itl K a) xs.length H1 fun i x _ => xs[i]? = some x :=
  ⟨fun i H s hi => ⟨xs, xs[i], s.seq h, by simp [hi]⟩, fun H s => ⟨xs, s.seq h, Nat.le_refl _⟩, fun i H x H' s _ y => by
    obtain ⟨e, y⟩ := y
    subst e
    exact ⟨Same.refl _, y xs (s.seq h)⟩⟩
/-- new lists, one for each turn -/
structure FreshL (H1 H : Hp) (acc : Addr) (ps : List Addr) (n : Nat) (f : Nat → HO) : Prop where
  facc : H1 acc = none
  same : Same H1 H
  out : H acc = some (.lst (ps.map V.ref))
  len : ps.length = n
  nd : ps.Nodup
  nin : acc ∉ ps
  row : ∀ i p, ps[i]? = some p → H1 p = none ∧ H p = some (f i)
theorem FreshL.free {H1 H : Hp} {acc : Addr} {ps : List Addr} {n : Nat} {f : Nat → HO} (F : FreshL H1 H acc ps n f) {p : Addr} (h : p ∈ ps) : H1 p = none := by
  obtain ⟨i, hi⟩ := List.getElem?_of_mem h
  exact (F.row i p hi).1
theorem FreshL.some {H1 H : Hp} {acc : Addr} {ps : List Addr} {n : Nat} {f : Nat → HO} (F : FreshL H1 H acc ps n f) {i : Nat} (hi : i < n) : ∃ p, ps[i]? = .some p ∧ H p = .some (f i) := by
  have hl : i < ps.length := by rw [F.len]; exact hi
  exact ⟨ps[i], List.getElem?_eq_getElem hl, (F.row i _ (List.getElem?_eq_getElem hl)).2⟩
section
variable {K : PySem.W.Frag} {g : TG} {tt : TT} {te : TE} {σ0 : St} {H1 : Hp} {Q : VK} {J : It} {n : Nat} {X : Nat → V → Hp → Prop}
/-- each turn tells a new object -/
theorem comp_F (w : Wk J n H1 X) (hn : n < sizeLine) (f : Nat → HO) (Ps : Nat → St → Prop) (h0 : Ps 0 σ0)
    (turn : ∀ i x σ H (R : St → V → Hp → Prop) (S : St → Hp → Prop), i < n → Same H1 H → X i x H → Ps i σ → (∀ σ2 p H5, H p = none → Same H H5 → H5 p = some (f i) → Ps (i + 1) σ2 → R σ2 (.ref p) H5) → g x σ H fun σ2 H3 => tt σ2 H3 fun b H4 => br b (te σ2 H4 fun v H5 => R σ2 v H5) (S σ2 H4))
    (fin : ∀ acc ps H, FreshL H1 H acc ps n f → Q (.ref acc) H) : compW J g tt te σ0 H1 Q := by
  unfold compW
  intro acc H2 hf hs ha
  refine ⟨fun i m ys σ H => m = n - i ∧ i ≤ n ∧ ∃ ps : List Addr, ys = ps.map V.ref ∧ FreshL H1 H acc ps i f ∧ Ps i σ, ⟨n, by simp, Nat.zero_le _, [], rfl, ⟨hf, hs, ha, rfl, List.nodup_nil, by simp, fun i p e => by simp at e⟩, h0⟩, ?_⟩
  rintro i m ys σ H ⟨rfl, hi, ps, rfl, F, P⟩
  refine ⟨F.out, by rw [List.length_map, F.len]; omega, ?_⟩
  by_cases hlt : i < n
  · refine .inr ⟨w.go i H F.same hlt, fun x H' y => ?_⟩
    obtain ⟨s1, x1⟩ := w.yld i H x H' F.same hlt y
    refine turn i x σ H' (fun σ2 v H5 => cPut _ acc (ps.map V.ref) i (n - i) σ2 v H5) (fun σ2 H4 => cSkip _ (ps.map V.ref) i (n - i) σ2 H4) hlt (F.same.trans s1) x1 P ?_
    intro σ2 p H5 fp s5 hp P2
    have fp0 : H p = none := s1.free fp
    have s15 := s1.trans s5
    have na : p ≠ acc := Ne.symm (ne_of_none F.out fp0)
    unfold cPut
    refine ⟨s15 _ _ F.out, fun H6 c6 h6 => ⟨n - (i + 1), by omega, rfl, hlt, ps ++ [p], by rw [List.map_append]; rfl, ⟨F.facc, (F.same.trans s15).chg F.facc c6, by rw [List.map_append]; exact h6, by rw [List.length_append, F.len]; rfl, ?_, ?_, ?_⟩, P2⟩⟩
    · rw [List.nodup_append]
      refine ⟨F.nd, by simp, fun a ha b hb => ?_⟩
      have : b = p := by simpa using hb
      subst this
      obtain ⟨k, hk⟩ := List.getElem?_of_mem ha
      exact ne_of_none (F.row k a hk).2 fp0
    · intro hz
      rcases List.mem_append.mp hz with hz | hz
      · exact F.nin hz
      · exact na (by simpa using hz : acc = p).symm
    · intro k q e
      by_cases hk : k < ps.length
      · rw [List.getElem?_append_left hk] at e
        obtain ⟨z1, z2⟩ := F.row k q e
        exact ⟨z1, c6 _ _ (fun z => F.nin (z ▸ List.mem_of_getElem? e)) (s15 _ _ z2)⟩
      · rw [List.getElem?_append_right (by omega)] at e
        have hk2 : k - ps.length = 0 := by
          have := (List.getElem?_eq_some_iff.mp e).1
          simp at this; omega
        rw [hk2] at e
        have : p = q := by simpa using e
        subst this
        have : k = i := by have := F.len; omega
        subst this
        exact ⟨F.same.free fp0, c6 _ _ na hp⟩
  · have e : i = n := by omega
    subst e
    exact .inl ⟨w.stop H F.same, fin acc ps H F⟩
/-- each turn tells a value, or is left out -/
theorem comp_I (w : Wk J n H1 X) (hn : n < sizeLine) (f : Nat → V) (p : Nat → Bool) (Ps : Nat → St → Prop) (h0 : Ps 0 σ0)
    (turn : ∀ i x σ H (R : St → V → Hp → Prop) (S : St → Hp → Prop), i < n → Same H1 H → X i x H → Ps i σ → (p i = true → ∀ σ2 H5, Same H H5 → Ps (i + 1) σ2 → R σ2 (f i) H5) → (p i = false → ∀ σ2 H5, Same H H5 → Ps (i + 1) σ2 → S σ2 H5) →
      g x σ H fun σ2 H3 => tt σ2 H3 fun b H4 => br b (te σ2 H4 fun v H5 => R σ2 v H5) (S σ2 H4))
    (fin : ∀ acc H, H1 acc = none → Same H1 H → H acc = some (.lst (((List.range n).filter p).map f)) → Q (.ref acc) H) : compW J g tt te σ0 H1 Q := by
  unfold compW
  intro acc H2 hf hs ha
  refine ⟨fun i m ys σ H => m = n - i ∧ i ≤ n ∧ ys = ((List.range i).filter p).map f ∧ Same H1 H ∧ H acc = some (.lst ys) ∧ Ps i σ, ⟨n, by simp, Nat.zero_le _, rfl, hs, ha, h0⟩, ?_⟩
  rintro i m ys σ H ⟨rfl, hi, rfl, s, hy, P⟩
  have hlen : (((List.range i).filter p).map f).length ≤ i := by
    rw [List.length_map]
    have := List.length_filter_le p (List.range i)
    rwa [List.length_range] at this
  refine ⟨hy, by omega, ?_⟩
  by_cases hlt : i < n
  · refine .inr ⟨w.go i H s hlt, fun x H' y => ?_⟩
    obtain ⟨s1, x1⟩ := w.yld i H x H' s hlt y
    refine turn i x σ H' (fun σ2 v H5 => cPut _ acc _ i (n - i) σ2 v H5) (fun σ2 H4 => cSkip _ _ i (n - i) σ2 H4) hlt (s.trans s1) x1 P ?_ ?_
    · intro hp σ2 H5 s5 P2
      unfold cPut
      refine ⟨s5 _ _ (s1 _ _ hy), fun H6 c6 h6 => ⟨n - (i + 1), by omega, rfl, hlt, ?_, ((s.trans s1).trans s5).chg hf c6, h6, P2⟩⟩
      rw [List.range_succ, List.filter_append, List.map_append]
      congr 1
      simp [hp]
    · intro hp σ2 H5 s5 P2
      unfold cSkip
      refine ⟨n - (i + 1), by omega, rfl, hlt, ?_, (s.trans s1).trans s5, s5 _ _ (s1 _ _ hy), P2⟩
      rw [List.range_succ, List.filter_append, List.map_append]
      simp [hp]
  · have e : i = n := by omega
    subst e
    exact .inl ⟨w.stop H s, fin acc H hf s hy⟩
theorem filter_T (n : Nat) : (List.range n).filter (fun _ => true) = List.range n := by simp
end
/-! ### several objects may have changed -/
def ChgS (ps : List Addr) (H H' : Hp) : Prop := ∀ b o, b ∉ ps → H b = some o → H' b = some o
theorem ChgS.refl (ps : List Addr) (H : Hp) : ChgS ps H H := fun _ _ _ e => e
theorem ChgS.same {ps : List Addr} {H H1 H2 : Hp} (x : ChgS ps H H1) (y : Same H1 H2) : ChgS ps H H2 := fun b o h e => y b o (x b o h e)
/-! ### == of lists of ints; of lists of these -/
end L2

set_option Elab.async false
set_option linter.all false
set_option maxRecDepth 100000
set_option maxHeartbeats 2000000
namespace L2
open PySem PySem.Spec PyProof.Rows
/-! ### range downwards -/
section
variable {X : Cx} {tg : Expr}
end
section
variable {K : PySem.W.Frag} {g : TG} {tb : TS} {D : Ends} {σ : St} {H : Hp} {R : It → Hp → Prop}
end
/-! ### methods of lists without arguments; extend -/
section
variable {X : Cx} {K : PySem.W.Frag}
/-! ### xs[::-1] -/
/-! ### min of a list of ints -/
theorem ptW {e : Expr} {t : TT} (h : PW X e t) : PT X e t := h.pt
end
end L2

set_option Elab.async false
set_option linter.all false
set_option maxRecDepth 100000
set_option maxHeartbeats 2000000
namespace L2
open PySem PySem.Spec PyProof.Rows
/-! ### an exception in flight, with its own dict: what notes a frame leaves it as it is but for its entry -/
/-- its record: no entry yet, or an entry that is in no frame's flight -/
def ExAt (B h : Heap) (e : Addr) (cls : Value) (dx : Option Addr) : Prop :=
  ∃ (oe : Obj) (vs : Array Value), h.get? e = some oe ∧ oe.cls = cls ∧ oe.dict = dx ∧ oe.data = .fields vs ∧ 1 < vs.size ∧
    (vs[1]? = some .none ∨ ∃ (T : Addr) (oT : Obj) (ts : Array Value), vs[1]? = some (.ref T) ∧ B.get? T = none ∧ T ≠ e ∧ h.get? T = some oT ∧ oT.data = .fields ts ∧ 3 < ts.size ∧ ts[3]? = some .none)
/-- nothing is gone -/
def Th (h h' : Heap) : Prop := ∀ b o, h.get? b = some o → ∃ o', h'.get? b = some o'
structure FlyX (B : Heap) (l : List Env) (e : Addr) (cls : Value) (dx : Option Addr) (h : Heap) : Prop where
  stays : B.StaysIn h
  new : B.get? e = none
  frames : h.FunFrames B l
  ex : ExAt B h e cls dx
section
variable {M : Model} {A : Around} {E : Value → Shared → Prop} {s : Shared} {B : Heap} {env : Env} {outer : List Env} {L e : Addr} {cls : Value} {dx : Option Addr} {Q : Unit → Shared → Prop}
theorem mapFields_parts (f : Array Value → Array Value) (o : Obj) : (Obj.mapFields f o).cls = o.cls ∧ (Obj.mapFields f o).dict = o.dict := by
  obtain ⟨c, d, dt, sl⟩ := o
  cases dt <;> exact ⟨rfl, rfl⟩
theorem entry_fly {head : Value} {hn : Bool} {oe : Obj} {vs : Array Value} (hfr : A.frames = some (env :: outer)) (hf : env.frame = some L) (f1 : B.StaysIn s.heap) (f2 : B.get? e = none) (f3 : s.heap.FunFrames B (env :: outer))
    (he : s.heap.get? e = some oe) (hc : oe.cls = cls) (hdx : oe.dict = dx) (hd : oe.data = .fields vs) (hsz : 1 < vs.size)
    (hQ : ∀ h', FlyX B (env :: outer) e cls dx h' → s.heap.UpToSlots h' → Th s.heap h' → Q () { s with heap := h' }) :
    wpAny M A (do let a ← frameOf env; let pl ← entryPlaceOf L hn; let b ← EntryCells.newEntry head a .none (rawInt L) .none pl; setField (.ref e) 1 b) (fun _ s1 => wpAny M A (setFlight (.ref e) none) Q E s1) E s := by
  have hene : e ∉ (env :: outer).filterMap (·.frame) := fun hm => by
    obtain ⟨_, o, ho, hnf⟩ := f3.mem hm
    rw [he] at ho
    cases ho
    exact hnf vs hd
  refine wpAny_bind (wpAny_frameOf_fun hfr f3 hf fun g hg => wpAny_bind (wpAny_entryPlaceOf fun pl hpl => ?_))
  refine wpAny_bind (wpAny_newObj_type ?_ (hpl.sizeOk5 _ _ _ _ _))
  have e1 : g.get? e = some oe := (hg.2.1 e hene).trans he
  have lt1 := Heap.lt_size e1
  generalize hO : ({ cls := .type "traceback", data := .fields ([head, .ref L, .none, rawInt L, .none] ++ (if pl.isEmpty then List.replicate 6 Value.none else pl)).toArray } : Obj) = O
  have hOd : O.data = .fields ([head, .ref L, .none, rawInt L, .none] ++ (if pl.isEmpty then List.replicate 6 Value.none else pl)).toArray := by rw [← hO]
  have hOz : 3 < ([head, .ref L, .none, rawInt L, .none] ++ (if pl.isEmpty then List.replicate 6 Value.none else pl)).toArray.size := by simp
  have hOf : O.isFreed = false := by rw [← hO]; rfl
  generalize ([head, .ref L, .none, rawInt L, .none] ++ (if pl.isEmpty then List.replicate 6 Value.none else pl)).toArray = ts at hOd hOz
  have e2 : (g.push O).get? e = some oe := Heap.get?_push_of_some _ e1
  have t2 : (g.push O).get? g.objs.size = some O := Heap.get?_push_size _ hOf
  have nT : g.objs.size ≠ e := Nat.ne_of_gt lt1
  refine wpAny_setField e2 hd hsz ?_
  have d3 := Obj.data_mapFields hd (fun a => a.setIfInBounds 1 (Value.ref g.objs.size))
  have e3 := Heap.get?_update_self (Obj.mapFields fun a => a.setIfInBounds 1 (Value.ref g.objs.size)) e2 (Obj.isFreed_of_fields d3)
  have t3 := (Heap.get?_update_other (g.push O) (Obj.mapFields fun a => a.setIfInBounds 1 (Value.ref g.objs.size)) (Ne.symm nT)).trans t2
  unfold setFlight
  refine wpAny_bind (wpAny_field e3 d3 (x := .ref g.objs.size) (by simp [hsz]) ?_)
  rw [if_pos (by simp)]
  refine wpAny_setField t3 hOd hOz (hQ _ ?_ ?_ ?_)
  · have kp : ∀ b o, b ≠ e → g.get? b = some o → (((g.push O).update e (Obj.mapFields fun a => a.setIfInBounds 1 (Value.ref g.objs.size))).update g.objs.size (Obj.mapFields fun a => a.setIfInBounds 3 Value.none)).get? b = some o := fun b o hb hz => by
      rw [Heap.get?_update_other _ _ (Nat.ne_of_gt (Heap.lt_size hz)), Heap.get?_update_other _ _ (Ne.symm hb)]
      exact Heap.get?_push_of_some _ hz
    have d4 := Obj.data_mapFields hOd (fun a => a.setIfInBounds 3 Value.none)
    have t4 := Heap.get?_update_self (Obj.mapFields fun a => a.setIfInBounds 3 Value.none) t3 (Obj.isFreed_of_fields d4)
    have e4 := (Heap.get?_update_other ((g.push O).update e (Obj.mapFields fun a => a.setIfInBounds 1 (Value.ref g.objs.size))) (Obj.mapFields fun a => a.setIfInBounds 3 Value.none) nT).trans e3
    have pf := mapFields_parts (fun a => a.setIfInBounds 1 (Value.ref g.objs.size)) oe
    refine ⟨fun b o hb => kp b o (fun z => by rw [z, f2] at hb; cases hb) ((hg.2.1 b fun hm => by rw [(f3.mem hm).1] at hb; cases hb).trans (f1 b o hb)), f2, f3.of_keeps fun b o hb hnf => ?_, _, _, e4, pf.1.trans hc, pf.2.trans hdx, d3, by simpa using hsz, .inr ⟨_, _, _, by simp [hsz], ?_, nT, t4, d4, by simpa using hOz, by simp [hOz]⟩⟩
    · obtain ⟨sl, hs⟩ := hg.2.2 b o hb
      refine ⟨_, kp b _ (fun z => ?_) hs, rfl⟩
      rw [z, he] at hb
      cases hb
      exact hnf vs hd
    · cases q : B.get? g.objs.size with
      | none => rfl
      | some o =>
        have z1 := f1 _ _ q
        have z2 := (hg.2.1 _ fun hm => by rw [(f3.mem hm).1] at q; cases q).trans z1
        exact absurd (Heap.lt_size z2) (Nat.lt_irrefl _)
  · intro b o hb hnf
    obtain ⟨sl, hs⟩ := hg.2.2 b o hb
    refine ⟨sl, ?_⟩
    rw [Heap.get?_update_other _ _ (Nat.ne_of_gt (Heap.lt_size hs)), Heap.get?_update_other _ _ (fun z => ?_)]
    · exact Heap.get?_push_of_some _ hs
    · rw [← z, he] at hb
      cases hb
      exact hnf vs hd
  · intro b o hb
    by_cases hbe : b = e
    · subst hbe
      exact ⟨_, (Heap.get?_update_other _ _ nT).trans e3⟩
    · obtain ⟨sl, hs⟩ := hg.2.2 b o hb
      refine ⟨{ o with slots := sl }, ?_⟩
      rw [Heap.get?_update_other _ _ (Nat.ne_of_gt (Heap.lt_size hs)), Heap.get?_update_other _ _ (Ne.symm hbe)]
      exact Heap.get?_push_of_some _ hs
theorem note_fly (hfr : A.frames = some (env :: outer)) (hf : env.frame = some L) (F : FlyX B (env :: outer) e cls dx s.heap)
    (hQ : ∀ h', FlyX B (env :: outer) e cls dx h' → s.heap.UpToSlots h' → Th s.heap h' → Q () { s with heap := h' }) : wpAny M A (noteFrame (.ref e) env) (fun _ s1 => wpAny M A (setFlight (.ref e) none) Q E s1) E s := by
  obtain ⟨f1, f2, f3, oe, vs, he, hc, hdx, hd, hsz, hT⟩ := F
  unfold noteFrame
  rw [hf]
  rcases hT with h1 | ⟨T, oT, ts, h1, bT, nT, gT, dT, zT, vT⟩
  · refine wpAny_bind (wpAny_field he hd h1 ?_)
    dsimp only
    rw [if_neg (by simp)]
    exact entry_fly hfr hf f1 f2 f3 he hc hdx hd hsz hQ
  · refine wpAny_bind (wpAny_field he hd h1 ?_)
    dsimp only
    rw [if_pos (by simp)]
    refine wpAny_bind (wpAny_field gT dT vT ?_)
    rw [if_neg (by simp [rawInt])]
    refine wpAny_bind (wpAny_setField gT dT zT ?_)
    have ne : ∀ b o, s.heap.get? b = some o → (∀ vs, o.data ≠ .fields vs) → b ≠ T := fun b o hb hnf z => by
      rw [z, gT] at hb
      cases hb
      exact hnf ts dT
    have kp : ∀ b o, b ≠ T → s.heap.get? b = some o → (s.heap.update T (Obj.mapFields fun a => a.setIfInBounds 3 Value.none)).get? b = some o := fun b o hb hz => by
      rw [Heap.get?_update_other _ _ (Ne.symm hb)]; exact hz
    refine entry_fly (s := { s with heap := s.heap.update T (Obj.mapFields fun a => a.setIfInBounds 3 Value.none) }) hfr hf (fun b o hb => kp b o (fun z => by rw [z, bT] at hb; cases hb) (f1 b o hb)) f2 (f3.of_keeps fun b o hb hnf => ⟨o, kp b o (ne b o hb hnf) hb, rfl⟩)
      (kp e oe (Ne.symm nT) he) hc hdx hd hsz fun h' F' U W => hQ h' F' (fun b o hb hnf => U b o (kp b o (ne b o hb hnf) hb) hnf) fun b o hb => ?_
    by_cases hbT : b = T
    · subst hbT
      exact W b _ (Heap.get?_update_self (Obj.mapFields fun a => a.setIfInBounds 3 Value.none) gT (Obj.isFreed_of_fields (Obj.data_mapFields dT _)))
    · exact W b o (kp b o hbT hb)
theorem set_fly (F : FlyX B outer e cls dx s.heap) (hQ : ∀ h', FlyX B outer e cls dx h' → s.heap.UpToSlots h' → Th s.heap h' → Q () { s with heap := h' }) : wpAny M A (setFlight (.ref e) none) Q E s := by
  obtain ⟨f1, f2, f3, oe, vs, he, hc, hdx, hd, hsz, hT⟩ := F
  unfold setFlight
  rcases hT with h1 | ⟨T, oT, ts, h1, bT, nT, gT, dT, zT, vT⟩
  · refine wpAny_bind (wpAny_field he hd h1 ?_)
    rw [if_neg (by simp)]
    exact wpAny_pure (hQ s.heap ⟨f1, f2, f3, oe, vs, he, hc, hdx, hd, hsz, .inl h1⟩ (Heap.UpToSlots.refl _) fun b o hb => ⟨o, hb⟩)
  · refine wpAny_bind (wpAny_field he hd h1 ?_)
    rw [if_pos (by simp)]
    refine wpAny_setField gT dT zT ?_
    have kp : ∀ b o, b ≠ T → s.heap.get? b = some o → (s.heap.update T (Obj.mapFields fun a => a.setIfInBounds 3 Value.none)).get? b = some o := fun b o hb hz => by
      rw [Heap.get?_update_other _ _ (Ne.symm hb)]; exact hz
    have ne : ∀ b o, s.heap.get? b = some o → (∀ vs, o.data ≠ .fields vs) → b ≠ T := fun b o hb hnf z => by
      rw [z, gT] at hb
      cases hb
      exact hnf ts dT
    have d4 := Obj.data_mapFields dT (fun a => a.setIfInBounds 3 Value.none)
    have t4 := Heap.get?_update_self (Obj.mapFields fun a => a.setIfInBounds 3 Value.none) gT (Obj.isFreed_of_fields d4)
    exact hQ _ ⟨fun b o hb => kp b o (fun z => by rw [z, bT] at hb; cases hb) (f1 b o hb), f2, f3.of_keeps fun b o hb hnf => ⟨o, kp b o (ne b o hb hnf) hb, rfl⟩, oe, vs, kp e oe (Ne.symm nT) he, hc, hdx, hd, hsz,
      .inr ⟨T, _, _, h1, bT, nT, t4, d4, by simpa using zT, by simp [zT]⟩⟩ (fun b o hb hnf => ⟨o.slots, kp b o (ne b o hb hnf) hb⟩) fun b o hb => (Classical.em (b = T)).elim (fun z => by subst z; exact ⟨_, t4⟩) fun z => ⟨o, kp b o z hb⟩
/-- leaving a frame -/
theorem leave_fly (hfr : A.frames = some (env :: outer)) (hf : env.frame = some L) (F : FlyX B (env :: outer) e cls dx s.heap)
    (hQ : ∀ h', FlyX B outer e cls dx h' → s.heap.UpToSlots h' → Th s.heap h' → Q () { s with heap := h' }) : wpAny M A (leaving env (.ref e)) Q E s := by
  unfold leaving
  exact wpAny_bind (note_fly hfr hf F fun h' F' U W => hQ h' ⟨F'.stays, F'.new, F'.frames.2.2, F'.ex⟩ U W)
end
/-! ### how an exception lies behind a call -/
/-- an exception flies in the body of X: the state as X has it, B all that stood when it was raised but the frames -/
structure FlyIn (X : Cx) (pins : List (Addr × Obj)) (σ : St) (H : Hp) (B : Heap) (e : Addr) (cls : Value) (dx : Option Addr) (s : Shared) : Prop where
  inv : Inv X pins σ H s
  hok : HOk X.prog X.w H B
  fly : FlyX B X.stack e cls dx s.heap
  kb : ∀ b o, X.s₀.heap.get? b = some o → X.H₀ b = none → b ∉ X.fs → b ∉ X.ex → B.get? b = some o
  en : ∀ o, X.s₀.heap.get? e = some o → e ∈ X.ex
def CXR (P : Program) (w : World) : CXT := fun outer H s E e s' => ∃ (ea : Addr) (cls : Value) (dx : Option Addr) (H' : Hp) (B : Heap), e = .ref ea ∧ s'.os = s.os ∧ AllBare s'.gens ∧ HOk P w H' B ∧ FlyX B outer ea cls dx s'.heap ∧
  Un (frs outer) [] H H' s.heap s'.heap ∧ (∀ b o, s.heap.get? b = some o → H b = none → b ∉ frs outer → B.get? b = some o) ∧ (∀ o, s.heap.get? ea ≠ some o) ∧ E cls dx H'
section
variable {X : Cx} {pins : List (Addr × Obj)} {σ : St} {H : Hp} {s s' : Shared}
theorem not_frame (I : Inv X pins σ H s) {b : Addr} {o : Obj} (e : X.s₀.heap.get? b = some o) (h : b ∉ X.fs) : b ∉ frs X.stack := fun hm => by
  rcases List.mem_cons.mp (I.stkSub b hm) with z | z
  · exact absurd (Nat.lt_of_lt_of_le (Heap.lt_size e) I.ok.above) (by rw [z]; exact Nat.lt_irrefl _)
  · exact h z
/-- out of a callee -/
theorem FlyIn.of_call {E : XK} {e : Value} (I : Inv X pins σ H s) (h : CXR X.prog X.w X.stack H s E e s') : ∃ (ea : Addr) (cls : Value) (dx : Option Addr) (H' : Hp) (B : Heap), e = .ref ea ∧ FlyIn X pins σ H' B ea cls dx s' ∧ E cls dx H' := by
  obtain ⟨ea, cls, dx, H', B, rfl, os, bare, hok, fly, un, kb, en, hE⟩ := h
  refine ⟨ea, cls, dx, H', B, rfl, ⟨I.call' os un (hok.kept fly.stays) bare (fun b hb => absurd hb (by simp)), hok, fly, fun b o e n h1 h2 => ?_, fun o e => ?_⟩, hE⟩
  · have k := I.base.keep b o e n h1 h2
    exact kb b o k (I.base.free b o e n h2) (not_frame I e h1)
  · apply Classical.byContradiction
    intro hx
    obtain ⟨o', k⟩ := I.base.there ea o e hx
    exact en o' k
/-- raised here -/
theorem FlyIn.of_raise {e : Addr} {cls : Value} {args : List Value} {h' : Heap} {t' : Nat} (I : Inv X pins σ H s) (m : Heap.MadeExcOf s.heap h' e cls args) : FlyIn X pins σ H (PySem.W.hideAll s.heap (frs X.stack)) e cls none { s with heap := h', toks := t' } := by
  have nofr : ∀ b o, H b = some o → b ∉ frs X.stack := fun b o hb hm => by rw [I.stkFree b hm] at hb; cases hb
  refine ⟨I.kept m.keeps, fun a o ha => ?_, ⟨fun b o hb => m.keeps _ _ (PySem.W.of_hideAll _ hb), ?_, ?_, ?_⟩, fun b o e n h1 h2 => ?_, fun o hz => ?_⟩
  · refine (I.hok a o ha).stay (fun b u hb hu => PySem.W.hideAll_get _ hu ?_) (fun _ q => q) fun _ _ q => q
    rcases hb with rfl | hb
    · exact nofr _ _ ha
    · exact nofr _ _ hb
  · cases q : (PySem.W.hideAll s.heap (frs X.stack)).get? e with
    | none => rfl
    | some o =>
      have := PySem.W.of_hideAll _ q
      rw [m.new] at this
      cases this
  · refine Heap.FunFrames.of_keeps (fun b o hb _ => ⟨o, m.keeps b o hb, rfl⟩) (PySem.W.funFrames_hide I.stack fun env he a hf => ?_)
    exact List.mem_filterMap.mpr ⟨env, he, hf⟩
  · obtain ⟨t, h1, _, _⟩ := m.there
    exact ⟨_, _, h1, rfl, rfl, rfl, by simp, .inl rfl⟩
  · exact PySem.W.hideAll_get _ (I.base.keep b o e n h1 h2) (not_frame I e h1)
  · apply Classical.byContradiction
    intro hx
    obtain ⟨o', k⟩ := I.base.there _ o hz hx
    rw [m.new] at k
    cases k
/-- what is wanted of an exception that leaves this body -/
def XOut (X : Cx) (E : XK) : Prop := ∀ (pins : List (Addr × Obj)) (σ : St) (H : Hp) (B : Heap) (e : Addr) (cls : Value) (dx : Option Addr) (s : Shared), FlyIn X pins σ H B e cls dx s → E cls dx H → X.xe (.ref e) s
theorem passR {E : XK} (hx : XOut X E) : Passes (CXR X.prog X.w) X E := fun pins σ H s e s' I h => by
  obtain ⟨ea, cls, dx, H', B, rfl, F, hE⟩ := FlyIn.of_call I h
  exact hx _ _ _ _ _ _ _ _ F hE
theorem passR0 {P : Program} {w : World} : Passes (CXR P w) X E0 := fun _ _ _ _ _ _ _ h => by
  obtain ⟨_, _, _, _, _, _, _, _, _, _, _, _, _, h⟩ := h
  exact (show False from h).elim
end
/-- a def's body: the exception leaves its frame -/
theorem xout {P : Program} {w : World} {K : PySem.W.Frag} {mg : Str → Option Value} {base : Heap} {N : List Str} {qual : Str} {scope : Scope} {f : Addr} {cd : Value} {A : Around} {outer : List Env} {s : Shared} {H : Hp} {E : XK} :
    XOut (cxOf (CXR P w) P w K mg base N qual scope f cd A outer s H E) E := fun pins σ H' B e cls dx s' F hE => by
  have I := F.inv
  refine leave_fly (outer := outer) I.ok.frames (rfl : (envOfC qual scope s.heap.objs.size f cd).frame = some s.heap.objs.size) F.fly fun h' F' U W => ?_
  have kb : ∀ b o, s.heap.get? b = some o → H b = none → b ∉ frs outer → B.get? b = some o := fun b o e n h1 => F.kb b o e n h1 (by exact List.not_mem_nil)
  refine ⟨e, cls, dx, H', B, rfl, I.os, I.bare, F.hok, F', ?_, kb, fun o z => absurd (F.en o z) (by exact List.not_mem_nil), hE⟩
  have un : Un (frs outer) [] H H' s.heap s'.heap := I.base
  refine ⟨fun b o e n h1 _ => F'.stays _ _ (kb b o e n h1), fun b o e n h1 h2 => ?_, un.free, fun b o e h2 => ?_, un.tups, un.frzs, un.tbls⟩
  · obtain ⟨sl, k⟩ := un.slot b o e n h1 h2
    obtain ⟨_, o2, ho2, hd⟩ := I.ok.funs.mem h1
    have : o2 = o := Option.some.inj (ho2.symm.trans e)
    subst this
    obtain ⟨sl', k'⟩ := U b _ k hd
    exact ⟨sl', k'⟩
  · obtain ⟨o', k⟩ := un.there b o e h2
    exact W b o' k
/-! ### raise C(..), C a class without __init__ -/
section
variable {X : Cx} {x : Str} {C : Addr} {bm : List Value} {B newId initId : String} {np cpos pos : Pos} {e₀ : Expr} {rest : List Expr} {t : TA} {E : XK}
def qRaise (C : Addr) (E : XK) (t : TA) : TS := fun _ σ H => t σ H fun vs H1 => vs.length ≤ sizeLine ∧ E (.ref C) none H1
theorem psRaise (O : OwnCls x C bm newId X.mg X.base) (FB : ExcBaseFacts B newId initId bm) (hc : X.calm = true) (hout : XOut X E) (ha : PA X (e₀ :: rest) t) (hg : Gl X x := by rfl) (hd : (x == ("__debug__" : Str)) = false := by decide)
    (he : starEach (e₀ :: rest) X.env = (false, eval e₀ X.env) :: starEach rest X.env := by rfl) (hpl : (backTo cpos (starEach rest X.env)).any (·.1) = false := by rfl) :
    PS X (.Raise (some (.Call (.Name x np) (e₀ :: rest) [] cpos)) none pos) (qRaise C E t) := by
  intro pins s σ H D I h
  obtain ⟨tl, N, nm, q, bs, hdct, sn, sub, ab, col, dd, k0, k1, k2, k3, k5, mN, hC, hN, hni, T⟩ := O.obj
  refine wpAny_Raise_call_subT (C := C) (nm := nm) (q := q) (N := N) (bs := bs) (bm := tl) (hdct := hdct) (sn := sn) (sub := sub) (ab := ab) (col := col) (dd := dd) (k0 := k0) (k1 := k1) (k2 := k2) (k3 := k3) (k5 := k5) FB (mN := mN)
    (T.hasType FB.hasBase) (I.ok.hd hc) (by rw [he]; show (false || (backTo cpos (starEach rest X.env)).any (·.1)) = false; rw [hpl]; rfl) hni (ld_glob I hg O.bound ⟨rfl, ?_⟩ hd)
  have hA := ha cpos pins s σ H _ I h
  rw [he] at hA ⊢
  refine Calls.evalArgs_plain (thn hA fun us s2 ⟨vs, H1, I1, r, hz, q⟩ => ⟨rfl, by rw [← r.length]; exact hz, I1.bk _ _ hC, hN.keeps I1.bk, T.keeps I1.bk, fun h' e m => ?_⟩)
  exact hout _ _ _ _ _ _ _ _ (FlyIn.of_raise (t' := s2.toks) I1 m) q
end
/-! ### a def that may raise -/
section
variable {P : Program} {w : World} {K : PySem.W.Frag} {mg : Str → Option Value} {base : Heap}
theorem Fun.okR {x qual : Str} {st : Stmt} {f : Addr} {fd : FuncData} {N ps : List Str} {k : Nat} {sp : Sp} (F : Fun K x qual st f fd) (S : FnScope N ps (defScope st)) (len : ∀ vs H Q E, sp vs H Q E → vs.length = ps.length)
    (hbody : ∀ (cdv : Value) (A : Around) (outer : List Env) (s : Shared) (H : Hp) (vs : List V) (Q : VK) (E : XK), Room k (A.deeper (envOfC qual (defScope st) s.heap.objs.size f cdv)) → XOut (cxOf (CXR P w) P w K mg base N qual (defScope st) f cdv A outer s H E) E → sp vs H Q E →
      ∃ t, PSs (cxOf (CXR P w) P w K mg base N qual (defScope st) f cdv A outer s H E) (defBody st) t ∧ t { nx := fun _ H' => Q .non H', rt := Q } (start N vs) H) : FnOk P w K mg base (CXR P w) (k + 1) f fd ps sp := by
  obtain ⟨oc, od, kV, doc, pm, an, cdv, ct, osl, rfl, lk, hcd⟩ := F.ex
  refine fn_of lk hcd S len fun A outer s H vs Q E hr hsp => ?_
  exact hbody cdv A outer s H vs Q E hr xout hsp
end
end L2

set_option Elab.async false
set_option linter.all false
set_option maxRecDepth 100000
set_option maxHeartbeats 4000000
namespace L2
open PySem PySem.Spec PyProof.Rows
/-! ### isinstance of a caught exception -/
/-- what the written part knows of an exception's class -/
structure ExcK (K : PySem.W.Frag) (D : Addr) : Prop where
  h1 : PySem.W.findIn K (.ref D) "__getattribute__" = some (some (.builtin "BaseException.__getattribute__"))
  h2 : PySem.W.findIn K (.ref D) "__getattr__" = some none
  h3 : PySem.W.findIn K (.ref D) "__class__" = some (some (.builtin "object.__class__"))
  h4 : PySem.W.subIn K (.ref D) (.type "BaseException") = some true
  h5 : PySem.W.mroIn K D (.type "object") = some true
/-- a caught exception -/
def ExcIs (e : Addr) (cls : Value) (dx : Option Addr) (h : Heap) : Prop := ∃ (oe : Obj) (vs : Array Value), h.get? e = some oe ∧ oe.cls = cls ∧ oe.dict = dx ∧ oe.data = .fields vs
section
open PySem.W PySem.Calls
theorem exc_class {prog : Program} {w : World} {A : Around} {E : Value → Shared → Prop} {K : Frag} {D e : Addr} {h : Heap} {g d t os} {Q : Option Value → Shared → Prop} (X : K.In h) (x : ExcIs e (.ref D) none h) (k : ExcK K D)
    (hq : Q (some (.ref D)) ⟨h, g, d, t + 1, os⟩) : wpAny (model prog w) A (getAttr? (.ref e) "__class__") Q E ⟨h, g, d, t, os⟩ := by
  obtain ⟨oe, vs, he, hc, hdx, hd⟩ := x
  obtain ⟨h1, h2, h3, h4, h5⟩ := k
  have L0 : Looks (model prog w) h (typeOf (.ref e)) (.ref D) := hc ▸ (Looks.ld he).andThen .now
  have L1 := looks_findIn (M := model prog w) X h1
  have L2 := looks_findIn (M := model prog w) X h2
  have L3 := looks_findIn (M := model prog w) X h3
  have hx : (onTheHeap (Value.ref D) && Value.builtin "BaseException.__getattribute__" == Value.builtin "object.__getattribute__") = false := by
    have z : (Value.builtin "BaseException.__getattribute__" == Value.builtin "object.__getattribute__") = false := by decide +kernel
    rw [z]; rfl
  have I : InstAt h e oe D none := ⟨he, hc, by unfold notCls; rw [hd], by rw [hdx]; trivial⟩
  have L4 : Looks (model prog w) h (isInstance (.ref e) (.type "BaseException")) true := L0.andThen (looks_subIn X h4)
  have FB := PySem.F.attrBase_ValueError
  have f3 := FB.ga.bind (.ref e)
  have kd : builtinKind "BaseException.__getattribute__" = some .slot := by decide +kernel
  have sid : splitId "BaseException.__getattribute__" = some ("BaseException", "__getattribute__") := by decide +kernel
  have aok := PySem.F.args_bexc_ga (.ref e) (.str "__class__" t)
  have f5 := KF.type_class
  have f6 := PySem.F.slot_gs_get.lookup
  have f7 := PySem.F.slot_gs_set.lookup
  unfold getAttr? getAttrBy? getAttrBy
  refine wpAny_bind (wpAny_mkText (wpAny_bind (wpAny_attempt (wpAny_holding (wpAny_bind (L0.at (wpAny_bind (L1.at ?_))))))))
  dsimp only
  rw [if_neg (by rw [hx]; decide)]
  unfold getAttrByItsOwn hookBefore
  repeat (any_goals (first | assumption | with_reducible refine L0.at ?_ | with_reducible refine L1.at ?_ | with_reducible refine L2.at ?_ | with_reducible refine L3.at ?_ | wp_step))
  refine codeAny_call_builtin FB.ga.plain PySem.F.entry_bexc_ga ?_
  simp only [checkBuiltinCall, kd, sid]
  refine wpAny_bind (L4.at ?_)
  repeat (any_goals (first | assumption | with_reducible refine L0.at ?_ | with_reducible refine L1.at ?_ | with_reducible refine L2.at ?_ | with_reducible refine L3.at ?_ | wp_step))
  refine class_get (ox := oe) (od := none) X I h5 ?_
  repeat (any_goals (first | assumption | wp_step))
theorem kitx_exc {K : Frag} {e D : Addr} (k : ExcK K D) (hcl : (clsIn K D).isSome = true) : KitX K (.ref e) (.ref D) (ExcIs e (.ref D) none) where
  ty := fun M h _ p => by
    obtain ⟨oe, vs, he, hc, _⟩ := p
    exact hc ▸ (Looks.ld he).andThen .now
  it := fun M h X p => by
    obtain ⟨cd, hcd⟩ := Option.isSome_iff_exists.mp hcl
    unfold clsIn at hcd
    split at hcd
    · rename_i ho
      intro A' Q' E' s' kk q
      unfold isType loadHead
      exact wpAny_bind (wpAny_loadPart (kk _ _ (X _ _ ho)) (wpAny_pure q))
    · cases hcd
  ne := fun h tp dd its n sl X htp => by
    refine Bool.eq_false_iff.mpr fun q => ?_
    have z : D = tp := Value.ref.inj (beq_iff_eq.mp q)
    subst z
    obtain ⟨cd, hcd⟩ := Option.isSome_iff_exists.mp hcl
    unfold clsIn at hcd
    split at hcd
    · rename_i ho
      cases (X _ _ ho).symm.trans htp
    · cases hcd
  ca := fun {prog w A E Q s} X p q => by
    obtain ⟨hh, g, d, t, os⟩ := s
    exact exc_class X p k q
end
/-! ### isinstance, of anything and of a caught exception -/
abbrev excO (ea : Addr) (cls : Value) (dx : Option Addr) : HO := .ext (ExcIs ea cls dx)
section
variable {X : Cx} {K : PySem.W.Frag} {H : Hp} {Q : VK}
@[irreducible] def rIsiX (K : PySem.W.Frag) (x c : V) (H : Hp) (Q : VK) : Prop := rIsiA K x c H Q ∨ ∃ (ea D : Addr) (b : Bool), x = .ref ea ∧ H ea = some (excO ea (.ref D) none) ∧ ExcK K D ∧ (PySem.W.clsIn K D).isSome = true ∧ (∀ cv, RelV c cv → PySem.W.kitOne K (.ref D) cv = some b) ∧ Q (.bl b) H
def rIsiMX (K : PySem.W.Frag) : List V → Hp → VK → Prop := fun xs H Q => match xs with
  | [x, c] => rIsiX K x c H Q
  | _ => False
theorem cIsiX (hK : X.K = K) : CallR X (.builtin "isinstance") (rIsiMX K) := by
  subst hK
  intro pins s σ H xs us Q I r h
  unfold rIsiMX at h
  split at h
  · unfold rIsiX at h
    rcases h with h | ⟨ea, D, b, rfl, h1, h2, h3, h4, h5⟩
    · exact cIsi pins s σ H _ us Q I r h
    · obtain ⟨u, w, rfl, r1, r2⟩ := vals2 r
      cases r1
      obtain ⟨p, _⟩ := I.hok ea _ h1
      exact PySem.W.kia_one (kitx_exc h2 h3) I.kIn p (h4 _ r2) (fun z => nomatch z) fun tk => ⟨.bl b, H, I.tok _, rfl, h5⟩
  · exact h.elim
theorem isiE_rd {ea D C : Addr} {b : Bool} (h1 : H ea = some (excO ea (.ref D) none)) (h2 : ExcK K D) (h3 : (PySem.W.clsIn K D).isSome = true) (e : PySem.W.kitOne K (.ref D) (.ref C) = some b) (q : Q (.bl b) H) : rIsiX K (.ref ea) (.ref C) H Q := by
  unfold rIsiX; exact .inr ⟨ea, D, b, rfl, h1, h2, h3, fun cv r => by cases r; exact e, q⟩
theorem isiET_rd {ea D : Addr} {n : String} {b : Bool} (h1 : H ea = some (excO ea (.ref D) none)) (h2 : ExcK K D) (h3 : (PySem.W.clsIn K D).isSome = true) (e : PySem.W.kitOne K (.ref D) (.type n) = some b) (q : Q (.bl b) H) : rIsiX K (.ref ea) (.ty n) H Q := by
  unfold rIsiX; exact .inr ⟨ea, D, b, rfl, h1, h2, h3, fun cv r => by cases r; exact e, q⟩
theorem bt_ValueError : bootBuiltins "ValueError" = some (.type "ValueError") := by decide +kernel
end
/-! ### try: f(..) except C as n: y = n -/
section
variable {X : Cx} {pins : List (Addr × Obj)} {σ : St} {H : Hp} {s : Shared}
/-- what lies behind an exception of a statement that has stored nothing ahead of it -/
def ExcP (X : Cx) (pins : List (Addr × Obj)) (σ : St) (EX : XK) (e : Value) (s' : Shared) : Prop := ∃ (H' : Hp) (B : Heap) (ea : Addr) (cls : Value) (dx : Option Addr), e = .ref ea ∧ FlyIn X pins σ H' B ea cls dx s' ∧ (∀ p ∈ X.pn ++ pins, B.get? p.1 = some p.2) ∧ EX cls dx H'
def PSX (X : Cx) (st : Stmt) (t : XK → TS) : Prop := ∀ (pins : List (Addr × Obj)) (s : Shared) (σ : St) (H : Hp) (D : Ends) (EX : XK), Inv X pins σ H s → t EX D σ H → wpAny (model X.prog X.w) X.A (exec st X.env) (SP X pins D) (ExcP X pins σ EX) s
def PSXs (X : Cx) (l : List Stmt) (t : XK → TS) : Prop := ∀ (pins : List (Addr × Obj)) (s : Shared) (σ : St) (H : Hp) (D : Ends) (EX : XK), Inv X pins σ H s → t EX D σ H → wpAny (model X.prog X.w) X.A (execs l X.env) (SP X pins D) (ExcP X pins σ EX) s
theorem excP_of {EX : XK} {e : Value} {s' : Shared} (I : Inv X pins σ H s) (h : CXR X.prog X.w X.stack H s EX e s') : ExcP X pins σ EX e s' := by
  obtain ⟨ea, cls, dx, H', B, rfl, os, bare, hok, fly, un, k, en, hE⟩ := h
  refine ⟨H', B, ea, cls, dx, rfl, ⟨I.call' os un (hok.kept fly.stays) bare (fun b hb => absurd hb (by simp)), hok, fly, fun b o e n h1 h2 => ?_, fun o e => ?_⟩, fun p hp => ?_, hE⟩
  · exact k b o (I.base.keep b o e n h1 h2) (I.base.free b o e n h2) (not_frame I e h1)
  · apply Classical.byContradiction
    intro hx
    obtain ⟨o', k'⟩ := I.base.there ea o e hx
    exact en o' k'
  · obtain ⟨q1, q2, q3, q4, _⟩ := I.pin p hp
    exact k _ _ q1 q2 fun hm => (List.mem_cons.mp (I.stkSub _ hm)).elim q3 q4
/-- the state moves on while the exception flies -/
theorem FlyIn.move {B : Heap} {e : Addr} {cls : Value} {dx : Option Addr} {h' : Heap} (F : FlyIn X pins σ H B e cls dx s) (hp : ∀ p ∈ X.pn ++ pins, B.get? p.1 = some p.2) (F' : FlyX B X.stack e cls dx h') (U : s.heap.UpToSlots h') (W : Th s.heap h') :
    FlyIn X pins σ H B e cls dx { s with heap := h' } := by
  have I := F.inv
  have cell : ∀ {c : Addr} {v : Option Value}, s.heap.IsCell c v → h'.IsCell c v := fun ⟨o, ho, hd⟩ => by
    obtain ⟨sl, z⟩ := U _ o ho fun vs q => by rw [hd] at q; cases q
    exact ⟨_, z, hd⟩
  refine ⟨⟨I.ok, I.os, I.bare, ⟨fun b o e n h1 h2 => F'.stays _ _ (F.kb b o e n h1 h2), fun b o e n h1 h2 => ?_, I.base.free, fun b o e h2 => ?_, I.base.tups, I.base.frzs, I.base.tbls⟩, ?_, fun x c hc => ?_, I.free, I.freeC, fun p hpp => ?_, F.hok.kept F'.stays, I.len⟩, F.hok, F', F.kb, F.en⟩
  · obtain ⟨sl, k⟩ := I.base.slot b o e n h1 h2
    obtain ⟨_, o2, ho2, hd⟩ := I.ok.funs.mem h1
    have : o2 = o := Option.some.inj (ho2.symm.trans e)
    subst this
    obtain ⟨sl', k'⟩ := U b _ k hd
    exact ⟨sl', k'⟩
  · obtain ⟨o', k⟩ := I.base.there b o e h2
    exact W b o' k
  · obtain ⟨m, hn, hl⟩ := I.loc
    refine ⟨m, U.ns hn, fun i x v h1 h2 h3 => ?_⟩
    obtain ⟨u, r, q⟩ := hl i x v h1 h2 h3
    refine ⟨u, r, ?_⟩
    rcases q with q | ⟨k, c, e, z⟩
    · exact .inl q
    · exact .inr ⟨k, c, e, cell z⟩
  · obtain ⟨v, z⟩ := I.cell x c hc
    exact ⟨v, cell z⟩
  · obtain ⟨_, q2, q3, q4, q5⟩ := I.pin p hpp
    exact ⟨F'.stays _ _ (hp p hpp), q2, q3, q4, q5⟩
/-- a call by itself, its exception kept -/
theorem callX {k j : Nat} {x : Str} {ps : List Str} {sp : Sp} {p pos : Pos} {e : Expr} {es : List Expr} {t : TA} (F : Def X.prog X.w X.K X.mg X.base (CXR X.prog X.w) k x ps sp) (hr : Room j X.A) (ha : PA X.nox (e :: es) t) (hk : k ≤ j := by decide) (hg : Gl X x := by rfl)
    (hdb : (x == ("__debug__" : Str)) = false := by decide) (he : starEach (e :: es) X.env = (false, eval e X.env) :: starEach es X.env := by rfl) (hpl : (backTo pos (starEach es X.env)).any (·.1) = false := by rfl)
    {Q : VK} {EX : XK} (I : Inv X pins σ H s) (h : t σ H fun vs H1 => sp vs H1 Q EX) : wpAny (model X.prog X.w) X.A (eval (.Call (.Name x p) (e :: es) [] pos) X.env) (EP X pins σ Q) (ExcP X pins σ EX) s := by
  obtain ⟨f, fd, F1, F2, F3, F4⟩ := F.ex
  refine wpAny_Call_Name_kw (ld_glob I hg F2 ?_ hdb)
  have hA := ha pos pins s σ H _ (I.wish _) h
  refine PySem.W.callWith_K (h₀ := X.base) I.ok.mod.kin F3 (wpAny_mono hA (fun us s1 h1 => ?_) fun _ _ z => z.elim) he hpl
  obtain ⟨vs, H1, I1, r, q⟩ := h1
  have I1 : Inv X pins σ H1 s1 := I1.unwish
  refine ⟨I1.kIn, ?_⟩
  have hl : us.length = ps.length := by rw [← r.length]; exact F1.len _ _ _ _ q
  have hb := F4 s1 us I1.kIn (by rw [List.append_nil]; exact hl)
  rw [List.append_nil] at hb
  refine wpAny_call (codeAny_mono (F1.run X.A X.stack s1 H1 ⟨us, []⟩ us vs Q EX (hr.mono hk) I1.env0 hb r q) fun r s' hq => ?_)
  cases r with
  | error e => exact excP_of I1 hq
  | ok fl =>
    cases fl with
    | ret u => exact I1.after hq
    | next => exact False.elim hq
    | brk => exact False.elim hq
    | cont => exact False.elim hq
def qxCall (sp : Sp) (t : TA) : XK → TS := fun EX D σ H => t σ H fun vs H1 => sp vs H1 (fun _ H2 => D.nx σ H2) EX
theorem psxCall {k j : Nat} {x : Str} {ps : List Str} {sp : Sp} {p pos spos : Pos} {e : Expr} {es : List Expr} {t : TA} (F : Def X.prog X.w X.K X.mg X.base (CXR X.prog X.w) k x ps sp) (hr : Room j X.A) (ha : PA X.nox (e :: es) t) (hk : k ≤ j := by decide) (hg : Gl X x := by rfl)
    (hdb : (x == ("__debug__" : Str)) = false := by decide) (he : starEach (e :: es) X.env = (false, eval e X.env) :: starEach es X.env := by rfl) (hpl : (backTo pos (starEach es X.env)).any (·.1) = false := by rfl)
    (hs : swapsWith (.Call (.Name x p) (e :: es) [] pos) none spos.line X.env = pure false := by rfl) : PSX X (.Expr (.Call (.Name x p) (e :: es) [] pos) spos) (qxCall sp t) := by
  intro pins s σ H D EX I h
  exact wpAny_Expr_any (wpAny_mono (callX F hr ha hk hg hdb he hpl I h) (fun v s1 ⟨x, H1, I1, r1, q1⟩ => ⟨σ, H1, I1, q1⟩) fun _ _ z => z) I.quiet hs
def qxIf (c : TT) (t u : XK → TS) : XK → TS := fun EX D σ H => c σ H fun b H1 => br b (t EX D σ H1) (u EX D σ H1)
theorem psxIf {c : Expr} {a b : List Stmt} {tc : TT} {t u : XK → TS} {pos : Pos} (hc : PT X.nox c tc) (ha : PSXs X a t) (hb : PSXs X b u) : PSX X (.If c a b pos) (qxIf tc t u) := by
  intro pins s σ H D EX I h
  refine wpAny_If (wpAny_mono (hc pins s σ H _ (I.wish _) h) (fun d s1 ⟨H1, I1, q1⟩ => ?_) fun _ _ z => z.elim)
  have I1 : Inv X pins σ H1 s1 := I1.unwish
  have q1 : br d (t EX D σ H1) (u EX D σ H1) := q1
  rw [br_iff] at q1
  cases d with
  | true => exact ha pins s1 σ H1 D EX I1 (by simpa using q1)
  | false => exact hb pins s1 σ H1 D EX I1 (by simpa using q1)
theorem psxOne {st : Stmt} {t : XK → TS} (h : PSX X st t) : PSXs X [st] t := by
  intro pins s σ H D EX I hq
  refine wpAny_execs_cons (wpAny_mono (h pins s σ H D EX I hq) (fun f s1 q => ?_) fun _ _ z => z)
  cases f with
  | next => exact wpAny_execs_nil q
  | brk => exact q
  | cont => exact q
  | ret u => exact q
/-! the exception is caught: it is tracked from here on -/
theorem ObjOk.ex {P : Program} {w : World} {H : Hp} {h : Heap} {a : Addr} {o : HO} (x : ObjOk P w H h a o) : ∃ u, h.get? a = some u := by
  cases o with
  | lst xs => obtain ⟨_, _, _, _, e⟩ := x; exact ⟨_, e⟩
  | tup xs => obtain ⟨_, _, _, ob, e, _⟩ := x; exact ⟨ob, e⟩
  | dK kvs => obtain ⟨_, _, _, _, ob, _, _, e, _⟩ := x; exact ⟨ob, e⟩
  | dT kvs => obtain ⟨_, _, _, _, ob, _, _, e, _⟩ := x; exact ⟨ob, e⟩
  | set S n => obtain ⟨ob, _, _, _, e, _⟩ := x; exact ⟨ob, e⟩
  | ins C dx fs => obtain ⟨_, _, _, e, _⟩ := x; exact ⟨_, e⟩
  | own y => exact x
  | xd fs => obtain ⟨_, ⟨ob, _, _, e, _⟩, _⟩ := x; exact ⟨ob, e⟩
  | rng lo hi => obtain ⟨_, _, _, e⟩ := x; exact ⟨_, e⟩
  | frz ob u => obtain ⟨e, _⟩ := x; exact ⟨_, e⟩
  | tbl ps => exact ⟨_, (show h.get? a = some _ from x)⟩
  | met f y => exact ⟨_, (show h.get? a = some _ from x)⟩
  | ext φ => obtain ⟨_, e, _⟩ := x; exact e
theorem FlyIn.track {B : Heap} {ea : Addr} {cls : Value} {dx : Option Addr} (F : FlyIn X pins σ H B ea cls dx s) (hp : ∀ p ∈ X.pn ++ pins, B.get? p.1 = some p.2) (hex : X.ex = []) :
    H ea = none ∧ Inv X pins σ (upd H ea (excO ea cls dx)) s := by
  have I := F.inv
  obtain ⟨oe, vs, he, hc, hdx, hd, _⟩ := F.fly.ex
  have hn : H ea = none := by
    cases q : H ea with
    | none => rfl
    | some o =>
      obtain ⟨u, z⟩ := ObjOk.ex (F.hok ea o q)
      rw [F.fly.new] at z
      cases z
  have nl : ∀ {b : Addr} {o : Obj}, s.heap.get? b = some o → (∀ vs, o.data ≠ .fields vs) → b ≠ ea := fun hb hnf z => by
    rw [z, he] at hb
    cases hb
    exact hnf vs hd
  have n0 : ∀ {b : Addr} {o : Obj}, X.s₀.heap.get? b = some o → b ≠ ea := fun hb z => by
    have := F.en _ (z ▸ hb)
    rw [hex] at this
    cases this
  refine ⟨hn, I.ok, I.os, I.bare, ⟨I.base.keep, I.base.slot, fun b o e n h1 => ?_, I.base.there, fun b xs q => ?_, fun b o u q => ?_, fun b ps q => ?_⟩, I.loc, I.cell, ?_, fun x c hcl => ?_, fun p hpp => ?_, fun b o q => ?_, I.len⟩
  · rw [upd_ne (n0 e)]; exact I.base.free b o e n h1
  · have z := I.base.tups b xs q
    rw [upd_ne (ne_of_none z hn)]; exact z
  · have z := I.base.frzs b o u q
    rw [upd_ne (ne_of_none z hn)]; exact z
  · obtain ⟨more, z⟩ := I.base.tbls b ps q
    exact ⟨more, by rw [upd_ne (ne_of_none z hn)]; exact z⟩
  · obtain ⟨m, ⟨o, es, ep, ho, hdd, _⟩, _⟩ := I.loc
    rw [upd_ne (nl ho fun vs q => by rw [hdd] at q; cases q)]; exact I.free
  · obtain ⟨v, o, ho, hdd⟩ := I.cell x c hcl
    rw [upd_ne (nl ho fun vs q => by rw [hdd] at q; cases q)]; exact I.freeC x c hcl
  · obtain ⟨q1, q2, q3, q4, q5⟩ := I.pin p hpp
    refine ⟨q1, ?_, q3, q4, q5⟩
    rw [upd_ne fun z => ?_]
    · exact q2
    · have := hp p hpp
      rw [z, F.fly.new] at this
      cases this
  · by_cases hb : b = ea
    · subst hb
      rw [upd_same] at q
      cases q
      refine ⟨⟨oe, vs, he, hc, hdx, hd⟩, ⟨oe, he⟩, fun h1 h2 x k => ?_⟩
      obtain ⟨o1, v1, e1, r⟩ := x
      exact ⟨o1, v1, k _ e1, r⟩
    · rw [upd_ne hb] at q
      refine (I.hok b o q).stay (fun _ _ _ z => z) (fun c z => ?_) fun c xs z => ?_
      · rw [upd_ne (ne_of_none z hn)]; exact z
      · rw [upd_ne (ne_of_none z hn)]; exact z
/-- a name is unbound -/
theorem unbind_ok {M : Model} {A : Around} {E : Value → Shared → Prop} {i : Nat} {n : Str} {v : V} {Q : Unit → Shared → Prop} (I : Inv X pins σ H s) (hN : X.N.Nodup) (hi : X.N[i]? = some n) (hl : X.env.kindOf n = some .local) (hv : σ[i]? = some (some v))
    (h : ∀ s', Inv X pins (σ.set i none) H s' → Q () s') : wpAny M A (unbindName X.env n) Q E s := by
  obtain ⟨m, hn, hlk⟩ := id I.loc
  have hcls : (X.env.scope.kind == .class || (X.env.scope.kind == .module && X.env.locals != X.env.globals)) = false := by rw [I.ok.kind]; rfl
  obtain ⟨u, _, q⟩ := hlk i n v hi hv (.inl hl)
  have hm : m n = some u := by
    rcases q with q | ⟨k, _⟩
    · exact q.2
    · rw [hl] at k
      rcases k with k | k <;> cases k
  refine wpAny_unbindName_local hl hn hm hcls fun h' u' hn' hs => h _ ?_
  obtain ⟨oL, _, _, hoL, _⟩ := id hn
  have below : ∀ {b : Addr} {o : Obj}, X.s₀.heap.get? b = some o → b ≠ X.env.locals := fun e => Nat.ne_of_lt (Nat.lt_of_lt_of_le (Heap.lt_size e) I.ok.above)
  refine ⟨I.ok, I.os, I.bare, ⟨fun b o e n hb hx => (hs.2 b (below e)).trans (I.base.keep b o e n hb hx), fun b o e n hb hx => ?_, I.base.free, fun b o e hx => ?_, I.base.tups, I.base.frzs, I.base.tbls⟩, ⟨_, hn', fun j y v' e1 e2 e3 => ?_⟩, fun y c e => ?_, I.free, I.freeC, fun p hp => ?_, fun b ob e => ?_, by rw [List.length_set]; exact I.len⟩
  · obtain ⟨sl, z⟩ := I.base.slot b o e n hb hx
    exact ⟨sl, (hs.2 b (below e)).trans z⟩
  · obtain ⟨o', z⟩ := I.base.there b o e hx
    exact ⟨o', (hs.2 b (below e)).trans z⟩
  · by_cases hj : j = i
    · subst hj
      rw [List.getElem?_set_self (by rw [I.len]; exact (List.getElem?_eq_some_iff.mp hi).1)] at e2
      cases e2
    · rw [List.getElem?_set_ne (Ne.symm hj)] at e2
      obtain ⟨w', r', q⟩ := hlk j y v' e1 e2 e3
      refine ⟨w', r', ?_⟩
      rcases q with ⟨k, z⟩ | ⟨k, c, z, zz⟩
      · refine .inl ⟨k, ?_⟩
        have : y ≠ n := fun z => hj (nodup_ix hN e1 (z ▸ hi))
        show (if y = n then u' else m y) = _
        rw [if_neg this]; exact z
      · exact .inr ⟨k, c, z, zz.sameBut hs (I.cne y c z)⟩
  · obtain ⟨w', z⟩ := I.cell y c e
    exact ⟨w', z.sameBut hs (I.cne y c e)⟩
  · obtain ⟨e, n, ne, nf, d⟩ := I.pin p hp
    exact ⟨(hs.2 p.1 ne).trans e, n, ne, nf, d⟩
  · refine (I.hok b ob e).stay (fun c w' hc q => (hs.2 c ?_).trans q) (fun _ q => q) fun _ _ q => q
    rintro rfl
    rcases hc with z | hc
    · rw [← z, I.free] at e; cases e
    · rw [I.free] at hc; cases hc
/-- within an except suite -/
def marked (X : Cx) (e : Value) : Cx := { X with A := X.A.mark (some e), calm := false, xe := fun _ _ => False }
theorem Inv.mark (I : Inv X pins σ H s) (e : Value) : Inv (marked X e) pins σ H s :=
  ⟨⟨I.ok.mod, I.ok.kind, I.ok.glob, I.ok.blt, I.ok.above, I.ok.inj, I.ok.has, I.ok.cab, (fun z => absurd (show false = true from z) Bool.false_ne_true), I.ok.frames, I.ok.stk, I.ok.exf, I.ok.bs, I.ok.bsz, I.ok.noex, I.ok.exfs, I.ok.funs, I.ok.frf⟩, I.os, I.bare, I.base, I.loc, I.cell, I.free, I.freeC, I.pin, I.hok, I.len⟩
theorem Inv.unmark {e : Value} (I0 : Inv X pins σ H s) {σ' : St} {H' : Hp} {s' : Shared} (I : Inv (marked X e) pins σ' H' s') : Inv X pins σ' H' s' :=
  ⟨I0.ok, I.os, I.bare, I.base, I.loc, I.cell, I.free, I.freeC, I.pin, I.hok, I.len⟩
@[irreducible] def xCatch (K : PySem.W.Frag) (CH : Addr) (D : Ends) (σ : St) (ke ky : Nat) (cls : Value) (dx : Option Addr) (H' : Hp) : Prop := PySem.W.exmOne K cls (.ref CH) = some true ∧
  ∀ ea H'', H' ea = none → Same H' H'' → H'' ea = some (excO ea cls dx) → D.nx ((σ.set ke none).set ky (some (.ref ea))) H''
def qTry (K : PySem.W.Frag) (CH : Addr) (t : XK → TS) (ke ky : Nat) : TS := fun D σ H => t (fun cls dx H' => xCatch K CH D σ ke ky cls dx H') D σ H
theorem psTry {K : PySem.W.Frag} {body : List Stmt} {t : XK → TS} {hx n y : Str} {CH : Addr} {ke ky : Nat} {np p1 p2 p3 hpos pos : Pos} (hK : X.K = K) (hN : X.N.Nodup) (hcl : X.mg hx = some (.ref CH)) (hb : PSXs X body t)
    (hke : X.N[ke]? = some n := by rfl) (hky : X.N[ky]? = some y := by rfl) (hkk : ke ≠ ky := by decide) (hln : X.env.kindOf n = some .local := by rfl) (hly : X.env.kindOf y = some .local := by rfl) (hgl : Gl X hx := by rfl) (hdb : (hx == ("__debug__" : Str)) = false := by decide)
    (hnd : (n == ("__debug__" : Str)) = false := by decide) (hnc : (n == ("__classdict__" : Str)) = false := by decide)
    (hstk : X.stack = X.env :: X.outer := by rfl) (hfr : X.env.frame = some X.env.locals := by rfl) (hex : X.ex = [] := by rfl) (hs : swapsWith (.Name n p2) (some (.Name y p1)) p3.line X.env = pure false := by rfl) :
    PS X (.Try body [.ExceptHandler (some (.Name hx np)) (some n) [.Assign [.Name y p1] (.Name n p2) p3] hpos] [] [] pos) (qTry K CH t ke ky) := by
  subst hK
  intro pins s σ H D I h
  rw [arm_exec_Try]
  refine wpAny_bind (wpAny_standAt (wpAny_tryStmt_except (wpAny_mono (hb pins s σ H D _ I h) (fun f s1 q => ?_) fun e s1 q => ?_)))
  · cases f with
    | next => exact wpAny_execs_nil q
    | brk => exact q
    | cont => exact q
    | ret u => exact q
  · obtain ⟨H1, B, ea, cls, dx, rfl, F, hp, q⟩ := q
    unfold xCatch at q
    obtain ⟨hm, q⟩ := q
    have I1 := F.inv
    refine note_fly (L := X.env.locals) (outer := X.outer) (by rw [← hstk]; exact I1.ok.frames) hfr (by rw [← hstk]; exact F.fly) fun h2 F2 U2 W2 => ?_
    rw [← hstk] at F2
    have F2 := F.move hp F2 U2 W2
    have I2 := F2.inv
    refine wpAny_handleBy_cons (codeAny_handlers_test ?_) (by intro z; cases z)
    refine ld_glob (X := marked X (.ref ea)) (I2.mark _) hgl hcl ?_ hdb
    have LT : PySem.W.Looks (model X.prog X.w) h2 (typeOf (.ref ea)) cls := by
      obtain ⟨oe, vs, he, hc, _⟩ := F2.fly.ex
      exact hc ▸ (PySem.W.Looks.ld he).andThen .now
    refine (PySem.W.exm_one I2.kIn LT hm).here ?_
    refine codeAny_handlers_suite_as ?_
    refine set_fly F2.fly fun h3 F3 U3 W3 => ?_
    have F3 := F2.move hp F3 U3 W3
    obtain ⟨hn, I3⟩ := F3.track hp hex
    have hlσ : ke < σ.length := by rw [I1.len]; exact (List.getElem?_eq_some_iff.mp hke).1
    refine store_ok I3 hN hke (.inl hln) (v := .ref ea) rfl (fun s4 I4 => ?_) (.inr hln)
    have pn : PS (marked X (.ref ea)) (.Assign [.Name y p1] (.Name n p2) p3) (tAsg (qV ke) (gName ky)) := ps_set (X := marked X (.ref ea)) hN hky (.inl hly) (pq (X := marked X (.ref ea)) ke hke (.inl hln) hnd hnc) hs (.inr hly)
    refine wpAny_mono (pss_one pn pins s4 _ _ { nx := fun σ' H' => σ' = (σ.set ke (some (.ref ea))).set ky (some (.ref ea)) ∧ H' = upd H1 ea (excO ea cls dx), rt := fun _ _ => False } (I4.mark (.ref ea)) ?_) (fun f s5 q5 => ?_) fun _ _ z => (show False from z).elim
    · show qV ke (σ.set ke (some (.ref ea))) _ _
      unfold qV
      rw [List.getElem?_set_self hlσ]
      exact ⟨rfl, rfl⟩
    · cases f with
      | next =>
        obtain ⟨σ5, H5, I5, rfl, rfl⟩ := q5
        have I5 := Inv.unmark I1 I5
        refine wpAny_bind (wpAny_bindName (store_ok I5 hN hke (.inl hln) (v := .non) rfl (fun s6 I6 => ?_) (.inr hln)))
        refine wpAny_onRaise (unbind_ok (v := .non) I6 hN hke hln (by rw [List.getElem?_set_self (by rw [List.length_set, List.length_set]; exact hlσ)]) fun s7 I7 => ?_)
        refine ⟨_, _, I7, ?_⟩
        rw [List.set_set, List.set_comm _ _ (Ne.symm hkk), List.set_set]
        exact q ea _ hn (Same.upd hn) upd_same
      | brk => obtain ⟨_, _, _, z⟩ := q5; exact False.elim z
      | cont => obtain ⟨_, _, _, z⟩ := q5; exact False.elim z
      | ret u => obtain ⟨_, _, _, _, _, z⟩ := q5; exact False.elim z
end
end L2

set_option Elab.async false
set_option linter.all false
set_option maxRecDepth 100000
set_option maxHeartbeats 4000000
namespace L2
open PySem PySem.Spec PyProof.Rows
/-! ### what the written part says of the classes -/
section
open PySem.W
theorem own_of_K {K : Frag} {h : Heap} {mg : Str → Option Value} {x : Str} {C : Addr} {bmB : List Value} {newId : String} (X : K.In h) (G : h.Ns mainGlobals mg) (e : nsIn K mainGlobals x = some (some (.ref C))) (q : excIn K C bmB newId = true) : OwnCls x C bmB newId mg h := by
  have bd := mg_of X G e
  unfold excIn at q
  split at q
  case h_2 => cases q
  rename_i dd cd sl ho
  split at q
  case h_2 => cases q
  rename_i C1 bm k0 k1 k2 k3 n k5 hm hs
  simp only [Bool.and_eq_true, beq_iff_eq, Bool.not_eq_true'] at q
  obtain ⟨⟨⟨⟨⟨q1, q2⟩, q3⟩, q4⟩, q5⟩, q6⟩ := q
  have z : sl = #[k0, k1, k2, k3, some (.builtin n), k5] := by
    cases sl with
    | mk l => rw [show l = [k0, k1, k2, k3, some (.builtin n), k5] from hs]
  cases cd with
  | mk nm bs mro ns qn hd sn sub ab col del =>
    have hm : mro = .ref C1 :: bm := hm
    have q3 : del = false := q3
    subst q1 q2 z hm q3
    exact ⟨bd, bm, ns, nm, qn, bs, hd, sn, sub, ab, col, dd, k0, k1, k2, k3, k5, _, X _ _ ho, .of_isNs (isNs_of_in X q5), nsMap_none_of_in X q5 q6, tail_of_in X q4⟩
theorem kitCls_ref {K : Frag} {t : Value} {C : Addr} {cd : ClassData} {b : Bool} (h1 : clsIn K C = some cd) (h2 : typeIn K (.ref C) = some (.type "type")) (h3 : subIn K t (.ref C) = some b) : kitCls K t (.ref C) = some b := by
  unfold kitCls
  dsimp only
  rw [h1, h2, if_pos (by simp)]
  exact h3
theorem kit_ref {K : Frag} {t : Value} {C : Addr} {cd : ClassData} {b : Bool} (h1 : clsIn K C = some cd) (h2 : typeIn K (.ref C) = some (.type "type")) (h3 : subIn K t (.ref C) = some b) (h4 : subIn K t t = some true) : kitOne K t (.ref C) = some b := by
  unfold kitOne
  split
  · rename_i z
    have z : t = .ref C := by simpa using z
    subst z
    rw [h3] at h4
    exact h4.symm
  · exact kitCls_ref h1 h2 h3
theorem kit_none {K : Frag} {C : Addr} {cd : ClassData} {b : Bool} (h1 : clsIn K C = some cd) (h2 : typeIn K (.ref C) = some (.type "type")) (h3 : subIn K (.type "NoneType") (.ref C) = some b) : kitOne K (.type "NoneType") (.ref C) = some b := by
  unfold kitOne
  rw [if_neg (by simp)]
  exact kitCls_ref h1 h2 h3
theorem kit_ValueError {K : Frag} {D : Addr} {b : Bool} (h : subIn K (.ref D) (.type "ValueError") = some b) : kitOne K (.ref D) (.type "ValueError") = some b := by
  unfold kitOne kitCls
  rw [if_neg (by simp)]
  dsimp only
  rw [if_pos (by decide +kernel)]
  exact h
theorem exm_ref {K : Frag} {t : Value} {C : Addr} {cd : ClassData} {b : Bool} (h0 : subIn K (.ref C) (.type "BaseException") = some true) (h1 : clsIn K C = some cd) (h2 : typeIn K (.ref C) = some (.type "type")) (h3 : subIn K t (.ref C) = some b) : exmOne K t (.ref C) = some b := by
  unfold exmOne
  rw [if_pos (by rw [h0]; simp)]
  exact kitCls_ref h1 h2 h3
end
/-- what a caught exception is -/
theorem catch_rd {K : PySem.W.Frag} {CH : Addr} {D : Ends} {σ : St} {ke ky : Nat} {cls : Value} {dx : Option Addr} {H' : Hp} (h1 : PySem.W.exmOne K cls (.ref CH) = some true) (h2 : ∀ ea H'', H' ea = none → Same H' H'' → H'' ea = some (excO ea cls dx) → D.nx ((σ.set ke none).set ky (some (.ref ea))) H'') : xCatch K CH D σ ke ky cls dx H' := by
  unfold xCatch; exact ⟨h1, h2⟩
abbrev bmV : List Value := [.type "ValueError", .type "Exception", .type "BaseException", .type "object"]
abbrev newV : String := "ValueError.__new__"
/-! ### list.index of flat things -/
section
variable {X : Cx} {K : PySem.W.Frag}
end
/-! ### the same words, closed: a row of literals alone would be run while its term is read -/
section
variable {X : Cx} {st : Stmt} {rest : List Stmt} {t u : TS} {e : Expr} {es : List Expr} {te : TE} {ta : TA}
@[irreducible] def PSsI (X : Cx) (st : List Stmt) (t : TS) : Prop := PSs X st t
@[irreducible] def PSI (X : Cx) (st : Stmt) (t : TS) : Prop := PS X st t
@[irreducible] def PEI (X : Cx) (e : Expr) (t : TE) : Prop := PE X e t
@[irreducible] def PAI (X : Cx) (es : List Expr) (t : TA) : Prop := PA X es t
theorem psOf (h : PS X st t) : PSI X st t := by unfold PSI; exact h
theorem pssTo {st : List Stmt} (h : PSsI X st t) : PSs X st t := by unfold PSsI at h; exact h
theorem pssI_cons (h1 : PSI X st t) (h2 : PSsI X rest u) : PSsI X (st :: rest) (tSeq t u) := by unfold PSsI PSI at *; exact pss_cons h1 h2
theorem pssI_one (h1 : PSI X st t) : PSsI X [st] t := by unfold PSsI PSI at *; exact pss_one h1
theorem pssI_nil : PSsI X [] tNext := by unfold PSsI; exact pss_nil
theorem psIS {i : Nat} {x : Str} {pos' pos : Pos} (hN : X.N.Nodup) (he : PEI X e te) (hi : X.N[i]? = some x := by rfl) (hx : Loc X.env.scope x := by first | exact Or.inl rfl | exact Or.inr rfl) (hs : swapsWith e (some (.Name x pos')) pos.line X.env = pure false := by rfl) (hf : X.fn x = true ∨ X.env.scope.names.lookup x = some .local := by first | exact .inl rfl | exact .inr rfl | assumption) :
    PSI X (.Assign [.Name x pos'] e pos) (tAsg te (gName i)) := by unfold PSI PEI at *; exact ps_set hN hi hx he hs hf
theorem peILst {pos : Pos} (h : PAI X es ta) : PEI X (.List es pos) (qLst ta) := by unfold PEI PAI at *; exact peLst h
theorem peI_str {x j pos} : PEI X (.Constant (.str x) j pos) (tC (.str x)) := by unfold PEI; exact pe_str
theorem paI_nil : PAI X [] tNil := by unfold PAI; exact pa_nil
theorem paI_cons (ha : PEI X e te) (hr : PAI X es ta) (hs : starEach (e :: es) X.env = (false, eval e X.env) :: starEach es X.env := by rfl) : PAI X (e :: es) (tCons te ta) := by unfold PEI PAI at *; exact pa_cons ha hr hs
end
end L2

set_option Elab.async false
set_option linter.all false
set_option maxRecDepth 100000
set_option maxHeartbeats 1000000
namespace L2
open PySem PySem.Spec PyProof.Rows
/-! ### sorted(e, reverse = True), of ints -/
section
variable {X : Cx} {K : PySem.W.Frag}
end
end L2

set_option Elab.async false
set_option linter.all false
set_option maxRecDepth 100000
set_option maxHeartbeats 2000000
namespace L2
open PySem PySem.Spec PyProof.Rows
/-! ### zip over two lists -/
def Itz (K : PySem.W.Frag) (a b : Addr) : It :=
  ⟨fun i H => ∃ xs ys x y, SqL K H a xs ∧ SqL K H b ys ∧ xs[i]? = some x ∧ ys[i]? = some y,
   fun i H v H' => ∃ p x y, v = .ref p ∧ H p = none ∧ Same H H' ∧ H' p = some (.tup [x, y]) ∧ (∀ xs, SqL K H a xs → xs[i]? = some x) ∧ ∀ ys, SqL K H b ys → ys[i]? = some y,
   fun i H => ∃ xs ys, SqL K H a xs ∧ SqL K H b ys ∧ (xs.length ≤ i ∨ ys.length ≤ i)⟩
theorem turn_zip {P : Program} {w : World} {K : PySem.W.Frag} {elts : List Expr} {k : Nat} {pos : Pos} (l1 l2 z TI TO i1 i2 : Addr) (D : ZipApart z TI TO i1 i2 l1 l2) :
    Turn P w K (.Tuple elts k pos) (Itz K l1 l2) [z, TI, TO, i1, i2] z (fun i h => IsZip h z TI TO .none ∧ IsPair h TI (.ref i1) (.ref i2) ∧ (∃ a b, IsPair h TO a b) ∧ h.IsListIter i1 l1 i ∧ h.IsListIter i2 l2 i) where
  mem := by simp
  obj := fun i h st b hb => by
    obtain ⟨hz, hTI, ⟨a, b', hTO⟩, ⟨o1, e1, c1, d1⟩, ⟨o2, e2, c2, d2⟩⟩ := st
    simp only [List.mem_cons, List.not_mem_nil, or_false] at hb
    rcases hb with rfl | rfl | rfl | rfl | rfl
    · exact ⟨_, hz, fun v z => by cases z⟩
    · exact ⟨_, hTI, fun v z => by cases z⟩
    · exact ⟨_, hTO, fun v z => by cases z⟩
    · exact ⟨o1, e1, fun v z => by rw [d1] at z; cases z⟩
    · exact ⟨o2, e2, fun v z => by rw [d2] at z; cases z⟩
  keep := fun i h h' st kp => by
    obtain ⟨hz, hTI, ⟨a, b', hTO⟩, h1, h2⟩ := st
    exact ⟨kp z (by simp) _ hz, kp TI (by simp) _ hTI, ⟨a, b', kp TO (by simp) _ hTO⟩, h1.at fun o x => kp i1 (by simp) o x, h2.at fun o x => kp i2 (by simp) o x⟩
  item := by
    intro X hP hw hK hc i pins s σ H E I hf st hg
    subst hP hw hK
    obtain ⟨hz, hTI, ⟨a0, b0, hTO⟩, h1, h2⟩ := st
    obtain ⟨xs, ys, x, y, hq1, hq2, hx, hy⟩ := hg
    obtain ⟨its1, rv1, p1, _⟩ := I.list hq1
    obtain ⟨its2, rv2, p2, _⟩ := I.list hq2
    obtain ⟨u, hu, ru⟩ := rv1.get hx
    obtain ⟨v, hv, rv⟩ := rv2.get hy
    have hzl : z < s.heap.objs.size := Heap.lt_size hz
    refine wpAny_pyNext_zip_item D hz hTI hTO h1 h2 p1.isList p2.isList (x := u) (y := v) (by simpa using hu) (by simpa using hv) fun h3 z3 TO3 j1 j2 T3 sz3 kp3 => ?_
    refine ⟨_, rfl, wpAny_letOwnedTupleGo_zip z3 fun h4 z4 hs4 => ?_⟩
    replace hs4 : Heap.SameBut z h3 h4 := hs4
    have kp : ∀ b o, b ∉ [z, TI, TO, i1, i2] → s.heap.get? b = some o → h4.get? b = some o := fun b o hb x => by
      simp only [List.mem_cons, List.not_mem_nil, or_false, not_or] at hb
      obtain ⟨b1, b2, b3, b4, b5⟩ := hb
      exact (hs4.2 b b1).trans (kp3 b o b1 b3 b4 b5 x)
    have ht4 : h4.get? s.heap.objs.size = some { cls := .type "tuple", data := .seq #[u, v] } := (hs4.2 _ (Nat.ne_of_gt hzl)).trans T3
    have hfr : H s.heap.objs.size = none := I.fresh
    have nof : ∀ b v, H b = some v → b ∉ [z, TI, TO, i1, i2] := fun b v hb m => by
      have := (hf b m).1
      rw [this] at hb
      cases hb
    have nlt : ∀ b o, s.heap.get? b = some o → b ≠ s.heap.objs.size := fun b o x => Nat.ne_of_lt (Heap.lt_size x)
    have hok : HOk X.prog X.w (upd H s.heap.objs.size (.tup [x, y])) h4 := fun b v' hb => by
      by_cases e1 : b = s.heap.objs.size
      · subst e1
        rw [upd_same] at hb
        cases hb
        exact ⟨by show 2 ≤ sizeLine; decide, [u, v], .cons ru (.cons rv .nil), ⟨_, ht4, rfl, _, rfl⟩⟩
      · rw [upd_ne e1] at hb
        refine (I.hok b v' hb).stay (fun c w' hc q => ?_) (fun c q => ?_) (fun c ys q => ?_)
        · rcases hc with rfl | hc
          · exact kp _ _ (nof _ _ hb) q
          · exact kp _ _ (nof _ _ hc) q
        · rw [upd_ne (ne_of_none q hfr)]; exact q
        · rw [upd_ne (ne_of_none q hfr)]; exact q
    have chs : ∀ b ∈ [z, TI, TO, i1, i2], (b ∈ X.ex ∨ X.s₀.heap.objs.size ≤ b) ∧ b ≠ X.env.locals ∧ (∀ x c, X.env.cells.lookup x = some c → c ≠ b) ∧ ∀ p ∈ X.pn ++ pins, p.1 ≠ b := fun b hb => by
      obtain ⟨f0, f1, f2, f3, f4, f5⟩ := hf b hb
      exact ⟨f3, f1, f4, f5⟩
    have I2 : Inv X pins σ (upd H s.heap.objs.size (.tup [x, y])) { s with heap := h4 } :=
      I.step (g' := s.gens) (d' := s.drawn) (t' := s.toks) (ch := [z, TI, TO, i1, i2]) chs (fun b o _ _ hb x _ => kp b o hb x) (fun b o _ _ hb x _ => ⟨o.slots, kp b o hb x⟩)
        (fun b o _ x n => by rw [upd_ne (nlt b o x)]; exact n) (fun b o hb x => ⟨o, kp b o hb x⟩) (fun b ys q => by rw [upd_ne (ne_of_none q hfr)]; exact q) (fun b o v q => by rw [upd_ne (ne_of_none q hfr)]; exact q)
        (fun b ps q => ⟨#[], by rw [upd_ne (ne_of_none q hfr), q]; simp⟩)
        (fun m hm => by
          obtain ⟨o, es, ep, ho, r⟩ := hm
          exact ⟨o, es, ep, kp _ o (fun m => (chs _ m).2.1 rfl) ho, r⟩) hok I.bare
    refine ⟨.ref s.heap.objs.size, _, I2, rfl, ⟨_, x, y, rfl, hfr, Same.upd hfr, upd_same, fun ys hy' => by rw [I.list_inj hy' hq1]; exact hx, fun ys hy' => by rw [I.list_inj hy' hq2]; exact hy⟩, ⟨z4, ?_, ⟨u, v, ?_⟩, ?_, ?_⟩, fun b hb => ?_⟩
    · exact (hs4.2 _ D.TIz).trans (kp3 _ _ D.TIz D.TITO D.TIi1 D.TIi2 hTI)
    · exact (hs4.2 _ D.TOz).trans TO3
    · exact j1.extBut hs4.extBut D.i1z
    · exact j2.extBut hs4.extBut D.i2z
    · have hb0 : H b = none := (hf b hb).1
      have hlt : b ≠ s.heap.objs.size := by
        simp only [List.mem_cons, List.not_mem_nil, or_false] at hb
        rcases hb with rfl | rfl | rfl | rfl | rfl
        · exact nlt _ _ hz
        · exact nlt _ _ hTI
        · exact nlt _ _ hTO
        · obtain ⟨o, ho, _⟩ := h1; exact nlt _ _ ho
        · obtain ⟨o, ho, _⟩ := h2; exact nlt _ _ ho
      rw [upd_ne hlt]; exact hb0
  done := by
    intro X hP hw hK hc i pins s σ H E I hf st hg
    subst hP hw hK
    obtain ⟨hz, hTI, ⟨a0, b0, hTO⟩, h1, h2⟩ := st
    obtain ⟨xs, ys, hq1, hq2, hx⟩ := hg
    obtain ⟨its1, rv1, p1, _⟩ := I.list hq1
    obtain ⟨its2, rv2, p2, _⟩ := I.list hq2
    have hl1 := rv1.length
    have hl2 := rv2.length
    have nof : ∀ b v, H b = some v → b ∉ [z, TI, TO, i1, i2] := fun b v hb m => by
      have := (hf b m).1
      rw [this] at hb
      cases hb
    have chs : ∀ b ∈ [z, TI, TO, i1, i2], (b ∈ X.ex ∨ X.s₀.heap.objs.size ≤ b) ∧ b ≠ X.env.locals ∧ (∀ x c, X.env.cells.lookup x = some c → c ≠ b) ∧ ∀ p ∈ X.pn ++ pins, p.1 ≠ b := fun b hb => by
      obtain ⟨f0, f1, f2, f3, f4, f5⟩ := hf b hb
      exact ⟨f3, f1, f4, f5⟩
    refine wpAny_pyNext_zip_end (I.ok.hd hc) D hz hTI hTO h1 h2 p1.isList p2.isList ?_ fun h' kp3 => ⟨rfl, ?_⟩
    · rcases hx with hx | hx
      · exact .inl (by simp; omega)
      · exact .inr (by simp; omega)
    · have kp : ∀ b o, b ∉ [z, TI, TO, i1, i2] → s.heap.get? b = some o → h'.get? b = some o := fun b o hb x => by
        simp only [List.mem_cons, List.not_mem_nil, or_false, not_or] at hb
        obtain ⟨b1, b2, b3, b4, b5⟩ := hb
        exact kp3 b o b1 b3 b4 b5 x
      have hok : HOk X.prog X.w H h' := fun b v' hb => by
        refine (I.hok b v' hb).stay (fun c w' hc q => ?_) (fun c q => q) (fun c ys q => q)
        rcases hc with rfl | hc
        · exact kp _ _ (nof _ _ hb) q
        · exact kp _ _ (nof _ _ hc) q
      exact I.step (g' := s.gens) (d' := s.drawn) (t' := s.toks) (ch := [z, TI, TO, i1, i2]) chs (fun b o _ _ hb x _ => kp b o hb x) (fun b o _ _ hb x _ => ⟨o.slots, kp b o hb x⟩)
        (fun b o _ x n => n) (fun b o hb x => ⟨o, kp b o hb x⟩) (fun b ys q => q) (fun b o v q => q)
        (fun b ps q => ⟨#[], by rw [q]; simp⟩)
        (fun m hm => by
          obtain ⟨o, es, ep, ho, r⟩ := hm
          exact ⟨o, es, ep, kp _ o (fun m => (chs _ m).2.1 rfl) ho, r⟩) hok I.bare
  self := fun _ _ _ _ _ st h => wpAny_pyIter_zip st.1 h
section
variable {X : Cx} {K : PySem.W.Frag}
theorem bt_zip : bootBuiltins "zip" = some (.type "zip") := by decide +kernel
@[irreducible] def rZip (K : PySem.W.Frag) (a b : Addr) (H : Hp) (R : It → Hp → Prop) : Prop := (∃ xs, SqL K H a xs) ∧ (∃ ys, SqL K H b ys) ∧ R (Itz K a b) H
def qiZip (K : PySem.W.Frag) (ta : TA) : TI := fun σ H R => ta σ H fun vs H1 => match vs with
  | [.ref a, .ref b] => rZip K a b H1 R
  | _ => False
theorem piZipK {elts : List Expr} {k : Nat} {pt : Pos} {a b : Expr} {ta : TA} {p pos : Pos} (hK : X.K = K) (hm : X.mg "zip" = none) (ha : PA X [a, b] ta) (hg : Gl X "zip" := by rfl) (hs : starEach [a, b] X.env = (false, eval a X.env) :: starEach [b] X.env := by rfl)
    (hpl : (backTo pos (starEach [b] X.env)).any (·.1) = false := by rfl) :
    PI X (.Tuple elts k pt) (.Call (.Name "zip" p) [a, b] [] pos) (qiZip K ta) := by
  subst hK
  intro pins s σ H R I h
  refine Call_ (ld_blt I hg hm bt_zip (PyProof.Rows.callWith_type1 (thn (ha pos pins s σ H _ I h) fun us s1 ⟨vs, H1, I1, r1, q1⟩ => ?_) hs hpl))
  dsimp only at q1
  split at q1
  · rename_i l m
    unfold rZip at q1
    obtain ⟨⟨xs, hq1⟩, ⟨ys, hq2⟩, q⟩ := q1
    obtain ⟨u1, u2, rfl, rx, ry⟩ := vals2 r1
    cases rx
    cases ry
    obtain ⟨its1, rv1, p1, _⟩ := I1.list hq1
    obtain ⟨its2, rv2, p2, _⟩ := I1.list hq2
    have l1 : @LT.lt Nat _ l s1.heap.objs.size := by obtain ⟨o, ho, _⟩ := p1.isList; exact Heap.lt_size ho
    have l2 : @LT.lt Nat _ m s1.heap.objs.size := by obtain ⟨o, ho, _⟩ := p2.isList; exact Heap.lt_size ho
    refine call_zip_2 p1.isList p2.isList fun h' hz hTI hTO j1 j2 hsz hk => ?_
    refine wpAny_pyIter_zip hz ?_
    have I2 : Inv X pins σ H1 { s1 with heap := h' } := I1.kept (t' := s1.toks) hk
    have D : ZipApart (s1.heap.objs.size + 4) (s1.heap.objs.size + 2) (s1.heap.objs.size + 3) s1.heap.objs.size (s1.heap.objs.size + 1) l m := by
      constructor <;> (intro z; have z : (_ : Nat) = _ := z; omega)
    refine ⟨_, _, _, Itz X.K l m, H1, rfl, I2, turn_zip l m _ _ _ _ _ D, ⟨hz, hTI, ⟨_, _, hTO⟩, j1, j2⟩, fun b hb => ?_, q⟩
    have hb' : s1.heap.objs.size ≤ b := by
      simp only [List.mem_cons, List.not_mem_nil, or_false] at hb
      rcases hb with rfl | rfl | rfl | rfl | rfl
      · exact Nat.le_add_right _ _
      · exact Nat.le_add_right _ _
      · exact Nat.le_add_right _ _
      · exact Nat.le_refl _
      · exact Nat.le_add_right _ _
    exact I1.fpOk hb' (I1.hok.fresh hb')
  · exact q1.elim
end
section
variable {K : PySem.W.Frag} {g : TG} {tb : TS} {D : Ends} {σ : St} {H : Hp} {R : It → Hp → Prop}
theorem zip_rd {a b : Addr} {xs ys : List V} (h : SqL K H a xs) (h' : SqL K H b ys) (q : R (Itz K a b) H) : rZip K a b H R := by unfold rZip; exact ⟨⟨xs, h⟩, ⟨ys, h'⟩, q⟩
theorem Wk.zip {a b : Addr} {xs ys : List V} {n : Nat} {H1 : Hp} (h : SqL K H1 a xs) (h' : SqL K H1 b ys) (hx : xs.length = n) (hy : ys.length = n) : Wk (Itz K a b) n H1 fun i v H => ∃ p x y, v = .ref p ∧ H p = some (.tup [x, y]) ∧ xs[i]? = some x ∧ ys[i]? = some y :=
  ⟨fun i H s hi => ⟨xs, ys, xs[i], ys[i], s.seq h, s.seq h', by simp, by simp⟩, fun H s => ⟨xs, ys, s.seq h, s.seq h', .inl (Nat.le_of_eq hx)⟩, fun i H v H' s _ y => by
    obtain ⟨p, x, y, rfl, y1, y2, y3, y4, y5⟩ := y
    exact ⟨y2, p, x, y, rfl, y3, y4 xs (s.seq h), y5 ys (s.seq h')⟩⟩
end
end L2

set_option Elab.async false
set_option linter.all false
set_option maxRecDepth 100000
set_option maxHeartbeats 2000000
namespace L2
open PySem PySem.Spec PyProof.Rows
section
variable {X : Cx} {K : PySem.W.Frag}
/-! ### list(range(n)) -/
end
/-! ### comprehensions of things with new objects behind them -/
section
variable {J : It} {n : Nat} {H1 : Hp} {X : Nat → V → Hp → Prop} {g : TG} {tt : TT} {te : TE} {σ0 : St} {Q : VK}
theorem comp_A (w : Wk J n H1 X) (hn : n < sizeLine) (Pv : Addr → Nat → List V → St → Hp → Prop) (h0 : ∀ acc H, H1 acc = none → Same H1 H → H acc = some (.lst []) → Pv acc 0 [] σ0 H)
    (hP : ∀ acc i ys σ H H', Same H H' → Pv acc i ys σ H → Pv acc i ys σ H')
    (turn : ∀ acc i x ys σ H (R : St → V → Hp → Prop) (S : St → Hp → Prop), i < n → H1 acc = none → Same H1 H → H acc = some (.lst ys) → X i x H → Pv acc i ys σ H →
      (∀ σ2 v H5, Same H H5 → (∀ H6, Chg acc H5 H6 → Pv acc (i + 1) (ys ++ [v]) σ2 H6) → R σ2 v H5) → (∀ σ2 H5, Same H H5 → Pv acc (i + 1) ys σ2 H5 → S σ2 H5) →
      g x σ H fun σ2 H3 => tt σ2 H3 fun b H4 => br b (te σ2 H4 fun v H5 => R σ2 v H5) (S σ2 H4))
    (fin : ∀ acc ys σ H, H1 acc = none → Same H1 H → H acc = some (.lst ys) → Pv acc n ys σ H → Q (.ref acc) H) : compW J g tt te σ0 H1 Q := by
  unfold compW
  intro acc H2 hf hs ha
  refine ⟨fun i m ys σ H => m = n - i ∧ i ≤ n ∧ ys.length ≤ i ∧ Same H1 H ∧ H acc = some (.lst ys) ∧ Pv acc i ys σ H, ⟨n, by simp, Nat.zero_le _, Nat.le_refl _, hs, ha, h0 acc H2 hf hs ha⟩, ?_⟩
  rintro i m ys σ H ⟨rfl, hi, hl, s, hy, P⟩
  refine ⟨hy, by omega, ?_⟩
  by_cases hlt : i < n
  · refine .inr ⟨w.go i H s hlt, fun x H' y => ?_⟩
    obtain ⟨s1, x1⟩ := w.yld i H x H' s hlt y
    refine turn acc i x ys σ H' (fun σ2 v H5 => cPut _ acc ys i (n - i) σ2 v H5) (fun σ2 H4 => cSkip _ ys i (n - i) σ2 H4) hlt hf (s.trans s1) (s1 _ _ hy) x1 (hP _ _ _ _ _ _ s1 P) ?_ ?_
    · intro σ2 v H5 s5 q
      have s15 := s1.trans s5
      unfold cPut
      refine ⟨s15 _ _ hy, fun H6 c6 h6 => ⟨n - (i + 1), by omega, rfl, hlt, by rw [List.length_append]; simp; omega, (s.trans s15).chg hf c6, h6, q H6 c6⟩⟩
    · intro σ2 H5 s5 q
      have s15 := s1.trans s5
      unfold cSkip
      exact ⟨n - (i + 1), by omega, rfl, hlt, by omega, s.trans s15, s15 _ _ hy, q⟩
  · have e : i = n := by omega
    subst e
    exact .inl ⟨w.stop H s, fin acc ys σ H hf s hy P⟩
end
end L2

set_option Elab.async false
set_option linter.all false
set_option maxRecDepth 100000
set_option maxHeartbeats 2000000
/-! ### zip over three lists: iterators at n, n + 1, n + 2, what is walked at n + 3, what is told at n + 4, the zip at n + 5 -/
namespace PySem
open Sem (wp)
namespace F
end F
section
variable {prog : Program} {w : World} {A : Around} {E : Value → Shared → Prop} {s : Shared}
end
abbrev itO (l : Addr) : Obj := { cls := .type "list_iterator", data := .fields #[.ref l, .int 0 0] }
abbrev z3a (h : Heap) (l1 l2 l3 : Addr) : Heap := ((h.push (itO l1)).push (itO l2)).push (itO l3)
section
variable {prog : Program} {w : World} {A : Around} {E : Value → Shared → Prop} {s : Shared}
end
end PySem

set_option Elab.async false
set_option linter.all false
set_option maxRecDepth 100000
set_option maxHeartbeats 2000000
namespace L2
open PySem PySem.Spec PyProof.Rows
/-! ### zip over three lists of one length -/
section
variable {X : Cx} {K : PySem.W.Frag}
end
section
variable {K : PySem.W.Frag} {H : Hp} {R : It → Hp → Prop}
end
end L2

set_option Elab.async false
set_option linter.all false
set_option maxRecDepth 100000
set_option maxHeartbeats 2000000
namespace L2
open PySem PySem.Spec PyProof.Rows
/-! ### xs.pop() -/
section
variable {X : Cx} {K : PySem.W.Frag}
end
end L2

set_option Elab.async false
set_option linter.all false
set_option maxRecDepth 100000
set_option maxHeartbeats 2000000
namespace L2
open PySem PySem.Spec PyProof.Rows
/-! ### sorted(e), of ints -/
section
variable {X : Cx} {K : PySem.W.Frag}
end
end L2

set_option Elab.async false
set_option linter.all false
set_option maxRecDepth 100000
set_option maxHeartbeats 2000000
namespace L2
open PySem PySem.Spec PyProof.Rows
/-! ### tuple(e) of a list; tuples walked in a comprehension -/
section
variable {X : Cx} {K : PySem.W.Frag}
end
theorem Same.seqT {K : PySem.W.Frag} {H H' : Hp} {a : Addr} {xs : List V} (e : Same H H') (h : H a = some (.tup xs)) : SqT K H' a xs := SqT.of (e _ _ h)
theorem Wk.tup {K : PySem.W.Frag} {a : Addr} {xs : List V} {H1 : Hp} (h : H1 a = some (.tup xs)) : Wk (Itt K a) xs.length H1 fun i x _ => xs[i]? = some x :=
  ⟨fun i H s hi => ⟨xs, xs[i], Same.seqT s h, by simp [hi]⟩, fun H s => ⟨xs, Same.seqT s h, Nat.le_refl _⟩, fun i H x H' s _ y => by
    obtain ⟨e, y⟩ := y
    subst e
    exact ⟨Same.refl _, y xs (Same.seqT s h)⟩⟩
end L2

set_option Elab.async false
set_option linter.all false
set_option maxRecDepth 100000
set_option maxHeartbeats 4000000
namespace L2
open PySem PySem.Spec PyProof.Rows
/-! ### isinstance(x, (C, D)) -/
section
variable {X : Cx} {K : PySem.W.Frag} {H : Hp} {Q : VK}
end
/-! ### list.count of a text among things of all kinds -/
section
variable {X : Cx} {K : PySem.W.Frag}
end
end L2

set_option Elab.async false
set_option linter.all false
set_option maxRecDepth 100000
set_option maxHeartbeats 4000000
namespace L2
open PySem PySem.Spec PyProof.Rows
/-! ### a class of exceptions with an __init__ of its own: it is made -/
section
variable {prog : Program} {w : World} {A : Around} {E : Value → Shared → Prop} {h : Heap} {g : Array GenState} {d : Drawn} {t : Nat} {os : OsState}
variable {nm q : Str} {C N : Addr} {bs bm bmB : List Value} {hdct : Bool} {sn : List Str} {sub : List Value} {ab : Bool} {col : Option Bool} {dd : Option Addr} {k0 k1 k2 k3 k5 : Option Value} {B newId initId : String} {K : PySem.W.Frag}
theorem type_call_excI (F : ExcBaseFacts B newId initId bmB) (T : OwnTail h bmB bm) (X : K.In h) {rest : List Value} {fI : Addr} {Q : Fin → Shared → Prop}
    (hC : h.get? C = some (excClassObj nm q C N bs bm hdct sn sub ab col dd k0 k1 k2 k3 k5 newId)) (hi : PySem.W.findIn K (.ref C) "__init__" = some (some (.ref fI))) (hf : PySem.W.typeIn K (.ref fI) = some (.type "function"))
    (hq : ∀ h' e, Heap.MadeExcOf h h' e (.ref C) rest → h.objs.size ≤ e → wpAny (model prog w) A (call (.ref fI) (.ref e :: rest)) (fun r s' => r = .none ∧ Q (.done (.ret (.ref e))) s') E ⟨h', g, d, t, os⟩) (hrest : rest.length ≤ sizeLine) :
    wpAny (model prog w) A (Builtin.«type.__call__» ⟨.ref C :: rest, []⟩) Q E ⟨h, g, d, t, os⟩ := by
  repeat (first | with_reducible refine wpAny_loadPart_at hC ?_ | with_reducible refine wpAny_madeBy_exc hC ?_ | wp_step)
  refine codeAny_call_builtin_code (Code.quiet_builtin _ F.quiet) (wpAny_check_new_subT F T hC ?_)
  refine codeAny_exc_new_subT F T hC ?_ hrest
  show wpAny _ _ _ _ _ _
  have kp : ∀ b o, h.get? b = some o → ((h.push { cls := .type "tuple", data := .seq rest.toArray }).push { cls := .ref C, data := .fields #[.ref h.objs.size, .none, .none, .none, .bool false, .none] }).get? b = some o := fun b o e => Heap.get?_push_of_some _ (Heap.get?_push_of_some _ e)
  have hC₁ := kp _ _ hC
  have X₁ := X.keeps kp
  have hget : ((h.push { cls := .type "tuple", data := .seq rest.toArray }).push
      { cls := .ref C, data := .fields #[.ref h.objs.size, .none, .none, .none, .bool false, .none] }).get? (h.objs.size + 1) = some
      { cls := .ref C, data := .fields #[.ref h.objs.size, .none, .none, .none, .bool false, .none] } := by heap_get
  have hcC : (Value.ref C :: bm).contains (.ref C) = true := by simp
  unfold isInstance
  repeat (first | with_reducible refine wpAny_loadPart_at hget ?_ | (with_reducible refine wpAny_isSubtype_exc hC₁ ?_; rw [hcC]) | wp_step)
  show wpAny _ _ (typeLookup (.ref C) _) _ _ _
  refine (PySem.W.looks_findIn X₁ hi).at ?_
  refine wpAny_holding (wpAny_bind ((PySem.W.bind_fn X₁ _ hf).at ?_))
  refine wpAny_bind (wpAny_mono (hq _ (h.objs.size + 1) ⟨kp, Heap.get?_none_of_le (Nat.le_succ _), h.objs.size, hget, Heap.get?_none_of_le (Nat.le_refl _), ?_⟩ (Nat.le_succ _)) (fun r s' hr => ?_) fun _ _ x => x)
  · exact Heap.get?_push_of_some _ (Heap.get?_push_at rfl rfl)
  · obtain ⟨rfl, hQ⟩ := hr
    wp_walk
    exact hQ
theorem call_excI (F : ExcBaseFacts B newId initId bmB) (T : OwnTail h bmB bm) (X : K.In h) {rest : List Value} {fI : Addr} {Q : Value → Shared → Prop}
    (hC : h.get? C = some (excClassObj nm q C N bs bm hdct sn sub ab col dd k0 k1 k2 k3 k5 newId)) (hi : PySem.W.findIn K (.ref C) "__init__" = some (some (.ref fI))) (hf : PySem.W.typeIn K (.ref fI) = some (.type "function"))
    (hq : ∀ h' e, Heap.MadeExcOf h h' e (.ref C) rest → h.objs.size ≤ e →
      wpAny (model prog w) (A.under (.builtin "type.__call__" ⟨.ref C :: rest, []⟩)) (call (.ref fI) (.ref e :: rest)) (fun r s' => r = .none ∧ Q (.ref e) s') E ⟨h', g, d, t, os⟩) (hrest : rest.length ≤ sizeLine) :
    wpAny (model prog w) A (call (.ref C) rest) Q E ⟨h, g, d, t, os⟩ := by
  have f1 := tc_lookup
  have f2 := tc_bind (.ref C)
  have hT : (⟨h, g, d, t, os⟩ : Shared).TypeIs (.ref C) "type" := ⟨_, hC, rfl⟩
  refine wpAny_call (codeAny_of_tree ?_)
  show wpAny _ _ (callAny (.ref C) _) _ _ _
  repeat (any_goals (first | assumption | with_reducible refine wpAny_loadPart_at hC ?_ | wp_step))
  refine ⟨rfl, ?_⟩
  refine codeAny_call_builtin_at (Code.quiet_builtin _ (by decide +kernel)) entry_typeCall (wpAny_check_type_call_sub hC (type_call_excI (hrest := hrest) F T X hC hi hf fun h' e hm hz => ?_))
  exact hq h' e hm hz
end
section
variable {prog : Program} {w : World} {A : Around} {E : Value → Shared → Prop} {s : Shared} {env : Env}
variable {nm q : Str} {C N : Addr} {bs bm bmB : List Value} {hdct : Bool} {sn : List Str} {sub : List Value} {ab : Bool} {col : Option Bool} {dd : Option Addr} {k0 k1 k2 k3 k5 : Option Value} {B newId initId : String} {K : PySem.W.Frag}
theorem raiseStmt_madeI {M : Model} {x : Sem Value} {Q : Flow → Shared → Prop} (hbase : bm.contains (.type "BaseException") = true) (hh : A.handled = none)
    (h : wpAny M A x (fun v s₁ => ∃ (e t : Addr) (dx : Option Addr), v = .ref e ∧ s₁.heap.get? C = some (excClassObj nm q C N bs bm hdct sn sub ab col dd k0 k1 k2 k3 k5 newId) ∧ s₁.heap.get? e = some { cls := .ref C, dict := dx, data := .fields #[.ref t, .none, .none, .none, .bool false, .none] } ∧ E (.ref e) s₁) E s) :
    wpAny M A (raiseStmt env (some x) none) Q E s := by
  have hcB : (Value.ref C :: bm).contains (.type "BaseException") = true := by rw [List.contains_cons, hbase, Bool.or_true]
  unfold raiseStmt
  refine wpAny_bind (wpAny_mono h (fun v s₁ h₁ => ?_) fun _ _ x => x)
  obtain ⟨e, t, dx, rfl, hC, he, hE⟩ := h₁
  obtain ⟨hp, g, d, tk, os⟩ := s₁
  repeat (first | with_reducible refine wpAny_loadPart_at he ?_ | with_reducible refine wpAny_loadPart_at hC ?_ | (with_reducible refine wpAny_isSubtype_exc hC ?_; rw [hcB]) | wp_step)
  exact wpAny_raiseNew_none hh hE
theorem raise_excI (F : ExcBaseFacts B newId initId bmB) {x : Str} {np cpos pos : Pos} {args : List Expr} {fI : Addr} {Q : Flow → Shared → Prop}
    (hbase : bm.contains (.type "BaseException") = true) (hh : A.handled = none) (hplain : (backTo cpos (starEach args env)).any (·.1) = false) (hi : PySem.W.findIn K (.ref C) "__init__" = some (some (.ref fI))) (hf : PySem.W.typeIn K (.ref fI) = some (.type "function"))
    (h : wpAny (model prog w) A (eval (.Name x np) env) (fun f s₁ => f = .ref C ∧ wpAny (model prog w) A (evalArgs (.ref C) true (backTo cpos (starEach args env)) [])
      (fun a s₂ => a.kw = [] ∧ a.pos.length ≤ sizeLine ∧ s₂.heap.get? C = some (excClassObj nm q C N bs bm hdct sn sub ab col dd k0 k1 k2 k3 k5 newId) ∧ K.In s₂.heap ∧ OwnTail s₂.heap bmB bm ∧
        ∀ h' e, Heap.MadeExcOf s₂.heap h' e (.ref C) a.pos → s₂.heap.objs.size ≤ e → wpAny (model prog w) (A.under (.builtin "type.__call__" ⟨.ref C :: a.pos, []⟩)) (call (.ref fI) (.ref e :: a.pos))
          (fun r s' => r = .none ∧ (∃ (t : Addr) (dx : Option Addr), s'.heap.get? e = some { cls := .ref C, dict := dx, data := .fields #[.ref t, .none, .none, .none, .bool false, .none] }) ∧ s'.heap.get? C = some (excClassObj nm q C N bs bm hdct sn sub ab col dd k0 k1 k2 k3 k5 newId) ∧ E (.ref e) s') E { s₂ with heap := h' }) E s₁) E s) :
    wpAny (model prog w) A (exec (.Raise (some (.Call (.Name x np) args [] cpos)) none pos) env) Q E s := by
  rw [arm_exec_Raise]
  first
    | refine wpAny_bind (wpAny_standAt (raiseStmt_madeI (C := C) (nm := nm) (q := q) (N := N) (bs := bs) (bm := bm) (hdct := hdct) (sn := sn) (sub := sub) (ab := ab) (col := col) (dd := dd) (k0 := k0) (k1 := k1) (k2 := k2) (k3 := k3) (k5 := k5) (newId := newId) hbase hh (wpAny_bind (wpAny_mono (wpAny_Call_ofName (wpAny_mono h (fun f s₁ h₁ => ?_) fun _ _ x => x)) (fun v s₃ h₃ => wpAny_bind (wpAny_standAt (wpAny_pure h₃))) fun _ _ x => x))))
    | (simp only [evalOpt, Option.map]; refine wpAny_bind (wpAny_standAt (raiseStmt_madeI (C := C) (nm := nm) (q := q) (N := N) (bs := bs) (bm := bm) (hdct := hdct) (sn := sn) (sub := sub) (ab := ab) (col := col) (dd := dd) (k0 := k0) (k1 := k1) (k2 := k2) (k3 := k3) (k5 := k5) (newId := newId) hbase hh (wpAny_bind (wpAny_mono (wpAny_Call_ofName (wpAny_mono h (fun f s₁ h₁ => ?_) fun _ _ x => x)) (fun v s₃ h₃ => wpAny_bind (wpAny_standAt (wpAny_pure h₃))) fun _ _ x => x)))))
  obtain ⟨rfl, h₁⟩ := h₁
  unfold callWith
  refine wpAny_bind (wpAny_holding (wpAny_mono h₁ (fun a s₂ h₂ => wpAny_bind (wpAny_standAt ?_)) fun _ _ x => x))
  obtain ⟨apos, akw⟩ := a
  obtain ⟨hkw, hlen, hC, hX, T, h₂⟩ := h₂
  obtain rfl : akw = [] := hkw
  obtain ⟨hp, g, d, tk, os⟩ := s₂
  simp only [hplain]
  refine wpAny_bind (wpAny_keeperOf_exc hC ?_)
  refine wpAny_bind (call_excI (hrest := hlen) F T hX hC hi hf fun h' e hm hz => wpAny_mono (h₂ h' e hm hz) (fun r s' hr => ⟨hr.1, wpAny_bind (wpAny_holding (wpAny_point (wpAny_pure ?_)))⟩) fun _ _ z => z)
  obtain ⟨_, ⟨t, dx, ho⟩, hC', hE⟩ := hr
  exact ⟨e, t, dx, rfl, hC', ho, hE⟩
end
/-! ### its attribute is stored -/
section
open PySem.W
variable {prog : Program} {w : World} {A : Around} {E : Value → Shared → Prop} {s : Shared} {K : Frag}
theorem set_exc {x C aH : Addr} {ox : Obj} {vs : Array Value} {name : Str} {v : Value} {cd : ClassData} {Q : Unit → Shared → Prop} (X : K.In s.heap) (hx : s.heap.get? x = some ox) (hc : ox.cls = .ref C) (hdx : ox.dict = none) (hd : ox.data = .fields vs)
    (hs : findIn K (.ref C) "__setattr__" = some (some (.builtin "object.__setattr__"))) (hcd : clsIn K C = some cd) (hmro : cd.mro = .ref C :: .ref aH :: bmV) (hh : cd.hasDict = true) (hn : findIn K (.ref C) name = some none)
    (hq : ∀ h' tk', h'.get? x = some { ox with dict := some s.heap.objs.size } → h'.Ns1 s.heap.objs.size (fun y => if y = name then some v else none) → (∀ b o, b ≠ x → s.heap.get? b = some o → h'.get? b = some o) → Q () { s with heap := h', toks := tk' }) :
    wpAny (model prog w) A (setAttr (.ref x) name v) Q E s := by
  have I : InstAt s.heap x ox C none := ⟨hx, hc, by unfold notCls; rw [hd], by rw [hdx]; trivial⟩
  refine set_plain X I hs ?_
  have SF := PySem.F.store_object
  have hm : Looks (model prog w) s.heap (mroOf (.ref C)) cd.mro := (looks_clsIn X hcd).andThen .now
  have ty := I.type (M := model prog w)
  have sub : Looks (model prog w) s.heap (isInstance (.ref x) (.type "object")) true := ty.andThen (looks_mroIn X (by unfold mroIn; rw [hcd, Option.bind_some, hmro]; rfl))
  refine codeAny_call_builtin SF.slot.plain SF.entry (@check_slot (model prog w) _ _ { s with toks := s.toks + 1 } "object.__setattr__" "object" "__setattr__" (.ref x) [.str name s.toks, v] [] _ SF.kind SF.split sub (SF.args (.ref x) (.str name s.toks) v) ?_)
  rw [osa_eq, refuse_eq]
  refine wpAny_bind (wpAny_bind (ty.here (s := { s with toks := s.toks + 1 }) (wpAny_bind (hm.here (s := { s with toks := s.toks + 1 }) ?_))))
  rw [hmro, refuseLoop_ref, refuseLoop_ref, PySem.F.store_ValueError.passes]
  refine wpAny_pure (wpAny_bind (ty.here (s := { s with toks := s.toks + 1 }) (wpAny_bind ((looks_findIn X hn).here (s := { s with toks := s.toks + 1 }) (wpAny_bind (wpAny_pure ?_))))))
  have hxs : x ≠ s.heap.objs.size := Nat.ne_of_lt (Heap.lt_size hx)
  have hx₁ : (s.heap.push { cls := .type "dict", data := .dict #[] }).get? x = some ox := Heap.get?_push_of_some _ hx
  show wpAny _ _ (Builtin.ObjectAttr.storeInOwnDict (.ref x) (.ref C) (.str name s.toks) name v false) _ _ _
  unfold Builtin.ObjectAttr.storeInOwnDict Builtin.ObjectAttr.ownDictForStores instanceDict
  refine wpAny_bind (wpAny_pure (wpAny_bind (wpAny_bind (wpAny_loadPart (s := { s with toks := s.toks + 1 }) hx ?_))))
  rw [hc]
  refine wpAny_bind ((looks_clsIn X hcd).here (s := { s with toks := s.toks + 1 }) ?_)
  rw [hh]
  dsimp only
  rw [hdx, if_neg (by decide)]
  dsimp only
  rw [if_neg (by simp [typeHasDict]), hd]
  dsimp only
  refine wpAny_bind (wpAny_alloc' ?_)
  refine wpAny_bind (wpAny_update' hx₁ ?_)
  refine wpAny_pure ?_
  have hgd : ((s.heap.push { cls := .type "dict", data := .dict #[] }).update x fun o => { cls := o.cls, dict := some s.heap.objs.size, data := o.data, slots := o.slots }).get? s.heap.objs.size = some { cls := .type "dict", data := .dict #[] } :=
    (Heap.get?_update_ne _ _ _ _ hxs.symm).trans (Heap.get?_push_at rfl rfl)
  have hnd : ((s.heap.push { cls := .type "dict", data := .dict #[] }).update x fun o => { cls := o.cls, dict := some s.heap.objs.size, data := o.data, slots := o.slots }).Ns s.heap.objs.size (fun _ => none) :=
    ⟨_, #[], _, hgd, rfl, fun e he => absurd he (by simp), fun _ => rfl⟩
  show wpAny _ _ (Builtin.ObjectAttr.storeInDict s.heap.objs.size (.str name s.toks) name v) _ _ _
  unfold Builtin.ObjectAttr.storeInDict Builtin.ObjectAttr.newKeyGuard
  refine wpAny_bind (wpAny_pure (wpAny_bind (wpAny_nsSet1 (Heap.Ns1.of_empty hnd) fun h' hn' hs => ?_)))
  obtain ⟨oD, esD, epD, hoD, hdD, hcD⟩ := hn'.count (Within.cons name v Within.nil)
  refine wpAny_bind (wpAny_lookBehind hoD (by rw [hdD]; exact pastItsLine_dict (Nat.le_trans hcD (by rw [List.length_cons, List.length_nil, sizeLine_eq]; omega))) ?_)
  refine wpAny_pure (hq h' _ ?_ hn' (fun b ob hbx hb => ?_))
  · refine (hs.2 x hxs).trans (Heap.get?_update_self _ hx₁ ?_)
    have hfr := (Heap.get?_some_iff.mp hx).2
    obtain ⟨oc, od, odt, osl⟩ := ox
    cases odt <;> first | rfl | exact hfr
  · exact (hs.2 b (Nat.ne_of_lt (Heap.lt_size hb))).trans ((Heap.get?_update_ne _ _ _ _ hbx).trans (Heap.get?_push_of_some _ hb))
end
end L2

set_option Elab.async false
set_option linter.all false
set_option maxRecDepth 100000
set_option maxHeartbeats 4000000
namespace L2
open PySem PySem.Spec PyProof.Rows
/-! ### an exception that is being made -/
def ExNew (e : Addr) (cls : Value) (dx : Option Addr) (h : Heap) : Prop := ∃ t : Addr, h.get? e = some { cls := cls, dict := dx, data := .fields #[.ref t, .none, .none, .none, .bool false, .none] }
abbrev exN (e : Addr) (cls : Value) (dx : Option Addr) : HO := .ext (ExNew e cls dx)
theorem exN_ok {P : Program} {w : World} {H : Hp} {h : Heap} {e : Addr} {cls : Value} {dx : Option Addr} (x : ExNew e cls dx h) : ObjOk P w H h e (exN e cls dx) := by
  obtain ⟨t, ht⟩ := id x
  exact ⟨x, ⟨_, ht⟩, fun h1 h2 ⟨t', e1⟩ k => ⟨t', k _ e1⟩⟩
/-- what the written part knows of a class C under H (HostError) with __init__ at f, which stores the attribute fld -/
structure IniK (K : PySem.W.Frag) (C aH f : Addr) (fld : Str) : Prop where
  ob : ∃ (nm q : Str) (N : Addr) (bs : List Value) (sn : List Str) (sub : List Value) (ab : Bool) (col : Option Bool) (dd : Option Addr) (k0 k1 k2 k3 k5 : Option Value), K.lookup C = some (excClassObj nm q C N bs (.ref aH :: bmV) true sn sub ab col dd k0 k1 k2 k3 k5 newV)
  tl : ∀ h : Heap, K.In h → OwnTail h bmV (.ref aH :: bmV)
  init : PySem.W.findIn K (.ref C) "__init__" = some (some (.ref f))
  fn : PySem.W.typeIn K (.ref f) = some (.type "function")
  sa : PySem.W.findIn K (.ref C) "__setattr__" = some (some (.builtin "object.__setattr__"))
  nf : PySem.W.findIn K (.ref C) fld = some none
section
variable {X : Cx} {K : PySem.W.Frag}
@[irreducible] def rSetX (C : Addr) (fld : Str) (e : Addr) (y : V) (H : Hp) (R : Hp → Prop) : Prop := H e = some (exN e (.ref C) none) ∧ ∀ d H', H d = none → d ≠ e → Chg e H H' → H' e = some (exN e (.ref C) (some d)) → H' d = some (.xd [(fld, y)]) → R H'
def sFldX (C : Addr) (fld : Str) (ta tv : TE) : TS := fun D σ H => tv σ H fun y H1 => ta σ H1 fun x H2 => match x with
  | .ref e => rSetX C fld e y H2 (fun H' => D.nx σ H')
  | _ => False
theorem setX_rd {C : Addr} {fld : Str} {e : Addr} {y : V} {H : Hp} {R : Hp → Prop} (h : H e = some (exN e (.ref C) none)) (q : ∀ d H', H d = none → d ≠ e → Chg e H H' → H' e = some (exN e (.ref C) (some d)) → H' d = some (.xd [(fld, y)]) → R H') : rSetX C fld e y H R := by unfold rSetX; exact ⟨h, q⟩
theorem psFldX {C aH f : Addr} {fld : Str} {o value : Expr} {ta tv : TE} {pos pos' : Pos} (hK : X.K = K) (Z : IniK K C aH f fld) (ha : PE X o ta) (hv : PE X value tv) (hs : swapsWith value (some (.Attribute o fld pos')) pos.line X.env = pure false := by rfl) : PS X (.Assign [.Attribute o fld pos'] value pos) (sFldX C fld ta tv) := by
  subst hK
  intro pins s σ H D I h
  refine plainObj_wpAny_Assign_Attribute (thn (hv pins s σ H _ I h) fun u s1 ⟨y, H1, I1, ry, q⟩ => thn (ha pins s1 σ H1 _ I1 q) fun ov s2 ⟨x, H2, I2, rx, q2⟩ => ?_) hs
  dsimp only at q2
  split at q2
  case h_2 => exact q2.elim
  rename_i e
  obtain rfl : ov = Value.ref e := rx
  unfold rSetX at q2
  obtain ⟨he, q2⟩ := q2
  obtain ⟨⟨t, ht⟩, _, _⟩ := (show ObjOk X.prog X.w H2 s2.heap e (exN e (.ref C) none) from I2.hok e _ he)
  obtain ⟨nm, qn, N, bs, sn, sub, ab, col, dd, k0, k1, k2, k3, k5, lk⟩ := Z.ob
  have hcd : PySem.W.clsIn X.K C = some { name := nm, bases := bs, mro := Value.ref C :: .ref aH :: bmV, ns := N, qualname := qn, hasDict := true, slotNames := sn, subclasses := sub, abstract := ab, collection := col } := by
    unfold PySem.W.clsIn; rw [lk]
  refine set_exc I2.kIn ht rfl rfl rfl Z.sa hcd rfl rfl Z.nf fun h' tk' hx' hn' hk => ?_
  have hf : H2 s2.heap.objs.size = none := I2.hok.fresh (Nat.le_refl _)
  have hne : s2.heap.objs.size ≠ e := Nat.ne_of_gt (Heap.lt_size ht)
  have e1 : (h'.update e fun _ => { cls := .ref C, data := .fields #[.ref t, .none, .none, .none, .bool false, .none] }).get? e = some { cls := .ref C, data := .fields #[.ref t, .none, .none, .none, .bool false, .none] } := Heap.get?_update_self _ hx' rfl
  have k1 : ∀ b u, s2.heap.get? b = some u → (h'.update e fun _ => { cls := .ref C, data := .fields #[.ref t, .none, .none, .none, .bool false, .none] }).get? b = some u := fun b u hb => by
    by_cases hbe : b = e
    · subst hbe
      rw [e1]; exact ht.symm.trans hb
    · rw [Heap.get?_update_other _ _ (Ne.symm hbe)]; exact hk b u hbe hb
  have I3 := I2.laid (a := s2.heap.objs.size) (o := .xd [(fld, y)]) (h' := h'.update e fun _ => { cls := .ref C, data := .fields #[.ref t, .none, .none, .none, .bool false, .none] }) (t' := tk') k1 (Nat.le_refl _)
    ⟨_, hn'.at (fun o q => by rw [Heap.get?_update_other _ _ (Ne.symm hne)]; exact q), fun g => by
      by_cases hg : g = fld
      · subst hg
        have hb : (g == g) = true := by simp
        show RelO (List.lookup g [(g, y)]) (if g = g then some u else none)
        rw [if_pos rfl, show List.lookup g [(g, y)] = some y by simp only [List.lookup, hb]]; exact ry
      · have hb : (g == fld) = false := beq_eq_false_iff_ne.mpr hg
        show RelO (List.lookup g [(fld, y)]) (if g = fld then some u else none)
        rw [if_neg hg, show List.lookup g [(fld, y)] = none by simp only [List.lookup, hb]]; exact True.intro⟩
  have heu : upd H2 s2.heap.objs.size (.xd [(fld, y)]) e = some (exN e (.ref C) none) := by rw [upd_ne (Ne.symm hne)]; exact he
  have I4 := I3.write (x := e) (e := e) (o := exN e (.ref C) (some s2.heap.objs.size)) (h' := h') (t' := tk') (by rw [heu]; exact True.intro) (.inl rfl) (fun b u hb z => by
    have z : (h'.update e fun _ => { cls := .ref C, data := .fields #[.ref t, .none, .none, .none, .bool false, .none] }).get? b = some u := z
    rw [Heap.get?_update_other _ _ (Ne.symm hb)] at z; exact z) ⟨_, hx'⟩ (exN_ok ⟨t, hx'⟩)
  exact ⟨σ, _, I4, q2 _ _ hf hne (fun b o hb z => by rw [upd_ne hb, upd_ne (ne_of_none z hf)]; exact z) upd_same (by rw [upd_ne hne, upd_same])⟩
/-- what an __init__ that stores its one value promises -/
@[irreducible] def sp_init (C : Addr) (fld : Str) : Sp := fun vs H Q _ => ∃ (e : Addr) (v : V), vs = [.ref e, v] ∧ H e = some (exN e (.ref C) none) ∧ ∀ d H', H d = none → d ≠ e → Chg e H H' → H' e = some (exN e (.ref C) (some d)) → H' d = some (.xd [(fld, v)]) → Q .non H'
/-! ### it is raised -/
def hid (e : Addr) (H : Hp) : Hp := fun b => if b = e then none else H b
theorem hid_ne {e b : Addr} {H : Hp} (h : b ≠ e) : hid e H b = H b := by unfold hid; rw [if_neg h]
theorem hid_at {e : Addr} {H : Hp} : hid e H e = none := by unfold hid; rw [if_pos rfl]
theorem hid_of {e b : Addr} {H : Hp} {o : HO} (h : hid e H b = some o) : b ≠ e ∧ H b = some o := by
  by_cases z : b = e
  · subst z; rw [hid_at] at h; cases h
  · rw [hid_ne z] at h; exact ⟨z, h⟩
theorem hid_none {e b : Addr} {H : Hp} (h : H b = none) : hid e H b = none := by
  by_cases z : b = e
  · subst z; exact hid_at
  · rw [hid_ne z]; exact h
section
variable {pins : List (Addr × Obj)} {σ : St} {H : Hp} {s : Shared} {e : Addr} {φ : Heap → Prop}
theorem HOk.hid {P : Program} {w : World} {h h' : Heap} (x : HOk P w H h) (he : H e = some (.ext φ)) (k : ∀ b u, b ≠ e → (∃ o, H b = some o) → h.get? b = some u → h'.get? b = some u) : HOk P w (L2.hid e H) h' := fun a o ha => by
  obtain ⟨hne, ha⟩ := hid_of ha
  have n1 : ∀ b, H b = some (.own a) → b ≠ e := fun b hb z => by rw [z, he] at hb; cases hb
  refine (x a o ha).stay (fun b u hb hu => ?_) (fun b hb => by rw [hid_ne (n1 b hb)]; exact hb) fun b xs hb => by
    rw [hid_ne fun z => by rw [z, he] at hb; cases hb]; exact hb
  rcases hb with rfl | hb
  · exact k _ _ hne ⟨_, ha⟩ hu
  · exact k _ _ (n1 b hb) ⟨_, hb⟩ hu
theorem Inv.hid (I : Inv X pins σ H s) (he : H e = some (.ext φ)) : Inv X pins σ (L2.hid e H) s := by
  refine ⟨I.ok, I.os, I.bare, ⟨I.base.keep, I.base.slot, fun b o h1 h2 h3 => hid_none (I.base.free b o h1 h2 h3), I.base.there, fun b xs q => ?_, fun b o u q => ?_, fun b ps q => ?_⟩, I.loc, I.cell, hid_none I.free, fun x c h => hid_none (I.freeC x c h), fun p hp => ?_, I.hok.hid he fun _ _ _ _ h => h, I.len⟩
  · have z := I.base.tups b xs q
    rw [hid_ne fun y => by rw [y, he] at z; cases z]; exact z
  · have z := I.base.frzs b o u q
    rw [hid_ne fun y => by rw [y, he] at z; cases z]; exact z
  · obtain ⟨more, z⟩ := I.base.tbls b ps q
    exact ⟨more, by rw [hid_ne fun y => by rw [y, he] at z; cases z]; exact z⟩
  · obtain ⟨a1, a2, a3, a4, a5⟩ := I.pin p hp
    exact ⟨a1, hid_none a2, a3, a4, a5⟩
theorem FlyIn.of_init {cls : Value} {dx : Option Addr} (I : Inv X pins σ H s) (he : H e = some (exN e cls dx)) (hen : ∀ o, X.s₀.heap.get? e = some o → e ∈ X.ex) : FlyIn X pins σ (L2.hid e H) (PySem.W.hideAll s.heap (e :: frs X.stack)) e cls dx s := by
  obtain ⟨⟨t, ht⟩, _, _⟩ := (show ObjOk X.prog X.w H s.heap e (exN e cls dx) from I.hok e _ he)
  refine ⟨I.hid he, I.hok.hid he fun b u hb hh hu => PySem.W.hideAll_get _ hu ?_, ⟨fun b o hb => PySem.W.of_hideAll _ hb, ?_, ?_, ?_⟩, fun b o e0 n h1 h2 => ?_, hen⟩
  · intro hm
    obtain ⟨o, hh⟩ := hh
    rcases List.mem_cons.mp hm with z | hm
    · exact hb z
    · rw [I.stkFree b hm] at hh; cases hh
  · exact PySem.W.hideAll_none _ List.mem_cons_self
  · refine PySem.W.funFrames_hide I.stack fun env hv a hf => ?_
    exact List.mem_cons_of_mem _ (List.mem_filterMap.mpr ⟨env, hv, hf⟩)
  · exact ⟨_, _, ht, rfl, rfl, rfl, by simp, .inl rfl⟩
  · refine PySem.W.hideAll_get _ (I.base.keep b o e0 n h1 h2) fun hm => ?_
    rcases List.mem_cons.mp hm with rfl | hm
    · exact h2 (hen _ e0)
    · exact not_frame I e0 h1 hm
end
@[irreducible] def rRaiseI (C : Addr) (fld : Str) (E : XK) (v : V) (H : Hp) : Prop := ∀ d H', H d = none → Same H H' → H' d = some (.xd [(fld, v)]) → E (.ref C) (some d) H'
def qRaiseI (C : Addr) (fld : Str) (E : XK) (t : TE) : TS := fun _ σ H => t σ H fun v H1 => rRaiseI C fld E v H1
theorem raiseI_rd {C : Addr} {fld : Str} {E : XK} {v : V} {H : Hp} (q : ∀ d H', H d = none → Same H H' → H' d = some (.xd [(fld, v)]) → E (.ref C) (some d) H') : rRaiseI C fld E v H := by unfold rRaiseI; exact q
theorem psRaiseI {C aH f : Addr} {fld pn x : Str} {fd : FuncData} {k : Nat} {E : XK} {e₀ : Expr} {te : TE} {np cpos pos : Pos} (Z : IniK X.K C aH f fld) (hm : X.mg x = some (.ref C)) (Fi : FnOk X.prog X.w X.K X.mg X.base CX0 k f fd ["self", pn] (sp_init C fld)) (hb : Binds X.K fd ["self", pn] []) (hr : Room (k + 1) X.A) (hc : X.calm = true) (hout : XOut X E) (he0 : PE X e₀ te)
    (hg : Gl X x := by rfl) (hd : (x == ("__debug__" : Str)) = false := by decide) (he : starEach [e₀] X.env = (false, eval e₀ X.env) :: starEach [] X.env := by rfl) (hpl : (backTo cpos (starEach [] X.env)).any (·.1) = false := by rfl) :
    PS X (.Raise (some (.Call (.Name x np) [e₀] [] cpos)) none pos) (qRaiseI C fld E te) := by
  intro pins s σ H D I h
  obtain ⟨nm, qn, N, bs, sn, sub, ab, col, dd, k0, k1, k2, k3, k5, lk⟩ := Z.ob
  refine raise_excI (K := X.K) (C := C) (nm := nm) (q := qn) (N := N) (bs := bs) (bm := .ref aH :: bmV) (hdct := true) (sn := sn) (sub := sub) (ab := ab) (col := col) (dd := dd) (k0 := k0) (k1 := k1) (k2 := k2) (k3 := k3) (k5 := k5) PySem.F.excBase_ValueError
    (by rw [List.contains_cons, show List.contains bmV (Value.type "BaseException") = true by decide +kernel, Bool.or_true]) (I.ok.hd hc) (by rw [he]; show (false || (backTo cpos (starEach [] X.env)).any (·.1)) = false; rw [hpl]; rfl) Z.init Z.fn (ld_glob I hg hm ⟨rfl, ?_⟩ hd)
  have hA := pa_cons he0 (pa_nil) he cpos pins s σ H (fun vs H1 => ∃ v, vs = [v] ∧ rRaiseI C fld E v H1) I (by
    show te σ H fun v H1 => ∃ v', [v] = [v'] ∧ rRaiseI C fld E v' H1
    have e : (fun (v : V) (H1 : Hp) => ∃ v', [v] = [v'] ∧ rRaiseI C fld E v' H1) = fun v H1 => rRaiseI C fld E v H1 := by
      funext v H1
      apply propext
      exact ⟨fun ⟨v', e1, e2⟩ => by cases e1; exact e2, fun e2 => ⟨v, rfl, e2⟩⟩
    rw [e]; exact h)
  rw [he] at hA ⊢
  refine Calls.evalArgs_plain (thn hA fun us s2 ⟨vs, H1, I1, r, v, ev, q⟩ => ?_)
  subst ev
  obtain ⟨u, rfl, ru⟩ := r.one
  refine ⟨rfl, by show 1 ≤ sizeLine; decide, I1.kIn _ _ lk, I1.kIn, Z.tl _ I1.kIn, fun h' e m hz => ?_⟩
  obtain ⟨t, ht, _, _⟩ := m.there
  have hfe : H1 e = none := I1.hok.fresh hz
  have I2 := I1.laid (a := e) (o := exN e (.ref C) none) (h' := h') (t' := s2.toks) m.keeps hz (exN_ok ⟨t, ht⟩)
  have hsp : sp_init C fld [.ref e, v] (upd H1 e (exN e (.ref C) none)) (fun w H' => w = .non ∧ ∃ d, H1 d = none ∧ d ≠ e ∧ Chg e (upd H1 e (exN e (.ref C) none)) H' ∧ H' e = some (exN e (.ref C) (some d)) ∧ H' d = some (.xd [(fld, v)])) E := by
    unfold sp_init
    refine ⟨e, v, rfl, upd_same, fun d H' hd hne hch h1 h2 => ⟨rfl, d, ?_, hne, hch, h1, h2⟩⟩
    rw [upd_ne hne] at hd; exact hd
  refine wpAny_call (codeAny_mono (Fi.run _ X.stack _ _ ⟨[.ref e, u], []⟩ [.ref e, u] [.ref e, v] _ _ (hr.make C [u] []) (I2.env0.make C [u] []) (hb _ [.ref e, u] I2.kIn rfl) (.cons rfl (.cons ru .nil)) hsp) fun r s' hq' => ?_)
  cases r with
  | error e => exact False.elim hq'
  | ok fl =>
    cases fl with
    | ret u' =>
      obtain ⟨v', H3, I3, rv, rfl, d, hd1, hd2, hch, h3, h4⟩ := I2.after hq'
      cases (show u' = Value.none from rv)
      obtain ⟨⟨t', ht'⟩, _, _⟩ := (show ObjOk X.prog X.w H3 s'.heap e (exN e (.ref C) (some d)) from I3.hok e _ h3)
      refine ⟨rfl, ⟨t', some d, ht'⟩, I3.kIn _ _ lk, ?_⟩
      have hen : ∀ o, X.s₀.heap.get? e = some o → e ∈ X.ex := fun o z => by
        apply Classical.byContradiction
        intro hx
        obtain ⟨o', k⟩ := I1.base.there e o z hx
        rw [m.new] at k
        cases k
      unfold rRaiseI at q
      refine hout _ _ _ _ _ _ _ _ (FlyIn.of_init I3 h3 hen) (q d _ hd1 (fun b o hb => ?_) (by rw [hid_ne hd2]; exact h4))
      have nb := ne_of_none hb hfe
      rw [hid_ne nb]
      exact hch b o nb (by rw [upd_ne nb]; exact hb)
    | next => exact False.elim hq'
    | brk => exact False.elim hq'
    | cont => exact False.elim hq'
end
end L2

set_option Elab.async false
set_option linter.all false
set_option maxRecDepth 100000
set_option maxHeartbeats 4000000
namespace L2
open PySem PySem.Spec PyProof.Rows
/-! ### a caught exception with a dict: its class, its attribute -/
def ExcIsD (e D d : Addr) (h : Heap) : Prop := ExcIs e (.ref D) (some d) h ∧ ∃ od, h.get? d = some od
section
open PySem.W PySem.Calls
theorem exc_classD {prog : Program} {w : World} {A : Around} {E : Value → Shared → Prop} {K : Frag} {D e dx : Addr} {h : Heap} {g d t os} {Q : Option Value → Shared → Prop} (X : K.In h) (x : ExcIsD e D dx h) (k : ExcK K D)
    (hq : Q (some (.ref D)) ⟨h, g, d, t + 1, os⟩) : wpAny (model prog w) A (getAttr? (.ref e) "__class__") Q E ⟨h, g, d, t, os⟩ := by
  obtain ⟨⟨oe, vs, he, hc, hdx, hd⟩, od, hod⟩ := x
  obtain ⟨h1, h2, h3, h4, h5⟩ := k
  have L0 : Looks (model prog w) h (typeOf (.ref e)) (.ref D) := hc ▸ (Looks.ld he).andThen .now
  have L1 := looks_findIn (M := model prog w) X h1
  have L2 := looks_findIn (M := model prog w) X h2
  have L3 := looks_findIn (M := model prog w) X h3
  have hx : (onTheHeap (Value.ref D) && Value.builtin "BaseException.__getattribute__" == Value.builtin "object.__getattribute__") = false := by
    have z : (Value.builtin "BaseException.__getattribute__" == Value.builtin "object.__getattribute__") = false := by decide +kernel
    rw [z]; rfl
  have I : InstAt h e oe D (some od) := ⟨he, hc, by unfold notCls; rw [hd], by rw [hdx]; exact hod⟩
  have L4 : Looks (model prog w) h (isInstance (.ref e) (.type "BaseException")) true := L0.andThen (looks_subIn X h4)
  have FB := PySem.F.attrBase_ValueError
  have f3 := FB.ga.bind (.ref e)
  have kd : builtinKind "BaseException.__getattribute__" = some .slot := by decide +kernel
  have sid : splitId "BaseException.__getattribute__" = some ("BaseException", "__getattribute__") := by decide +kernel
  have aok := PySem.F.args_bexc_ga (.ref e) (.str "__class__" t)
  have f5 := KF.type_class
  have f6 := PySem.F.slot_gs_get.lookup
  have f7 := PySem.F.slot_gs_set.lookup
  unfold getAttr? getAttrBy? getAttrBy
  refine wpAny_bind (wpAny_mkText (wpAny_bind (wpAny_attempt (wpAny_holding (wpAny_bind (L0.at (wpAny_bind (L1.at ?_))))))))
  dsimp only
  rw [if_neg (by rw [hx]; decide)]
  unfold getAttrByItsOwn hookBefore
  repeat (any_goals (first | assumption | with_reducible refine L0.at ?_ | with_reducible refine L1.at ?_ | with_reducible refine L2.at ?_ | with_reducible refine L3.at ?_ | wp_step))
  refine codeAny_call_builtin FB.ga.plain PySem.F.entry_bexc_ga ?_
  simp only [checkBuiltinCall, kd, sid]
  refine wpAny_bind (L4.at ?_)
  repeat (any_goals (first | assumption | with_reducible refine L0.at ?_ | with_reducible refine L1.at ?_ | with_reducible refine L2.at ?_ | with_reducible refine L3.at ?_ | wp_step))
  refine class_get (ox := oe) (od := some od) X I h5 ?_
  repeat (any_goals (first | assumption | wp_step))
theorem kitx_excD {K : Frag} {e D dx : Addr} (k : ExcK K D) (hcl : (clsIn K D).isSome = true) : KitX K (.ref e) (.ref D) (ExcIsD e D dx) where
  ty := fun M h _ p => by
    obtain ⟨⟨oe, vs, he, hc, _⟩, _⟩ := p
    exact hc ▸ (Looks.ld he).andThen .now
  it := fun M h X p => by
    obtain ⟨cd, hcd⟩ := Option.isSome_iff_exists.mp hcl
    unfold clsIn at hcd
    split at hcd
    · rename_i ho
      intro A' Q' E' s' kk q
      unfold isType loadHead
      exact wpAny_bind (wpAny_loadPart (kk _ _ (X _ _ ho)) (wpAny_pure q))
    · cases hcd
  ne := fun h tp dd its n sl X htp => by
    refine Bool.eq_false_iff.mpr fun q => ?_
    have z : D = tp := Value.ref.inj (beq_iff_eq.mp q)
    subst z
    obtain ⟨cd, hcd⟩ := Option.isSome_iff_exists.mp hcl
    unfold clsIn at hcd
    split at hcd
    · rename_i ho
      cases (X _ _ ho).symm.trans htp
    · cases hcd
  ca := fun {prog w A E Q s} X p q => by
    obtain ⟨hh, g, d, t, os⟩ := s
    exact exc_classD X p k q
theorem exc_attr {prog : Program} {w : World} {A : Around} {E : Value → Shared → Prop} {K : Frag} {D e : Addr} {oe od : Obj} {vs : Array Value} {dx : Addr} {name : Str} {v : Value} {expr : Bool} {s : Shared} {Q : Value → Shared → Prop} (X : K.In s.heap) (he : s.heap.get? e = some oe) (hc : oe.cls = .ref D) (hdx : oe.dict = some dx) (hd : oe.data = .fields vs) (hod : s.heap.get? dx = some od) (k : ExcK K D)
    (hh : hasDictIn K D = true) (ha : findIn K (.ref D) name = some none) (hl : lookIn name od = some (some v)) (hv : handedIn v = true)
    (hq : Q v { s with toks := s.toks + 1 }) : wpAny (model prog w) A (getAttr (.ref e) name expr) Q E s := by
  obtain ⟨h, g, d, t, os⟩ := s
  obtain ⟨h1, h2, h3, h4, h5⟩ := k
  have L0 : Looks (model prog w) h (typeOf (.ref e)) (.ref D) := hc ▸ (Looks.ld he).andThen .now
  have L1 := looks_findIn (M := model prog w) X h1
  have L2 := looks_findIn (M := model prog w) X h2
  have hx : (onTheHeap (Value.ref D) && Value.builtin "BaseException.__getattribute__" == Value.builtin "object.__getattribute__") = false := by
    have z : (Value.builtin "BaseException.__getattribute__" == Value.builtin "object.__getattribute__") = false := by decide +kernel
    rw [z]; rfl
  have I : InstAt h e oe D (some od) := ⟨he, hc, by unfold notCls; rw [hd], by rw [hdx]; exact hod⟩
  have L5 := looks_find (M := model prog w) X I (findObj_own hh ha rfl hl)
  have L4 : Looks (model prog w) h (isInstance (.ref e) (.type "BaseException")) true := L0.andThen (looks_subIn X h4)
  have FB := PySem.F.attrBase_ValueError
  have f3 := FB.ga.bind (.ref e)
  have hx0 : (expr && onTheHeap (Value.builtin "BaseException.__getattribute__")) = false := by cases expr <;> rfl
  have kd : builtinKind "BaseException.__getattribute__" = some .slot := by decide +kernel
  have sid : splitId "BaseException.__getattribute__" = some ("BaseException", "__getattribute__") := by decide +kernel
  have aok := PySem.F.args_bexc_ga (.ref e) (.str name t)
  unfold getAttr getAttrBy
  refine wpAny_bind (wpAny_mkText (wpAny_holding (wpAny_bind (L0.at (wpAny_bind (L1.at ?_))))))
  dsimp only
  rw [if_neg (by rw [hx]; decide)]
  unfold getAttrByItsOwn hookBefore
  repeat (any_goals (first | assumption | with_reducible refine L0.at ?_ | with_reducible refine L1.at ?_ | with_reducible refine L2.at ?_ | wp_step))
  refine codeAny_call_builtin FB.ga.plain PySem.F.entry_bexc_ga ?_
  simp only [checkBuiltinCall, kd, sid]
  refine wpAny_bind (L4.at ?_)
  repeat (any_goals (first | assumption | with_reducible refine L0.at ?_ | with_reducible refine L1.at ?_ | with_reducible refine L2.at ?_ | with_reducible refine L5.at ?_ | wp_step))
  show wpAny _ _ (handedOut v) _ _ _
  rw [handedOut_of hv]
  exact wpAny_pure hq
end
section
variable {X : Cx} {K : PySem.W.Frag} {H : Hp} {Q : VK}
@[irreducible] def rIsiD (K : PySem.W.Frag) (x c : V) (H : Hp) (Q : VK) : Prop := rIsiX K x c H Q ∨ ∃ (ea D d : Addr) (fs : List (Str × V)) (b : Bool), x = .ref ea ∧ H ea = some (excO ea (.ref D) (some d)) ∧ H d = some (.xd fs) ∧ ExcK K D ∧ (PySem.W.clsIn K D).isSome = true ∧ (∀ cv, RelV c cv → PySem.W.kitOne K (.ref D) cv = some b) ∧ Q (.bl b) H
def rIsiMD (K : PySem.W.Frag) : List V → Hp → VK → Prop := fun xs H Q => match xs with
  | [x, c] => rIsiD K x c H Q
  | _ => False
theorem cIsiD (hK : X.K = K) : CallR X (.builtin "isinstance") (rIsiMD K) := by
  subst hK
  intro pins s σ H xs us Q I r h
  unfold rIsiMD at h
  split at h
  · unfold rIsiD at h
    rcases h with h | ⟨ea, D, d, fs, b, rfl, h1, h0, h2, h3, h4, h5⟩
    · exact cIsiX rfl pins s σ H _ us Q I r h
    · obtain ⟨u, w, rfl, r1, r2⟩ := vals2 r
      cases r1
      obtain ⟨p, _⟩ := I.hok ea _ h1
      obtain ⟨_, ⟨od, _, _, e0, _⟩, _⟩ := (show ObjOk X.prog X.w H s.heap d (.xd fs) from I.hok d _ h0)
      exact PySem.W.kia_one (kitx_excD h2 h3) I.kIn ⟨p, od, e0⟩ (h4 _ r2) (fun z => nomatch z) fun tk => ⟨.bl b, H, I.tok _, rfl, h5⟩
  · exact h.elim
theorem isiD_of {x c : V} (h : rIsiX K x c H Q) : rIsiD K x c H Q := by unfold rIsiD; exact .inl h
theorem isiDE_rd {ea D d C : Addr} {fs : List (Str × V)} {b : Bool} (h1 : H ea = some (excO ea (.ref D) (some d))) (h0 : H d = some (.xd fs)) (h2 : ExcK K D) (h3 : (PySem.W.clsIn K D).isSome = true) (e : PySem.W.kitOne K (.ref D) (.ref C) = some b) (q : Q (.bl b) H) : rIsiD K (.ref ea) (.ref C) H Q := by
  unfold rIsiD; exact .inr ⟨ea, D, d, fs, b, rfl, h1, h0, h2, h3, fun cv r => by cases r; exact e, q⟩
theorem isiDT_rd {ea D d : Addr} {fs : List (Str × V)} {n : String} {b : Bool} (h1 : H ea = some (excO ea (.ref D) (some d))) (h0 : H d = some (.xd fs)) (h2 : ExcK K D) (h3 : (PySem.W.clsIn K D).isSome = true) (e : PySem.W.kitOne K (.ref D) (.type n) = some b) (q : Q (.bl b) H) : rIsiD K (.ref ea) (.ty n) H Q := by
  unfold rIsiD; exact .inr ⟨ea, D, d, fs, b, rfl, h1, h0, h2, h3, fun cv r => by cases r; exact e, q⟩
/-! e.f of a caught exception -/
@[irreducible] def rFldE (K : PySem.W.Frag) (ea : Addr) (f : Str) (H : Hp) (Q : VK) : Prop := ∃ (D d : Addr) (fs : List (Str × V)) (v : V), H ea = some (excO ea (.ref D) (some d)) ∧ H d = some (.xd fs) ∧ fs.lookup f = some v ∧ ExcK K D ∧ PySem.W.hasDictIn K D = true ∧ PySem.W.findIn K (.ref D) f = some none ∧ Q v H
def qFldE (K : PySem.W.Frag) (te : TE) (f : Str) : TE := fun σ H Q => te σ H fun x H1 => match x with
  | .ref ea => rFldE K ea f H1 Q
  | _ => False
theorem peFldE {e : Expr} {te : TE} {f : Str} {pos : Pos} (hK : X.K = K) (he : PE X e te) (hb : attributeBase e f X.env (eval e X.env) = eval e X.env := by rfl) : PE X (.Attribute e f pos) (qFldE K te f) := by
  subst hK
  intro pins s σ H Q I h
  refine attr_of hb (thn (he pins s σ H _ I h) fun u s1 ⟨x, H1, I1, rx, q⟩ => ?_)
  dsimp only at q
  split at q
  case h_2 => exact q.elim
  rename_i ea
  obtain rfl : u = Value.ref ea := rx
  unfold rFldE at q
  obtain ⟨D, d, fs, v, h1, h2, h3, h4, h5, h6, q⟩ := q
  obtain ⟨⟨oe, vs, he, hc, hdx, hd⟩, _⟩ := I1.hok ea _ h1
  obtain ⟨mA, n, r⟩ := (show ObjOk X.prog X.w H1 s1.heap d (.xd fs) from I1.hok d _ h2)
  obtain ⟨od, hod, hl⟩ := lookIn_ns n
  obtain ⟨u, hu, ru⟩ := RelO.some_of (v := v) (o := mA f) (by rw [← h3]; exact r f)
  exact exc_attr I1.kIn he hc hdx hd hod h4 h5 h6 (by rw [hl, hu]) (handed_of ru) ⟨v, H1, I1.tok _, ru, q⟩
theorem fldE_rd {ea D d : Addr} {f : Str} {fs : List (Str × V)} {v : V} (h1 : H ea = some (excO ea (.ref D) (some d))) (h2 : H d = some (.xd fs)) (h3 : fs.lookup f = some v) (h4 : ExcK K D) (h5 : PySem.W.hasDictIn K D = true) (h6 : PySem.W.findIn K (.ref D) f = some none) (q : Q v H) : rFldE K ea f H Q := by
  unfold rFldE; exact ⟨D, d, fs, v, h1, h2, h3, h4, h5, h6, q⟩
end
end L2
namespace L2
open PySem PySem.Spec PyProof.Rows
/-! ### short words for a class with an __init__ -/
def IniF (K : PySem.W.Frag) (qual : Str) (st : Stmt) (f : Addr) (pn : Str) : Prop := ∃ fd, Fun K "__init__" qual st f fd ∧ Binds K fd ["self", pn] []
def IniOk (P : Program) (w : World) (K : PySem.W.Frag) (mg : Str → Option Value) (base : Heap) (C f : Addr) (fld : Str) : Prop := ∃ pn fd, FnOk P w K mg base CX0 1 f fd ["self", pn] (sp_init C fld) ∧ Binds K fd ["self", pn] []
theorem tail_self {K : PySem.W.Frag} {aH : Addr} {h : Heap} (X : K.In h) (q : PySem.W.excIn K aH bmV newV = true) : OwnTail h bmV (.ref aH :: bmV) := by
  refine PySem.W.tail_of_in X ?_
  unfold PySem.W.excIn at q
  split at q
  case h_2 => cases q
  rename_i dd cd sl ho
  split at q
  case h_2 => cases q
  simp only [Bool.and_eq_true, beq_iff_eq, Bool.not_eq_true'] at q
  obtain ⟨⟨⟨⟨⟨q1, q2⟩, q3⟩, q4⟩, q5⟩, q6⟩ := q
  unfold PySem.W.tailIn
  dsimp only
  rw [ho]
  dsimp only
  rw [q5, q6]
  have e : PySem.W.tailIn K bmV bmV = true := by unfold PySem.W.tailIn; rw [Bool.or_eq_true]; exact .inl (by simp)
  rw [e]
  simp
theorem psRaiseO {X : Cx} {C aH f : Addr} {fld x : Str} {E : XK} {e₀ : Expr} {te : TE} {np cpos pos : Pos} (Z : IniK X.K C aH f fld) (hm : X.mg x = some (.ref C)) (O : IniOk X.prog X.w X.K X.mg X.base C f fld) (hr : Room 2 X.A) (hc : X.calm = true) (hout : XOut X E) (he0 : PE X e₀ te)
    (hg : Gl X x := by rfl) (hd : (x == ("__debug__" : Str)) = false := by decide) (he : starEach [e₀] X.env = (false, eval e₀ X.env) :: starEach [] X.env := by rfl) (hpl : (backTo cpos (starEach [] X.env)).any (·.1) = false := by rfl) :
    PS X (.Raise (some (.Call (.Name x np) [e₀] [] cpos)) none pos) (qRaiseI C fld E te) := by
  obtain ⟨pn, fd, Fi, hb⟩ := O
  exact psRaiseI Z hm Fi hb hr hc hout he0 hg hd he hpl
end L2

set_option Elab.async false
set_option linter.all false
set_option maxRecDepth 100000
set_option maxHeartbeats 2000000
namespace L2
open PySem PySem.Spec PyProof.Rows
/-! ### comprehensions whose target is seen by an inner one: it is a cell -/
def OneCell (x0 : Str) (names : List (Str × NameKind)) : Prop := names.filter (fun y => y.2 == .cell) = [(x0, .cell)] ∧ names.lookup x0 = some .cell
theorem OneCell.only {x0 : Str} {names : List (Str × NameKind)} (h : OneCell x0 names) : ∀ y ∈ names, y.2 = .cell → y.1 = x0 := fun y hy hc => by
  have : y ∈ names.filter (fun y => y.2 == .cell) := List.mem_filter.mpr ⟨hy, by rw [hc]; rfl⟩
  rw [h.1] at this
  rw [List.mem_singleton.mp this]
section
variable {X : Cx} {pins : List (Addr × Obj)} {σ : St} {H : Hp} {s2 : Shared}
end
end L2

set_option Elab.async false
set_option linter.all false
set_option maxRecDepth 100000
set_option maxHeartbeats 1000000
namespace L2
open PySem PySem.Spec PyProof.Rows

/-! ### lists of pairs as tables -/
section
variable {κ : Type} [DecidableEq κ]
def valV (kvs : List (κ × V)) (k : κ) : Option V := (kvs.find? fun kv => decide (kv.1 = k)).map (·.2)
/-- in its place, or at the end -/
def putK (kvs : List (κ × V)) (k : κ) (v : V) : List (κ × V) :=
  if (kvs.any fun kv => decide (kv.1 = k)) = true then kvs.map (fun kv => if kv.1 = k then (kv.1, v) else kv) else kvs ++ [(k, v)]
theorem valV_pos {p : κ × V} {r : List (κ × V)} {k : κ} (e : p.1 = k) : valV (p :: r) k = some p.2 := by simp [valV, List.find?_cons, e]
theorem valV_neg {p : κ × V} {r : List (κ × V)} {k : κ} (e : ¬ p.1 = k) : valV (p :: r) k = valV r k := by simp [valV, List.find?_cons, e]
/-- raw tables of the same keys -/
theorem KV.val {kvs : List (κ × V)} {vs : List (κ × Value)} (r : KV kvs vs) (k : κ) : RelO (valV kvs k) (valueAt vs k) := by
  unfold KV at r
  induction r with
  | nil => exact True.intro
  | @cons p q ps qs h t ih =>
    obtain ⟨h1, h2⟩ := h
    by_cases e : p.1 = k
    · have e' : q.1 = k := h1.symm.trans e
      have b : valueAt (q :: qs) k = some q.2 := by simp [valueAt, List.find?_cons, e']
      rw [valV_pos e, b]; exact h2
    · have e' : ¬ q.1 = k := fun z => e (h1.trans z)
      have b : valueAt (q :: qs) k = valueAt qs k := by simp [valueAt, List.find?_cons, e']
      rw [valV_neg e, b]; exact ih
theorem KV.any {kvs : List (κ × V)} {vs : List (κ × Value)} (r : KV kvs vs) (k : κ) : (kvs.any fun kv => decide (kv.1 = k)) = vs.any fun kv => decide (kv.1 = k) := by
  unfold KV at r
  induction r with
  | nil => rfl
  | cons h t ih => rw [List.any_cons, List.any_cons, ih, h.1]
theorem KV.length {kvs : List (κ × V)} {vs : List (κ × Value)} (r : KV kvs vs) : kvs.length = vs.length := Paired.length r
end


/-! ### a tracked dict, its keys ints and texts or tuples of these -/
section
variable {P : Program} {w : World} {H : Hp} {h : Heap} {a : Addr}
theorem rd_of {u : HO} (ok : HOk P w H h) (e : Rd H a u) : ObjOk P w H h a u := e.ok ok
theorem dk_rd {kvs : List (Key × V)} (ok : HOk P w H h) (e : Rd H a (.dK kvs)) : kvs.length ≤ sizeLine ∧ (a == sysModules) = false ∧ ∃ vs, KV kvs vs ∧ h.DictOf (mixKind P w) a vs :=
  show ObjOk P w H h a (.dK kvs) from rd_of ok e
theorem dk_of {kvs : List (Key × V)} (ok : HOk P w H h) (e : H a = some (.dK kvs)) : kvs.length ≤ sizeLine ∧ (a == sysModules) = false ∧ ∃ vs, KV kvs vs ∧ h.DictOf (mixKind P w) a vs := dk_rd ok (.inl e)
end

/-- what the dict at a holds at the key y -/
def DGet (H : Hp) (a : Addr) (y : V) (r : Option V) : Prop :=
  (∃ kvs k, Rd H a (.dK kvs) ∧ y = kV k ∧ r = valV kvs k) ∨ ∃ kvs k b, Rd H a (.dT kvs) ∧ y = .ref b ∧ H b = some (.tup (k.map kV)) ∧ r = valV kvs k
/-- the heap behind a[y] = v -/
def DPut (H : Hp) (a : Addr) (y v : V) (H' : Hp) : Prop :=
  (∃ kvs k, H a = some (.dK kvs) ∧ y = kV k ∧ kvs.length < sizeLine ∧ H' = upd H a (.dK (putK kvs k v))) ∨
  ∃ kvs k b, H a = some (.dT kvs) ∧ y = .ref b ∧ H b = some (.tup (k.map kV)) ∧ kvs.length < sizeLine ∧ H' = upd H a (.dT (putK kvs k v))
theorem DGet.k {H : Hp} {a : Addr} {kvs : List (Key × V)} {k : Key} (e : H a = some (.dK kvs)) : DGet H a (kV k) (valV kvs k) := .inl ⟨kvs, k, .inl e, rfl, rfl⟩
theorem DGet.t {H : Hp} {a b : Addr} {kvs : List (List Key × V)} {k : List Key} (e : H a = some (.dT kvs)) (eb : H b = some (.tup (k.map kV))) : DGet H a (.ref b) (valV kvs k) := .inr ⟨kvs, k, b, .inl e, rfl, eb, rfl⟩
theorem DPut.k {H : Hp} {a : Addr} {kvs : List (Key × V)} {k : Key} {v : V} (e : H a = some (.dK kvs)) (hl : kvs.length < sizeLine) : DPut H a (kV k) v (upd H a (.dK (putK kvs k v))) := .inl ⟨kvs, k, e, rfl, hl, rfl⟩
theorem DPut.t {H : Hp} {a b : Addr} {kvs : List (List Key × V)} {k : List Key} {v : V} (e : H a = some (.dT kvs)) (eb : H b = some (.tup (k.map kV))) (hl : kvs.length < sizeLine) :
    DPut H a (.ref b) v (upd H a (.dT (putK kvs k v))) := .inr ⟨kvs, k, b, e, rfl, eb, hl, rfl⟩


section
variable {X : Cx} {pins : List (Addr × Obj)} {σ : St} {H : Hp} {s : Shared} {a : Addr} {y v : V} {u r : Value} {o : Option V} {A : Around} {E : Value → Shared → Prop}

end

section
variable {X : Cx} {pins : List (Addr × Obj)} {σ : St} {H : Hp} {s : Shared} {a : Addr} {kvs : List (Key × V)} {k : Key} {u : Value} {A : Around} {E : Value → Shared → Prop}
end


/-! ### readings and rules -/
section
variable {X : Cx} {o i e value : Expr} {pos pos' tpos : Pos} {td ty tv : TE}
end


/-! ### displays -/
section
variable {X : Cx} {pos : Pos}
end

/-! ### methods -/
section
variable {X : Cx} {pins : List (Addr × Obj)} {σ : St} {H : Hp} {s : Shared} {a : Addr} {y d : V} {u r : Value} {o : Option V} {A : Around} {E : Value → Shared → Prop}
end

section
variable {X : Cx} {o e f : Expr} {apos cpos : Pos} {td ty tx : TE}
end

/-! ### dict(d): a copy -/
section
variable {X : Cx} {pins : List (Addr × Obj)} {σ : St} {H : Hp} {s : Shared} {a : Addr} {kvs : List (Key × V)} {A : Around} {E : Value → Shared → Prop}
end


section
variable {X : Cx} {pins : List (Addr × Obj)} {σ : St} {H : Hp} {s : Shared} {a : Addr} {y : V} {u : Value} {A : Around} {E : Value → Shared → Prop}
end
end L2
namespace L2
open PySem PySem.Spec PyProof.Rows
/-! ### a dict's pairs: keys that differ -/
section
variable {κ : Type} [DecidableEq κ]
end
end L2

set_option Elab.async false
set_option linter.all false
set_option maxRecDepth 100000
set_option maxHeartbeats 2000000
namespace L2
open PySem PySem.Spec PyProof.Rows
/-! ### a dict walked by its keys, whatever they are -/
section
variable {prog : Program} {w : World} {A : Around} {E : Value → Shared → Prop} {s : Shared} {d it : Addr} {es : Array DictEntry} {ep : Nat}
end
end L2

set_option Elab.async false
set_option linter.all false
set_option maxRecDepth 100000
set_option maxHeartbeats 2000000
namespace L2
open PySem PySem.Spec PyProof.Rows PySem.W
/-! ### sorting by an order that is known: what is asked, what comes out -/
section
variable {lt : Nat → Nat → Bool} {n : Nat}
def Pm (n : Nat) (p : Array Nat) : Prop := p.toList.Perm (List.range n)
end
/-! ### list.sort -/
section
variable {prog : Program} {w : World} {A : Around} {E : Value → Shared → Prop} {s : Shared}
end
end L2

set_option Elab.async false
set_option linter.all false
set_option maxRecDepth 100000
set_option maxHeartbeats 2000000
namespace L2
open PySem PySem.Spec PyProof.Rows PySem.W
/-! ### sorted(d), of a dict whose keys are pairs of ints -/
/-- the order of pairs -/
def ltP (x y : Int × Int) : Bool := if (x.1 == y.1) = true then (if (x.2 == y.2) = true then false else decide (x.2 < y.2)) else decide (x.1 < y.1)
/-- a tuple of two ints -/
def TupI (h : Heap) (v : Value) (x : Int × Int) : Prop := ∃ a o t u n, v = .ref a ∧ h.get? a = some o ∧ o.cls = .type "tuple" ∧ o.data = .seq #[.int x.1 t, .int x.2 u] n
section
variable {prog : Program} {w : World} {A : Around} {E : Value → Shared → Prop} {s : Shared}
end
end L2

set_option Elab.async false
set_option linter.all false
set_option maxRecDepth 100000
set_option maxHeartbeats 2000000
namespace L2
open PySem PySem.Spec PyProof.Rows PySem.W
/-! ### dicts with tuples for keys, read by computing -/
section
variable {X : Cx} {K : PySem.W.Frag}
/- {} -/
/- d[k] -/
/- d.get(k, z) -/
/- d[k] = v -/
/- sorted(d) -/
end
end L2

set_option Elab.async false
set_option linter.all false
set_option maxRecDepth 100000
set_option maxHeartbeats 2000000
namespace L2
open PySem PySem.Spec PyProof.Rows PySem.W
/-! ### what a sort gives is in order -/
section
variable {lt : Nat → Nat → Bool} {n : Nat}
/-- the state: a permutation -/
theorem Pm.size {p : Array Nat} (h : Pm n p) : p.size = n := by have := h.length_eq; rw [Array.length_toList, List.length_range] at this; exact this
end
end L2

set_option Elab.async false
set_option linter.all false
set_option maxRecDepth 100000
set_option maxHeartbeats 2000000
namespace L2
open PySem PySem.Spec PyProof.Rows PySem.W
/-! ### sorted(d) in order -/
section
variable {prog : Program} {w : World} {A : Around} {E : Value → Shared → Prop} {s : Shared}
end
section
variable {X : Cx} {K : PySem.W.Frag}
end
end L2

set_option Elab.async false
set_option linter.all false
set_option maxRecDepth 100000
set_option maxHeartbeats 4000000
namespace L2
open PySem PySem.Spec PyProof.Rows
/-! ### isinstance(e, (C, D)) of what was caught -/
section
variable {X : Cx} {K : PySem.W.Frag} {H : Hp} {Q : VK}
/-- a caught exception of the class D -/
def ExA (H : Hp) (e D : Addr) : Prop := H e = some (excO e (.ref D) none) ∨ ∃ d fs, H e = some (excO e (.ref D) (some d)) ∧ H d = some (.xd fs)
theorem ExA.same {H H' : Hp} {e D : Addr} (x : ExA H e D) (s : Same H H') : ExA H' e D := by
  rcases x with x | ⟨d, fs, x, y⟩
  · exact .inl (s _ _ x)
  · exact .inr ⟨d, fs, s _ _ x, s _ _ y⟩
end
/-! ### try: y = ['..', f(..)] -/
section
variable {X : Cx} {pins : List (Addr × Obj)} {σ : St} {H : Hp} {s : Shared}
end
end L2

set_option Elab.async false
set_option linter.all false
set_option maxRecDepth 100000
set_option maxHeartbeats 4000000
namespace L2
open PySem PySem.Spec PyProof.Rows
/-! ### str(x) of a list, a tuple -/
mutual
inductive ShV (H : Hp) : V → PyData → Prop
  | non : ShV H .non .none
  | bl (b : Bool) : ShV H (.bl b) (.bool b)
  | int (i : Int) : ShV H (.int i) (.int i)
  | str (x : Str) : ShV H (.str x) (.str x)
  | lst {a : Addr} {xs : List V} {ds : List PyData} : H a = some (.lst xs) → ShL H xs ds → ShV H (.ref a) (.list ds)
  | tup {a : Addr} {xs : List V} {ds : List PyData} : H a = some (.tup xs) → ShL H xs ds → ShV H (.ref a) (.tuple ds)
inductive ShL (H : Hp) : List V → List PyData → Prop
  | nil : ShL H [] []
  | cons {x : V} {d : PyData} {xs : List V} {ds : List PyData} : ShV H x d → ShL H xs ds → ShL H (x :: xs) (d :: ds)
end
section
variable {X : Cx} {pins : List (Addr × Obj)} {σ : St} {H H' : Hp} {s : Shared} {Q : VK}
mutual
theorem ShV.same {v : V} {d : PyData} (h : ShV H v d) (k : Same H H') : ShV H' v d := match h with
  | .non => .non
  | .bl b => .bl b
  | .int i => .int i
  | .str x => .str x
  | .lst e l => .lst (k _ _ e) (l.same k)
  | .tup e l => .tup (k _ _ e) (l.same k)
theorem ShL.same {xs : List V} {ds : List PyData} (h : ShL H xs ds) (k : Same H H') : ShL H' xs ds := match h with
  | .nil => .nil
  | .cons a b => .cons (a.same k) (b.same k)
end
theorem ShL.len {xs : List V} {ds : List PyData} (h : ShL H xs ds) : xs.length = ds.length := match h with
  | .nil => rfl
  | .cons _ b => by rw [List.length_cons, List.length_cons, b.len]
mutual
theorem ShV.reads (I : Inv X pins σ H s) {v : V} {d : PyData} {u : Value} (h : ShV H v d) (r : RelV v u) : ∃ as, Reads s.heap u d as := match h with
  | .non => by cases (show u = Value.none from r); exact ⟨_, .none⟩
  | .bl b => by cases (show u = Value.bool b from r); exact ⟨_, .bool b⟩
  | .int i => by obtain ⟨t, q⟩ := (show ∃ t, u = Value.int i t from r); cases q; exact ⟨_, .int i t⟩
  | .str x => by obtain ⟨t, q⟩ := (show ∃ t, u = Value.str x t from r); cases q; exact ⟨_, .str x t⟩
  | .lst (a := a) (xs := xs) e l => by
    cases (show u = Value.ref a from r)
    obtain ⟨_, us, n, rv, h1⟩ := (show ObjOk X.prog X.w H s.heap a (.lst xs) from I.hok a _ e)
    obtain ⟨as, ra⟩ := l.reads I rv
    exact ⟨_, .list h1 rfl rfl (by simpa using ra)⟩
  | .tup (a := a) (xs := xs) e l => by
    cases (show u = Value.ref a from r)
    obtain ⟨_, us, rv, o, h1, h2, n, h3⟩ := (show ObjOk X.prog X.w H s.heap a (.tup xs) from I.hok a _ e)
    obtain ⟨as, ra⟩ := l.reads I rv
    exact ⟨_, .tuple h1 h2 h3 (by simpa using ra)⟩
theorem ShL.reads (I : Inv X pins σ H s) {xs : List V} {ds : List PyData} {us : List Value} (h : ShL H xs ds) (r : Vals xs us) : ∃ as, ReadsAll s.heap us ds as := match h, r with
  | .nil, .nil => ⟨_, .nil⟩
  | .cons a b, .cons r1 r2 => by
    obtain ⟨as, ra⟩ := a.reads I r1
    obtain ⟨bs, rb⟩ := b.reads I r2
    exact ⟨_, .cons ra rb⟩
end
/-- what can be shown: its depth, its length -/
structure Shows (d : PyData) (k m : Nat) : Prop where
  ok : d.showable = true
  nd : d.hasDict = false
  dp : d.depth ≤ k
  ln : d.shown.length ≤ m
theorem Shows.up {d : PyData} {k m k' m' : Nat} (h : Shows d k m) (h1 : k ≤ k') (h2 : m ≤ m') : Shows d k' m' := ⟨h.ok, h.nd, Nat.le_trans h.dp h1, Nat.le_trans h.ln h2⟩
theorem all_show {k m : Nat} : ∀ {ds : List PyData}, (∀ d ∈ ds, Shows d k m) → PyData.showableAll ds = true ∧ PyData.hasDictAll ds = false ∧ PyData.depthAll ds ≤ k ∧ piled (PyData.shownAll ds) ≤ ds.length * (m + 2)
  | [], _ => ⟨rfl, rfl, Nat.zero_le _, by simp [PyData.shownAll, piled]⟩
  | d :: ds, h => by
    have h0 := h d (.head _)
    obtain ⟨a1, a2, a3, a4⟩ := all_show (ds := ds) fun x hx => h x (.tail _ hx)
    refine ⟨by simp [PyData.showableAll, h0.ok, a1], by simp [PyData.hasDictAll, h0.nd, a2], ?_, ?_⟩
    · have := h0.dp
      simp only [PyData.depthAll]
      omega
    · have := h0.ln
      simp only [PyData.shownAll, piled_cons, List.length_cons, Nat.succ_mul]
      omega
theorem textFrom_le : ∀ (ts : List Str) (k : Nat) (acc : Str), (textFrom k acc ts).length ≤ acc.length + piled ts
  | [], _, acc => by simp [textFrom, piled]
  | t :: ts, k, acc => by
    have ih := textFrom_le ts (k + 1) (acc ++ (if k > 0 then ", " else "" : String) ++ t)
    have e : (acc ++ (if k > 0 then ", " else "" : String) ++ t).length = acc.length + (if k > 0 then 2 else 0) + t.length := by
      rw [strLen_append, strLen_append]
      congr 2
      split <;> rfl
    rw [piled_cons]
    show (textFrom (k + 1) _ ts).length ≤ _
    rw [e] at ih
    have e2 : (if k > 0 then 2 else 0) ≤ 2 := by split <;> omega
    omega
theorem Shows.list {ds : List PyData} {k m : Nat} (h : ∀ d ∈ ds, Shows d k m) : Shows (.list ds) (k + 1) (ds.length * (m + 2) + 2) := by
  obtain ⟨a1, a2, a3, a4⟩ := all_show h
  refine ⟨by simpa [PyData.showable] using a1, by simpa [PyData.hasDict] using a2, by simp only [PyData.depth]; omega, ?_⟩
  have := textFrom_le (PyData.shownAll ds) 0 "["
  have e1 : ((("[" : String) : Str)).length = 1 := rfl
  have e2 : ((("]" : String) : Str)).length = 1 := rfl
  simp only [PyData.shown, listText, strLen_append]
  omega
theorem Shows.tuple {ds : List PyData} {k m : Nat} (h : ∀ d ∈ ds, Shows d k m) : Shows (.tuple ds) (k + 1) (ds.length * (m + 2) + 4) := by
  obtain ⟨a1, a2, a3, a4⟩ := all_show h
  refine ⟨by simpa [PyData.showable] using a1, by simpa [PyData.hasDict] using a2, by simp only [PyData.depth]; omega, ?_⟩
  have e1 : ((("(" : String) : Str)).length = 1 := rfl
  have e3 : ((if (PyData.shownAll ds).length == 1 then ",)" else ")" : String) : Str).length ≤ 2 := by split <;> decide
  have e4 : (Str.join ", " (PyData.shownAll ds)).length ≤ piled (PyData.shownAll ds) := by
    by_cases z : PyData.shownAll ds = []
    · rw [z]; decide
    · have := join_length_add _ z; omega
  simp only [PyData.shown, tupleText, strLen_append]
  omega
theorem Shows.int {i : Int} (h : -(10 ^ 100) ≤ i) (h' : i ≤ 10 ^ 100) : Shows (.int i) 0 1921 := by
  have hl : i.natAbs.log2 < 1920 := by
    by_cases z : i.natAbs = 0
    · rw [z]; decide
    · rw [Nat.log2_lt z]
      have h1 : i.natAbs ≤ 10 ^ 100 := by omega
      exact Nat.lt_of_le_of_lt h1 (by decide +kernel)
  exact ⟨by simpa [PyData.showable] using hl, rfl, by simp [PyData.depth], by simpa only [PyData.shown] using PyProof.Rows.int_text_len_1921 hl⟩
theorem Shows.non : Shows .none 0 4 := ⟨rfl, rfl, by simp [PyData.depth], by decide⟩
theorem Shows.bl {b : Bool} : Shows (.bool b) 0 5 := by cases b <;> exact ⟨rfl, rfl, by simp [PyData.depth], by decide⟩
theorem Shows.str {x : Str} {m : Nat} (h : (reprText x).length ≤ m) : Shows (.str x) 0 m := ⟨rfl, rfl, by simp [PyData.depth], h⟩
/-- a list whose parts are shown -/
theorem ShL.of {xs : List V} (f : V → PyData) (h : ∀ x ∈ xs, ShV H x (f x)) : ShL H xs (xs.map f) := by
  induction xs with
  | nil => exact .nil
  | cons x xs ih => exact .cons (h x (.head _)) (ih fun y hy => h y (.tail _ hy))
end
end L2

set_option Elab.async false
set_option linter.all false
set_option maxRecDepth 100000
set_option maxHeartbeats 4000000
namespace L2
open PySem PySem.Spec PyProof.Rows
/-! ### things of any kind: what can be read of the heap as data -/
mutual
def sml : PyData → Bool
  | .none | .bool _ | .int _ | .str _ => true
  | .list xs | .tuple xs => decide (xs.length ≤ 1000) && smlAll xs
  | .dict _ => false
def smlAll : List PyData → Bool
  | [] => true
  | x :: xs => sml x && smlAll xs
end
theorem smlAll_of : ∀ {ds : List PyData}, (∀ d ∈ ds, sml d = true) → smlAll ds = true
  | [], _ => rfl
  | d :: ds, h => by simp [smlAll, h d (.head _), smlAll_of fun x hx => h x (.tail _ hx)]
theorem smlAll_mem : ∀ {ds : List PyData}, smlAll ds = true → ∀ d ∈ ds, sml d = true
  | [], _, d, h => by cases h
  | x :: ds, h, d, hd => by
    simp only [smlAll, Bool.and_eq_true] at h
    rcases List.mem_cons.mp hd with rfl | hd
    · exact h.1
    · exact smlAll_mem h.2 d hd
section
variable {H H' : Hp} {K : PySem.W.Frag} {Q : VK}
theorem ShL.idx : ∀ {xs : List V} {ds : List PyData}, xs.length = ds.length → (∀ (i : Nat) x d, xs[i]? = some x → ds[i]? = some d → ShV H x d) → ShL H xs ds
  | [], [], _, _ => .nil
  | [], _ :: _, h, _ => by simp at h
  | _ :: _, [], h, _ => by simp at h
  | x :: xs, d :: ds, h, k => .cons (k 0 x d rfl rfl) (ShL.idx (by simpa using h) fun i y e h1 h2 => k (i + 1) y e (by simpa using h1) (by simpa using h2))
theorem ShL.get : ∀ {xs : List V} {ds : List PyData} (_ : ShL H xs ds) (i : Nat) (x : V), xs[i]? = some x → ∃ d, ds[i]? = some d ∧ ShV H x d
  | _, _, .nil, i, x, e => by simp at e
  | _, _, .cons a b, 0, x, e => by cases (show some _ = some x from e); exact ⟨_, rfl, a⟩
  | _, _, .cons a b, i + 1, x, e => by
    obtain ⟨d, e1, e2⟩ := ShL.get b i x (by simpa using e)
    exact ⟨d, by simpa using e1, e2⟩
theorem ShL.ex {P : PyData → Prop} : ∀ {xs : List V}, (∀ x ∈ xs, ∃ d, ShV H x d ∧ P d) → ∃ ds, ShL H xs ds ∧ ∀ d ∈ ds, P d
  | [], _ => ⟨[], .nil, fun _ h => by cases h⟩
  | x :: xs, h => by
    obtain ⟨d, h1, h2⟩ := h x (.head _)
    obtain ⟨ds, h3, h4⟩ := ShL.ex (xs := xs) fun y hy => h y (.tail _ hy)
    refine ⟨d :: ds, .cons h1 h3, fun e he => ?_⟩
    rcases List.mem_cons.mp he with rfl | he
    · exact h2
    · exact h4 e he
/-- readable: as data, small, with a text of at most m signs -/
def Rda (H : Hp) (v : V) (k m : Nat) : Prop := ∃ d, ShV H v d ∧ sml d = true ∧ Shows d k m
theorem Rda.same {v : V} {k m : Nat} (h : Rda H v k m) (s : Same H H') : Rda H' v k m := by obtain ⟨d, h1, h2, h3⟩ := h; exact ⟨d, h1.same s, h2, h3⟩
theorem Rda.up {v : V} {k m k' m' : Nat} (h : Rda H v k m) (h1 : k ≤ k' := by omega) (h2 : m ≤ m' := by omega) : Rda H v k' m' := by obtain ⟨d, a, b, c⟩ := h; exact ⟨d, a, b, c.up h1 h2⟩
theorem Rda.int {i : Int} (h : -(10 ^ 100) ≤ i) (h' : i ≤ 10 ^ 100) : Rda H (.int i) 0 1921 := ⟨_, .int i, rfl, Shows.int h h'⟩
theorem Rda.non : Rda H .non 0 1921 := ⟨_, .non, rfl, Shows.non.up (by omega) (by omega)⟩
theorem Rda.bl {b : Bool} : Rda H (.bl b) 0 1921 := ⟨_, .bl b, rfl, Shows.bl.up (by omega) (by omega)⟩
theorem Rda.str {x : Str} (h : (reprText x).length ≤ 1921) : Rda H (.str x) 0 1921 := ⟨_, .str x, rfl, Shows.str h⟩
theorem Rda.lst {a : Addr} {xs : List V} {k m : Nat} (e : H a = some (.lst xs)) (l : xs.length ≤ 1000) (h : ∀ x ∈ xs, Rda H x k m) : Rda H (.ref a) (k + 1) (xs.length * (m + 2) + 4) := by
  obtain ⟨ds, h1, h2⟩ := ShL.ex (P := fun d => sml d = true ∧ Shows d k m) h
  have hl := h1.len
  refine ⟨.list ds, .lst e h1, ?_, ?_⟩
  · simp only [sml, Bool.and_eq_true, decide_eq_true_eq]
    exact ⟨by omega, smlAll_of fun d hd => (h2 d hd).1⟩
  · have := Shows.list (ds := ds) (k := k) (m := m) fun d hd => (h2 d hd).2
    rw [hl]
    exact this.up (Nat.le_refl _) (by omega)
theorem Rda.tup {a : Addr} {xs : List V} {k m : Nat} (e : H a = some (.tup xs)) (l : xs.length ≤ 1000) (h : ∀ x ∈ xs, Rda H x k m) : Rda H (.ref a) (k + 1) (xs.length * (m + 2) + 4) := by
  obtain ⟨ds, h1, h2⟩ := ShL.ex (P := fun d => sml d = true ∧ Shows d k m) h
  have hl := h1.len
  refine ⟨.tuple ds, .tup e h1, ?_, ?_⟩
  · simp only [sml, Bool.and_eq_true, decide_eq_true_eq]
    exact ⟨by omega, smlAll_of fun d hd => (h2 d hd).1⟩
  · have := Shows.tuple (ds := ds) (k := k) (m := m) fun d hd => (h2 d hd).2
    rw [hl]
    exact this
/-! isinstance of any thing -/
def isD (n : String) : PyData → Bool
  | .none => false
  | .bool _ => n == "bool" || n == "int"
  | .int _ => n == "int"
  | .str _ => n == "str"
  | .list _ => n == "list"
  | .tuple _ => n == "tuple"
  | .dict _ => n == "dict"
theorem isiD_rd' {v : V} {d : PyData} {n : String} (h : ShV H v d) (hn : n = "int" ∨ n = "bool" ∨ n = "list" ∨ n = "tuple") (q : Q (.bl (isD n d)) H) : rIsiA K v (.ty n) H Q := by
  rcases hn with rfl | rfl | rfl | rfl <;> cases h
  all_goals first
    | exact isiN_rd q (by rfl)
    | exact isiB_rd q (by rfl)
    | exact isiI_rd q (by rfl)
    | exact isiS_rd q (by rfl)
    | (rename_i e l; exact isiL_rd e q (by rfl))
    | (rename_i e l; exact isiT_rd e q (by rfl))
end
theorem peI_of {X : Cx} {e : Expr} {te : TE} (h : PE X e te) : PEI X e te := by unfold PEI; exact h
end L2

set_option Elab.async false
set_option linter.all false
set_option maxRecDepth 100000
set_option maxHeartbeats 4000000
namespace L2
open PySem PySem.Spec PyProof.Rows
/-! ### x in a list or a tuple of flat things -/
section
variable {X : Cx} {K : PySem.W.Frag} {H : Hp} {Q : VK}
/-! ### str of any thing -/
def strD : PyData → Str
  | .str x => x
  | d => d.shown
@[irreducible] def rStrA (x : V) (H : Hp) (Q : VK) : Prop := ∃ d : PyData, ShV H x d ∧ Shows d 20 16000000 ∧ Q (.str (strD d)) H
def rStrAM : List V → Hp → VK → Prop := fun xs H Q => match xs with
  | [x] => rStrA x H Q
  | _ => False
theorem cStrA {j : Nat} (hr : Room j X.A) : CallR X (.type "str") rStrAM := fun pins s σ H xs us Q I r h => by
  unfold rStrAM at h
  split at h
  · unfold rStrA at h
    obtain ⟨d, hv, hs, q⟩ := h
    obtain ⟨u, rfl, r1⟩ := vals1 r
    have := hr.un
    have hd := hs.dp
    cases hv with
    | non => cases (show u = Value.none from r1); exact P.str_of_none ⟨.str _, H, I.tok _, ⟨_, rfl⟩, q⟩
    | bl b => cases (show u = Value.bool b from r1); exact P.str_of_bool ⟨.str _, H, I.tok _, ⟨_, rfl⟩, q⟩
    | int i =>
      obtain ⟨t, e⟩ := (show ∃ t, u = Value.int i t from r1)
      cases e
      have ok : decide (i.natAbs.log2 < 1920) = true := hs.ok
      exact P.str_of_int (of_decide_eq_true ok) ⟨.str _, H, I.tok _, ⟨_, rfl⟩, q⟩
    | str x =>
      obtain ⟨t, e⟩ := (show ∃ t, u = Value.str x t from r1)
      cases e
      exact P.str_of_str ⟨.str x, H, I, ⟨_, rfl⟩, q⟩
    | @lst a xs ds e l =>
      cases (show u = Value.ref a from r1)
      obtain ⟨as, rd⟩ := (ShV.lst e l).reads I rfl
      exact str_of_reads (h₀ := s.heap) rd hs.ok (fun z => by rw [hs.nd] at z; cases z) hr.gd (by omega) (fun _ _ e => e) (fun h' u tk hk => ⟨.str _, H, I.kept hk, ⟨_, rfl⟩, q⟩) (Nat.le_trans hs.ln (by decide))
    | @tup a xs ds e l =>
      cases (show u = Value.ref a from r1)
      obtain ⟨as, rd⟩ := (ShV.tup e l).reads I rfl
      exact str_of_reads (h₀ := s.heap) rd hs.ok (fun z => by rw [hs.nd] at z; cases z) hr.gd (by omega) (fun _ _ e => e) (fun h' u tk hk => ⟨.str _, H, I.kept hk, ⟨_, rfl⟩, q⟩) (Nat.le_trans hs.ln (by decide))
  · exact h.elim
theorem strA_rd {x : V} {d : PyData} (h : ShV H x d) (hs : Shows d 20 16000000) (q : Q (.str (strD d)) H) : rStrA x H Q := by unfold rStrA; exact ⟨d, h, hs, q⟩
end
end L2

set_option Elab.async false
set_option linter.all false
set_option maxRecDepth 100000
set_option maxHeartbeats 4000000
namespace L2
open PySem PySem.Spec PyProof.Rows PySem.W
/-! ### dicts with ints for keys -/
section
variable {X : Cx} {K : PySem.W.Frag} {H : Hp} {Q : VK}
/- {}: of either kind -/
/- ints under ints -/
def dI (kv : List (Int × Int)) : List (Key × V) := kv.map fun z => (.inl z.1, .int z.2)
def valI (kv : List (Int × Int)) (i : Int) : Option Int := (kv.find? fun z => decide (z.1 = i)).map (·.2)
theorem valV_dI (i : Int) : ∀ kv : List (Int × Int), valV (dI kv) (.inl i) = (valI kv i).map V.int
  | [] => rfl
  | z :: kv => by
    by_cases e : z.1 = i
    · show valV (((.inl z.1 : Key), V.int z.2) :: dI kv) (.inl i) = _
      rw [valV_pos (by exact congrArg Sum.inl e)]
      unfold valI
      rw [List.find?_cons, decide_eq_true e]; rfl
    · show valV (((.inl z.1 : Key), V.int z.2) :: dI kv) (.inl i) = _
      rw [valV_neg (by exact fun q => e (Sum.inl.inj q)), valV_dI i kv]
      unfold valI
      rw [List.find?_cons, decide_eq_false e]
def eqDI (ka kb : List (Int × Int)) : Bool := ka.length == kb.length && ka.all fun z => valI kb z.1 == some z.2
theorem hits_dI {A : Around} {s : Shared} {kb : List (Int × Int)} {ws : List (Key × Value)} (rb : KV (dI kb) ws) : ∀ {ka : List (Int × Int)} {vs : List (Key × Value)}, KV (dI ka) vs → KeqHits A s ws vs (ka.all fun z => valI kb z.1 == some z.2)
  | [], vs, r => by
    unfold KV dI at r
    cases r
    exact .nil
  | z :: ka, vs, r => by
    unfold KV dI at r
    rw [List.map_cons] at r
    cases r with
    | @cons p q ps qs h t =>
      obtain ⟨h1, h2⟩ := h
      obtain ⟨k, v⟩ := q
      cases (show (Sum.inl z.1 : Key) = k from h1)
      have val := rb.val (.inl z.1)
      rw [valV_dI] at val
      rw [List.all_cons]
      cases e : valI kb z.1 with
      | none =>
        rw [e] at val
        have : valueAt ws (.inl z.1) = none := by
          cases w : valueAt ws (.inl z.1) with
          | none => rfl
          | some y => rw [w] at val; exact val.elim
        have f : ((none : Option Int) == some z.2) = false := rfl
        rw [f, Bool.false_and]
        exact .miss this
      | some n =>
        rw [e] at val
        obtain ⟨y, ey, ry⟩ : ∃ y, valueAt ws (.inl z.1) = some y ∧ RelV (.int n) y := by
          cases w : valueAt ws (.inl z.1) with
          | none => rw [w] at val; exact val.elim
          | some y => rw [w] at val; exact ⟨y, rfl, val⟩
        have q := eqAt_V (A := A) (s := s) (show RelV (.int z.2) v from h2) ry rfl rfl
        have e2 : eqV (.int z.2) (.int n) = (some n == some z.2) := by
          by_cases d : z.2 = n
          · subst d; simp [eqV]
          · have d' : ¬ n = z.2 := fun x => d x.symm
            show (z.2 == n) = (some n == some z.2)
            rw [beq_eq_false_iff_ne.mpr d]
            exact (beq_eq_false_iff_ne.mpr fun x => d' (Option.some.inj x)).symm
        rw [e2] at q
        exact .hit ey q (hits_dI rb t)
/-! ### == of lists and tuples, of dicts of ints, of things of any kind -/
@[irreducible] def rEqX (K : PySem.W.Frag) (x y : V) (H : Hp) (Q : VK) : Prop :=
  (∃ a b n c, x = .ref a ∧ y = .ref b ∧ n ≤ 40 ∧ EqR K H n (.ref a) (.ref b) c ∧ Q (.bl c) H) ∨
  (∃ a b ka kb, x = .ref a ∧ y = .ref b ∧ H a = some (.dK (dI ka)) ∧ H b = some (.dK (dI kb)) ∧ Q (.bl (eqDI ka kb)) H) ∨
  ∃ d e, ShV H x d ∧ ShV H y e ∧ d.canLay0 = true ∧ e.canLay0 = true ∧ d.depth ≤ 40 ∧ Q (.bl (PyData.eqv d e)) H
def rEqXM (K : PySem.W.Frag) : R2 := fun x y H Q => match x, y with
  | .int i, .int j => Q (.bl (decide (i = j))) H
  | .bl i, .bl j => Q (.bl (decide (i = j))) H
  | .str i, .str j => Q (.bl (decide (i = j))) H
  | x, y => rEqX K x y H Q
def rNeXM (K : PySem.W.Frag) : R2 := fun x y H Q => rEqXM K x y H fun v H' => match v with
  | .bl b => Q (.bl (!b)) H'
  | _ => False
theorem oEqX (hu : X.A.units + 40 < cLine) : OpR X (compareOp .Eq) (rEqXM X.K) := by
  intro pins s σ H x y v u Q I rx ry h
  unfold rEqXM at h
  split at h
  · exact op_eq pins s σ H _ _ v u Q I rx ry ⟨rfl, by rw [dec_inj (f := V.int) fun a b e => V.int.inj e]; exact h⟩
  · exact op_eq pins s σ H _ _ v u Q I rx ry ⟨rfl, by rw [dec_inj (f := V.bl) fun a b e => V.bl.inj e]; exact h⟩
  · exact op_eq pins s σ H _ _ v u Q I rx ry ⟨rfl, by rw [dec_inj (f := V.str) fun a b e => V.str.inj e]; exact h⟩
  · unfold rEqX at h
    rcases h with ⟨a, b, n, c, rfl, rfl, hn, h1, h2⟩ | ⟨a, b, ka, kb, rfl, rfl, ea, eb, h⟩ | ⟨d, e, hd, he, cd, ce, dd, h⟩
    · cases rx
      cases ry
      exact EqR.rc I h1 (A := X.A) (by omega) _ _ _ _ ⟨.bl c, H, I, rfl, h2⟩
    · cases rx
      cases ry
      obtain ⟨_, sa, vs, ra, da⟩ := dk_of I.hok ea
      obtain ⟨_, sb, ws, rb, db⟩ := dk_of I.hok eb
      refine keq_eq sa sb da db (by omega) (fun _ => hits_dI rb ra) ⟨.bl (eqDI ka kb), H, I, ?_, h⟩
      have la : vs.length = ka.length := by rw [← ra.length]; unfold dI; rw [List.length_map]
      have lb : ws.length = kb.length := by rw [← rb.length]; unfold dI; rw [List.length_map]
      rw [la, lb]
      rfl
    · obtain ⟨as, r1⟩ := hd.reads I rx
      obtain ⟨bs, r2⟩ := he.reads I ry
      exact SeqAt.compareEq_reads r1 r2 cd ce (by have := Nat.min_le_left d.depth e.depth; omega) ⟨.bl (PyData.eqv d e), H, I, rfl, h⟩
theorem oNeX (hu : X.A.units + 40 < cLine) : OpR X (compareOp .NotEq) (rNeXM X.K) := by
  intro pins s σ H x y v u Q I rx ry h
  unfold rNeXM rEqXM at h
  split at h
  · exact op_ne pins s σ H _ _ v u Q I rx ry ⟨rfl, by rw [dec_inj (f := V.int) fun a b e => V.int.inj e]; exact h⟩
  · exact op_ne pins s σ H _ _ v u Q I rx ry ⟨rfl, by rw [dec_inj (f := V.bl) fun a b e => V.bl.inj e]; exact h⟩
  · exact op_ne pins s σ H _ _ v u Q I rx ry ⟨rfl, by rw [dec_inj (f := V.str) fun a b e => V.str.inj e]; exact h⟩
  · unfold rEqX at h
    rcases h with ⟨a, b, n, c, rfl, rfl, hn, h1, h2⟩ | ⟨a, b, ka, kb, rfl, rfl, ea, eb, h⟩ | ⟨d, e, hd, he, cd, ce, dd, h⟩
    · cases rx
      cases ry
      exact EqR.rcNe I h1 (A := X.A) (by omega) _ _ _ _ ⟨.bl (!c), H, I, rfl, h2⟩
    · cases rx
      cases ry
      obtain ⟨_, sa, vs, ra, da⟩ := dk_of I.hok ea
      obtain ⟨_, sb, ws, rb, db⟩ := dk_of I.hok eb
      refine keq_ne sa sb da db (by omega) (fun _ => hits_dI rb ra) ⟨.bl (!eqDI ka kb), H, I, ?_, h⟩
      have la : vs.length = ka.length := by rw [← ra.length]; unfold dI; rw [List.length_map]
      have lb : ws.length = kb.length := by rw [← rb.length]; unfold dI; rw [List.length_map]
      rw [la, lb]
      rfl
    · obtain ⟨as, r1⟩ := hd.reads I rx
      obtain ⟨bs, r2⟩ := he.reads I ry
      exact SeqAt.compareNe_reads r1 r2 cd ce (by have := Nat.min_le_left d.depth e.depth; omega) ⟨.bl (!PyData.eqv d e), H, I, rfl, h⟩
theorem eqX_rd {a b : Addr} {n : Nat} {c : Bool} (h : EqR K H n (.ref a) (.ref b) c) (q : Q (.bl c) H) (hn : n ≤ 40 := by decide) : rEqX K (.ref a) (.ref b) H Q := by unfold rEqX; exact .inl ⟨a, b, n, c, rfl, rfl, hn, h, q⟩
theorem eqS_rd {x y : V} {d e : PyData} (hd : ShV H x d) (he : ShV H y e) (cd : d.canLay0 = true) (ce : e.canLay0 = true) (dd : d.depth ≤ 40) (q : Q (.bl (PyData.eqv d e)) H) : rEqX K x y H Q := by unfold rEqX; exact .inr (.inr ⟨d, e, hd, he, cd, ce, dd, q⟩)
end
end L2

set_option Elab.async false
set_option linter.all false
set_option maxRecDepth 100000
set_option maxHeartbeats 4000000
namespace L2
open PySem PySem.Spec PyProof.Rows PySem.W
/-! ### < of two pairs of ints -/
theorem tuple_lt2 (l b : Addr) (x y : Int × Int) (t u t' u' : Tok) (n n2 : Nat) (dd dd2 : Option Addr) (sl sl2 : Array (Option Value)) :
    Meets (Builtin.«tuple.__lt__» ⟨[.ref l, .ref b], []⟩)
      (fun A R s => s.heap.get? l = some { cls := .type "tuple", dict := dd, data := .seq #[.int x.1 t, .int x.2 u] n, slots := sl } ∧ s.heap.get? b = some { cls := .type "tuple", dict := dd2, data := .seq #[.int y.1 t', .int y.2 u'] n2, slots := sl2 } ∧
        R (.ok (.ret (.bool (ltP x y)))) s) :=
  .of_wp fun prog w A R s h => by
    obtain ⟨hp, g, d, tk, os⟩ := s; obtain ⟨hl, hb, h⟩ := h
    have f2 := AutoSeq1.sub_tuple_tuple
    wp_walk using wpAny_loadPart' hl, wpAny_loadPart' hb, wpAny_forIn_list _ (fun rest b s' => b.1 = none ∧ s' = ⟨hp, g, d, tk, os⟩ ∧ (rest = [(.int x.1 t, .int y.1 t'), (.int x.2 u, .int y.2 u')] ∨ (x.1 = y.1 ∧ rest = [(.int x.2 u, .int y.2 u')]) ∨ (x.1 = y.1 ∧ x.2 = y.2 ∧ rest = []))) _
    case turn =>
      rintro ⟨p, q⟩ rest b s' ⟨hb', rfl, hz⟩
      rcases hz with hz | ⟨e0, hz⟩ | ⟨_, _, hz⟩
      · cases hz
        refine wpAny_bind (wpAny_eqBool_int ?_)
        cases e : (x.1 == y.1)
        · have h' : R (Except.ok (Flow.ret (Value.bool (decide (x.1 < y.1))))) ⟨hp, g, d, tk, os⟩ := by
            unfold ltP at h
            rw [if_neg (by rw [e]; exact Bool.false_ne_true)] at h
            exact h
          simp only [Bool.not_false, if_true]
          refine wpAny_bind (wpAny_rule ?_)
          refine wpAny_bind ((lt_int (Q := _) ?_ : wpAny _ _ (compareOp .Lt _ _) _ _ _))
          wp_walk
          exact ⟨_, rfl, h'⟩
        · wp_walk
          exact ⟨rfl, rfl, .inr (.inl ⟨by simpa using e, rfl⟩)⟩
      · cases hz
        refine wpAny_bind (wpAny_eqBool_int ?_)
        cases e : (x.2 == y.2)
        · have h' : R (Except.ok (Flow.ret (Value.bool (decide (x.2 < y.2))))) ⟨hp, g, d, tk, os⟩ := by
            unfold ltP at h
            rw [if_pos (by rw [e0]; exact beq_self_eq_true _), if_neg (by rw [e]; exact Bool.false_ne_true)] at h
            exact h
          simp only [Bool.not_false, if_true]
          refine wpAny_bind (wpAny_rule ?_)
          refine wpAny_bind ((lt_int (Q := _) ?_ : wpAny _ _ (compareOp .Lt _ _) _ _ _))
          wp_walk
          exact ⟨_, rfl, h'⟩
        · wp_walk
          exact ⟨rfl, rfl, .inr (.inr ⟨e0, by simpa using e, rfl⟩)⟩
      · cases hz
    case fin =>
      rintro ⟨b1, b2⟩ s' ⟨hb', rfl, hz⟩
      simp only at hb'
      subst hb'
      rcases hz with hz | ⟨e0, hz⟩ | ⟨e0, e1, hz⟩
      · cases hz
      · cases hz
      · have h' : R (Except.ok (Flow.ret (Value.bool false))) ⟨hp, g, d, tk, os⟩ := by
          unfold ltP at h
          rw [if_pos (by rw [e0]; exact beq_self_eq_true _), if_pos (by rw [e1]; exact beq_self_eq_true _)] at h
          exact h
        wp_walk
        exact ⟨_, rfl, h'⟩
    exact ⟨rfl, rfl, .inl rfl⟩
section
variable {prog : Program} {w : World} {A : Around} {E : Value → Shared → Prop} {s : Shared}
theorem lt_pairs {v v' : Value} {x y : Int × Int} {Q : Value → Shared → Prop} (ha : TupI s.heap v x) (hb : TupI s.heap v' y) (hu : A.units < cLine) (h : Q (.bool (ltP x y)) s) : wpAny (model prog w) A (compareOp .Lt v v') Q E s := by
  obtain ⟨a, ⟨cls, dd, data, sl⟩, t, u, n, rfl, ho, hc, hd⟩ := ha
  obtain ⟨b, ⟨cls2, dd2, data2, sl2⟩, t', u', n2, rfl, ho2, hc2, hd2⟩ := hb
  simp only at hc hd hc2 hd2
  subst hc hd hc2 hd2
  exact richCompare_meets_room (op := .Lt) ⟨_, ho, rfl⟩ ⟨_, ho2, rfl⟩ F.slot_tuple_lt F.entry_tuple_lt (F.args_tuple_lt_2 _ _) (tuple_lt2 a b x y t u t' u' n n2 dd dd2 sl sl2)
    ⟨ho, ho2, show Value.bool (ltP x y) ≠ Value.notImplemented ∧ Q (.bool (ltP x y)) s from ⟨(fun x => nomatch x), h⟩⟩ hu
end
section
variable {X : Cx} {K : PySem.W.Frag} {H : Hp} {Q : VK}
def pV (x : Int × Int) : List V := [.int x.1, .int x.2]
@[irreducible] def rLtA (a b : Addr) (H : Hp) (Q : VK) : Prop := ∃ x y : Int × Int, H a = some (.tup (pV x)) ∧ H b = some (.tup (pV y)) ∧ Q (.bl (ltP x y)) H
def rLtXM : R2 := fun x y H Q => match x, y with
  | .int i, .int j => Q (.bl (decide (i < j))) H
  | .ref a, .ref b => rLtA a b H Q
  | _, _ => False
theorem tupI_of {pins : List (Addr × Obj)} {σ : St} {H : Hp} {s : Shared} {a : Addr} {x : Int × Int} (I : Inv X pins σ H s) (h : H a = some (.tup (pV x))) : TupI s.heap (.ref a) x := by
  obtain ⟨_, its, rv, o, h1, h2, n, h3⟩ := (show ObjOk X.prog X.w H s.heap a (.tup (pV x)) from I.hok a _ h)
  unfold pV at rv
  cases rv with
  | cons r1 rv =>
    cases rv with
    | cons r2 rv =>
      cases rv
      obtain ⟨t, rfl⟩ := r1
      obtain ⟨u, rfl⟩ := r2
      exact ⟨a, o, t, u, n, rfl, h1, h2, h3⟩
theorem oLtX (hu : X.A.units + 40 < cLine) : OpR X (compareOp .Lt) rLtXM := by
  intro pins s σ H x y v u Q I rx ry h
  unfold rLtXM at h
  split at h
  · exact op_lt pins s σ H _ _ v u Q I rx ry ⟨_, _, rfl, rfl, h⟩
  · unfold rLtA at h
    obtain ⟨x, y, ea, eb, h⟩ := h
    cases rx
    cases ry
    exact lt_pairs (tupI_of I ea) (tupI_of I eb) (by omega) ⟨.bl (ltP x y), H, I, rfl, h⟩
  · exact h.elim
/-! ### a slice of a list or of a tuple -/
@[irreducible] def rSlX (K : PySem.W.Frag) (a : Addr) (lo hi : Option Int) (H : Hp) (Q : VK) : Prop := (∃ xs, SqL K H a xs ∧ ∀ p H', H p = none → Same H H' → H' p = some (.lst (cutV xs lo hi)) → Q (.ref p) H') ∨
  ∃ xs, SqT K H a xs ∧ ¬ (HT.sIx xs.length 0 lo = 0 ∧ HT.sIx xs.length xs.length hi = xs.length) ∧ ∀ p H', H p = none → Same H H' → H' p = some (.tup (cutV xs lo hi)) → Q (.ref p) H'
def rSlXM (K : PySem.W.Frag) : V → Option Int → Option Int → Hp → VK → Prop := fun x lo hi H Q => match x with
  | .ref a => rSlX K a lo hi H Q
  | _ => False
theorem slX : SlR X (rSlXM X.K) := by
  intro pins s σ H x v vl vu lo hi sl Q I rx hs pl pu h
  unfold rSlXM at h
  split at h
  · unfold rSlX at h
    rcases h with ⟨xs, h1, q⟩ | ⟨xs, h1, h2, q⟩
    · exact sl_list pins s σ H _ v vl vu lo hi sl Q I rx hs pl pu ⟨_, xs, rfl, h1, fun p hp => q p _ hp (Same.upd hp) upd_same⟩
    · exact sl_tup pins s σ H _ v vl vu lo hi sl Q I rx hs pl pu ⟨_, xs, rfl, h1, h2, fun p hp => q p _ hp (Same.upd hp) upd_same⟩
  · exact h.elim
theorem slL_rd {a : Addr} {xs : List V} {lo hi : Option Int} (h : SqL K H a xs) (q : ∀ p H', H p = none → Same H H' → H' p = some (.lst (cutV xs lo hi)) → Q (.ref p) H') : rSlX K a lo hi H Q := by unfold rSlX; exact .inl ⟨xs, h, q⟩
theorem oEqXK (hK : X.K = K) (hu : X.A.units + 40 < cLine) : OpR X (compareOp .Eq) (rEqXM K) := by subst hK; exact oEqX hu
theorem oNeXK (hK : X.K = K) (hu : X.A.units + 40 < cLine) : OpR X (compareOp .NotEq) (rNeXM K) := by subst hK; exact oNeX hu
theorem slXK (hK : X.K = K) : SlR X (rSlXM K) := by subst hK; exact slX
/-! ### is and is not of bools and of None -/
end
end L2

set_option Elab.async false
set_option linter.all false
set_option maxRecDepth 100000
set_option maxHeartbeats 4000000
namespace L2
open PySem PySem.Spec PyProof.Rows PySem.W
/-! ### several statements in a try: what raises has stored nothing ahead of it -/
section
variable {X : Cx}
end
/-! ### + of lists, of tuples -/
section
variable {X : Cx} {K : PySem.W.Frag} {H : Hp} {Q : VK}
end
end L2

set_option Elab.async false
set_option linter.all false
set_option maxRecDepth 100000
set_option maxHeartbeats 1000000
namespace G
open PySem L2
def top (i : Nat) : Stmt := PySem.Challenge.pw_hostfields_k40_alike_battles_told.main.body.getD i (.Pass ⟨0, 0, 0, 0⟩)
abbrev s_is_whole : Stmt := top 16
theorem sc_is_whole : FnScope ["thing"] ["thing"] (defScope s_is_whole) := ⟨rfl, rfl, rfl, by decide +kernel, rfl, by decide +kernel, by decide +kernel⟩
abbrev s_is_from : Stmt := top 17
theorem sc_is_from : FnScope ["thing", "least"] ["thing", "least"] (defScope s_is_from) := ⟨rfl, rfl, rfl, by decide +kernel, rfl, by decide +kernel, by decide +kernel⟩
abbrev s_is_between : Stmt := top 18
theorem sc_is_between : FnScope ["thing", "least", "most"] ["thing", "least", "most"] (defScope s_is_between) := ⟨rfl, rfl, rfl, by decide +kernel, rfl, by decide +kernel, by decide +kernel⟩
abbrev s_is_plan : Stmt := top 22
theorem sc_is_plan : FnScope ["hosts", "fields", "plan"] ["hosts", "fields", "plan"] (defScope s_is_plan) := ⟨rfl, rfl, rfl, by decide +kernel, rfl, by decide +kernel, by decide +kernel⟩
abbrev s_sends_hosts : Stmt := top 23
theorem sc_sends_hosts : FnScope ["plan"] ["plan"] (defScope s_sends_hosts) := ⟨rfl, rfl, rfl, by decide +kernel, rfl, by decide +kernel, by decide +kernel⟩
abbrev s_is_size : Stmt := top 24
theorem sc_is_size : FnScope ["hosts", "fields"] ["hosts", "fields"] (defScope s_is_size) := ⟨rfl, rfl, rfl, by decide +kernel, rfl, by decide +kernel, by decide +kernel⟩
abbrev s_look_battle : Stmt := top 34
theorem sc_look_battle : FnScope ["battle", "number", "field"] ["battle"] (defScope s_look_battle) := ⟨rfl, rfl, rfl, by decide +kernel, rfl, by decide +kernel, by decide +kernel⟩
abbrev s_has_size : Stmt := top 35
theorem sc_has_size : FnScope ["battle"] ["battle"] (defScope s_has_size) := ⟨rfl, rfl, rfl, by decide +kernel, rfl, by decide +kernel, by decide +kernel⟩
abbrev s_are_hosts : Stmt := top 36
theorem sc_are_hosts : FnScope ["first", "second"] ["first", "second"] (defScope s_are_hosts) := ⟨rfl, rfl, rfl, by decide +kernel, rfl, by decide +kernel, by decide +kernel⟩
abbrev s_is_field : Stmt := top 37
theorem sc_is_field : FnScope ["first", "second", "field"] ["first", "second", "field"] (defScope s_is_field) := ⟨rfl, rfl, rfl, by decide +kernel, rfl, by decide +kernel, by decide +kernel⟩
abbrev s_is_table : Stmt := top 38
theorem sc_is_table : FnScope ["many_rows", "many_numbers", "rows"] ["many_rows", "many_numbers", "rows"] (defScope s_is_table) := ⟨rfl, rfl, rfl, by decide +kernel, rfl, by decide +kernel, by decide +kernel⟩
abbrev s_is_table_row : Stmt := top 39
theorem sc_is_table_row : FnScope ["many_numbers", "row"] ["many_numbers", "row"] (defScope s_is_table_row) := ⟨rfl, rfl, rfl, by decide +kernel, rfl, by decide +kernel, by decide +kernel⟩
abbrev s_look_plans : Stmt := top 41
theorem sc_look_plans : FnScope ["battle", "one", "other", "fields"] ["battle", "one", "other"] (defScope s_look_plans) := ⟨rfl, rfl, rfl, by decide +kernel, rfl, by decide +kernel, by decide +kernel⟩
abbrev s_ratio : Stmt := top 43
theorem sc_ratio : FnScope ["top", "bottom", "divisor"] ["top", "bottom"] (defScope s_ratio) := ⟨rfl, rfl, rfl, by decide +kernel, rfl, by decide +kernel, by decide +kernel⟩
abbrev s_times : Stmt := top 45
theorem sc_times : FnScope ["one", "other"] ["one", "other"] (defScope s_times) := ⟨rfl, rfl, rfl, by decide +kernel, rfl, by decide +kernel, by decide +kernel⟩
abbrev s_table_worth : Stmt := top 60
theorem sc_table_worth : FnScope ["table"] ["table"] (defScope s_table_worth) := ⟨rfl, rfl, rfl, by decide +kernel, rfl, by decide +kernel, by decide +kernel⟩
abbrev s_won_together : Stmt := top 64
theorem sc_won_together : FnScope ["field", "one", "other", "total", "x"] ["field", "one", "other"] (defScope s_won_together) := ⟨rfl, rfl, rfl, by decide +kernel, rfl, by decide +kernel, by decide +kernel⟩
abbrev s_together_table : Stmt := top 65
theorem sc_together_table : FnScope ["field", "ones", "others"] ["field", "ones", "others"] (defScope s_together_table) := ⟨rfl, rfl, rfl, by decide +kernel, rfl, by decide +kernel, by decide +kernel⟩
abbrev s_is_alike : Stmt := top 68
theorem sc_is_alike : FnScope ["battle"] ["battle"] (defScope s_is_alike) := ⟨rfl, rfl, rfl, by decide +kernel, rfl, by decide +kernel, by decide +kernel⟩
abbrev s_look_alike : Stmt := top 69
theorem sc_look_alike : FnScope ["battle"] ["battle"] (defScope s_look_alike) := ⟨rfl, rfl, rfl, by decide +kernel, rfl, by decide +kernel, by decide +kernel⟩
abbrev s_ring_gain : Stmt := top 70
theorem sc_ring_gain : FnScope ["battle", "one", "other"] ["battle", "one", "other"] (defScope s_ring_gain) := ⟨rfl, rfl, rfl, by decide +kernel, rfl, by decide +kernel, by decide +kernel⟩
abbrev s_all_counts : Stmt := top 71
theorem sc_all_counts : FnScope ["hosts", "fields"] ["hosts", "fields"] (defScope s_all_counts) := ⟨rfl, rfl, rfl, by decide +kernel, rfl, by decide +kernel, by decide +kernel⟩
abbrev s_counts_table : Stmt := top 72
theorem sc_counts_table : FnScope ["battle", "fields"] ["battle"] (defScope s_counts_table) := ⟨rfl, rfl, rfl, by decide +kernel, rfl, by decide +kernel, by decide +kernel⟩
abbrev s_counts_worth : Stmt := top 73
theorem sc_counts_worth : FnScope ["battle", "found", "fields", "one", "other"] ["battle"] (defScope s_counts_worth) := ⟨rfl, rfl, rfl, by decide +kernel, rfl, by decide +kernel, by decide +kernel⟩
abbrev s_counts_mix : Stmt := top 74
theorem sc_counts_mix : FnScope ["hosts", "fields", "weights"] ["hosts", "fields", "weights"] (defScope s_counts_mix) := ⟨rfl, rfl, rfl, by decide +kernel, rfl, by decide +kernel, by decide +kernel⟩
abbrev s__law_purse : Stmt := top 76
theorem sc__law_purse : FnScope ["_law_script", "_law_cells"] ["_law_script"] (defScope s__law_purse) := ⟨rfl, rfl, rfl, by decide +kernel, rfl, by decide +kernel, by decide +kernel⟩
abbrev s__law_draw : Stmt := top 77
theorem sc__law_draw : FnScope ["_law_purse_here", "_law_out_of", "_law_cells", "_law_turn", "_law_at", "_law_cell", "_law_number", "_law_other"] ["_law_purse_here", "_law_out_of"] (defScope s__law_draw) := ⟨rfl, rfl, rfl, by decide +kernel, rfl, by decide +kernel, by decide +kernel⟩
abbrev s__law_field : Stmt := top 78
theorem sc__law_field : FnScope ["_law_purse_here", "_law_first", "_law_second", "_law_kind", "_law_worth", "_law_tie", "_law_near", "_law_rows", "_law_top", "_law_x"] ["_law_purse_here", "_law_first", "_law_second"] (defScope s__law_field) := ⟨rfl, rfl, rfl, by decide +kernel, rfl, by decide +kernel, by decide +kernel⟩
abbrev s__law_copy : Stmt := top 79
theorem sc__law_copy : FnScope ["_law_field_here"] ["_law_field_here"] (defScope s__law_copy) := ⟨rfl, rfl, rfl, by decide +kernel, rfl, by decide +kernel, by decide +kernel⟩
abbrev s__law_changed : Stmt := top 80
theorem sc__law_changed : FnScope ["_law_purse_here", "_law_field_here", "_law_first", "_law_second", "_law_step", "_law_rows", "_law_x", "_law_y"] ["_law_purse_here", "_law_field_here", "_law_first", "_law_second"] (defScope s__law_changed) := ⟨rfl, rfl, rfl, by decide +kernel, rfl, by decide +kernel, by decide +kernel⟩
abbrev s__law_no_field : Stmt := top 81
theorem sc__law_no_field : FnScope ["_law_purse_here", "_law_field_here", "_law_way", "_law_rows", "_law_short", "_law_longer", "_law_bad", "_law_word", "_law_worth", "_law_other", "_law_some"] ["_law_purse_here", "_law_field_here"] (defScope s__law_no_field) := ⟨rfl, rfl, rfl, by decide +kernel, rfl, by decide +kernel, by decide +kernel⟩
abbrev s__law_no_battle : Stmt := top 82
theorem sc__law_no_battle : FnScope ["_law_purse_here", "_law_battle", "_law_first", "_law_second", "_law_fields", "_law_way", "_law_at"] ["_law_purse_here", "_law_battle"] (defScope s__law_no_battle) := ⟨rfl, rfl, rfl, by decide +kernel, rfl, by decide +kernel, by decide +kernel⟩
abbrev s__law_marks : Stmt := top 83
theorem sc__law_marks : FnScope ["_law_caught_here", "_law_some", "_law_words", "_law_found"] ["_law_caught_here"] (defScope s__law_marks) := ⟨rfl, rfl, rfl, by decide +kernel, rfl, by decide +kernel, by decide +kernel⟩
abbrev s__law_caught : Stmt := top 84
theorem sc__law_caught : FnScope ["_law_way", "_law_battle", "_law_one", "_law_other", "_law_caught_here", "e"] ["_law_way", "_law_battle", "_law_one", "_law_other"] (defScope s__law_caught) := ⟨rfl, rfl, rfl, by decide +kernel, rfl, by decide +kernel, by decide +kernel⟩
abbrev s__law_said : Stmt := top 85
theorem sc__law_said : FnScope ["_law_battle", "_law_due", "_law_handed", "_law_found", "_law_plans", "_law_some", "_law_way", "_law_one"] ["_law_battle", "_law_due"] (defScope s__law_said) := ⟨rfl, rfl, rfl, by decide +kernel, rfl, by decide +kernel, by decide +kernel⟩
abbrev s_law : Stmt := top 86
theorem sc_law : FnScope ["_law_script", "_law_purse_here", "_law_turn", "_law_first", "_law_second", "_law_field_here", "_law_fields", "_law_battle", "_law_at", "_law_changed_here", "_law_none", "_law_due", "_law_kept", "_law_way", "_law_caught_here"] ["_law_script"] (defScope s_law) := ⟨rfl, rfl, rfl, by decide +kernel, rfl, by decide +kernel, by decide +kernel⟩
abbrev q_NoBattle : Stmt := inClass (top 2) 0
theorem sc_q_NoBattle : FnScope ["self", "field"] ["self", "field"] (defScope q_NoBattle) := ⟨rfl, rfl, rfl, by decide +kernel, rfl, by decide +kernel, by decide +kernel⟩
theorem ini_NoBattle {P : Program} {w : World} {K : PySem.W.Frag} {mg : Str → Option Value} {base : Heap} {C aH f : Addr} (F : IniF K "NoBattle.__init__" q_NoBattle f "field") (Z : IniK K C aH f "field") : IniOk P w K mg base C f "field" := by
  obtain ⟨fd, F, hb⟩ := F
  refine ⟨_, fd, F.ok sc_q_NoBattle (fun vs H Q E h => by unfold sp_init at h; obtain ⟨_, _, rfl, _⟩ := h; rfl) (fun cdv A outer s H vs Q E hr h => ?_), hb⟩
  unfold sp_init at h
  obtain ⟨e, v, rfl, he, q⟩ := h
  refine ⟨_, (pss_one (psFldX (K := K) rfl Z (pq 0) (pq 1))), ?_⟩
  (conv => whnf)
  exact setX_rd he q
theorem nb_0 : (["sent"] : List Str).Nodup := by decide +kernel
theorem nb_1 : (["number"] : List Str).Nodup := by decide +kernel
theorem nb_2 : (["row", "many_numbers"] : List Str).Nodup := by decide +kernel
theorem nb_3 : (["field", "battle"] : List Str).Nodup := by decide +kernel
theorem nb_4 : (["_law_y", "_law_purse_here", "_law_top"] : List Str).Nodup := by decide +kernel
theorem nb_5 : (["_law_row"] : List Str).Nodup := by decide +kernel
theorem nb_6 : (["_law_row"] : List Str).Nodup := by decide +kernel
theorem nb_7 : (["_law_row"] : List Str).Nodup := by decide +kernel
theorem nb_8 : (["_law_word", "_law_truth"] : List Str).Nodup := by decide +kernel
theorem nb_9 : (["_law_field_here"] : List Str).Nodup := by decide +kernel
theorem nb_10 : (["_law_k", "_law_field_here"] : List Str).Nodup := by decide +kernel
structure Cz (K : PySem.W.Frag) (mg : Str → Option Value) (base : Heap) (a_HostError a_NoBattle a_NoPlan a_NoMix a_NoStream a_NoSide a_NoAlike a_NoNumber a_TooGreat a_NoEven a_NoText a_NoRow a_NoName a_NoPlace a_Grid i_NoBattle : Addr) : Prop where
  g_HostError : mg "HostError" = some (.ref a_HostError)
  g_NoBattle : mg "NoBattle" = some (.ref a_NoBattle)
  g_NoPlan : mg "NoPlan" = some (.ref a_NoPlan)
  g_NoMix : mg "NoMix" = some (.ref a_NoMix)
  g_NoStream : mg "NoStream" = some (.ref a_NoStream)
  g_NoSide : mg "NoSide" = some (.ref a_NoSide)
  g_NoAlike : mg "NoAlike" = some (.ref a_NoAlike)
  g_NoNumber : mg "NoNumber" = some (.ref a_NoNumber)
  g_TooGreat : mg "TooGreat" = some (.ref a_TooGreat)
  g_NoEven : mg "NoEven" = some (.ref a_NoEven)
  g_NoText : mg "NoText" = some (.ref a_NoText)
  g_NoRow : mg "NoRow" = some (.ref a_NoRow)
  g_NoName : mg "NoName" = some (.ref a_NoName)
  g_NoPlace : mg "NoPlace" = some (.ref a_NoPlace)
  g_Grid : mg "Grid" = some (.ref a_Grid)
  z_NoBattle : IniK K a_NoBattle a_HostError i_NoBattle "field"
  fi_NoBattle : IniF K "NoBattle.__init__" q_NoBattle i_NoBattle "field"
  hd_NoBattle : PySem.W.hasDictIn K a_NoBattle = true
  k_NoBattle : ExcK K a_NoBattle
  c_NoBattle : (PySem.W.clsIn K a_NoBattle).isSome = true
  m_NoBattle : PySem.W.exmOne K (.ref a_NoBattle) (.ref a_HostError) = some true
  v_NoBattle : PySem.W.kitOne K (.ref a_NoBattle) (.type "ValueError") = some true
  i_NoBattle_HostError : PySem.W.kitOne K (.ref a_NoBattle) (.ref a_HostError) = some true
  i_NoBattle_NoBattle : PySem.W.kitOne K (.ref a_NoBattle) (.ref a_NoBattle) = some true
  i_NoBattle_NoPlan : PySem.W.kitOne K (.ref a_NoBattle) (.ref a_NoPlan) = some false
  i_NoBattle_NoMix : PySem.W.kitOne K (.ref a_NoBattle) (.ref a_NoMix) = some false
  i_NoBattle_NoStream : PySem.W.kitOne K (.ref a_NoBattle) (.ref a_NoStream) = some false
  i_NoBattle_NoSide : PySem.W.kitOne K (.ref a_NoBattle) (.ref a_NoSide) = some false
  i_NoBattle_NoAlike : PySem.W.kitOne K (.ref a_NoBattle) (.ref a_NoAlike) = some false
  i_NoBattle_NoNumber : PySem.W.kitOne K (.ref a_NoBattle) (.ref a_NoNumber) = some false
  i_NoBattle_TooGreat : PySem.W.kitOne K (.ref a_NoBattle) (.ref a_TooGreat) = some false
  i_NoBattle_NoEven : PySem.W.kitOne K (.ref a_NoBattle) (.ref a_NoEven) = some false
  i_NoBattle_NoText : PySem.W.kitOne K (.ref a_NoBattle) (.ref a_NoText) = some false
  i_NoBattle_NoRow : PySem.W.kitOne K (.ref a_NoBattle) (.ref a_NoRow) = some false
  i_NoBattle_NoName : PySem.W.kitOne K (.ref a_NoBattle) (.ref a_NoName) = some false
  i_NoBattle_NoPlace : PySem.W.kitOne K (.ref a_NoBattle) (.ref a_NoPlace) = some false
  i_NoBattle_Grid : PySem.W.kitOne K (.ref a_NoBattle) (.ref a_Grid) = some false
  o_NoPlan : PyProof.Rows.OwnCls "NoPlan" a_NoPlan bmV newV mg base
  k_NoPlan : ExcK K a_NoPlan
  c_NoPlan : (PySem.W.clsIn K a_NoPlan).isSome = true
  m_NoPlan : PySem.W.exmOne K (.ref a_NoPlan) (.ref a_HostError) = some true
  v_NoPlan : PySem.W.kitOne K (.ref a_NoPlan) (.type "ValueError") = some true
  i_NoPlan_HostError : PySem.W.kitOne K (.ref a_NoPlan) (.ref a_HostError) = some true
  i_NoPlan_NoBattle : PySem.W.kitOne K (.ref a_NoPlan) (.ref a_NoBattle) = some false
  i_NoPlan_NoPlan : PySem.W.kitOne K (.ref a_NoPlan) (.ref a_NoPlan) = some true
  i_NoPlan_NoMix : PySem.W.kitOne K (.ref a_NoPlan) (.ref a_NoMix) = some false
  i_NoPlan_NoStream : PySem.W.kitOne K (.ref a_NoPlan) (.ref a_NoStream) = some false
  i_NoPlan_NoSide : PySem.W.kitOne K (.ref a_NoPlan) (.ref a_NoSide) = some false
  i_NoPlan_NoAlike : PySem.W.kitOne K (.ref a_NoPlan) (.ref a_NoAlike) = some false
  i_NoPlan_NoNumber : PySem.W.kitOne K (.ref a_NoPlan) (.ref a_NoNumber) = some false
  i_NoPlan_TooGreat : PySem.W.kitOne K (.ref a_NoPlan) (.ref a_TooGreat) = some false
  i_NoPlan_NoEven : PySem.W.kitOne K (.ref a_NoPlan) (.ref a_NoEven) = some false
  i_NoPlan_NoText : PySem.W.kitOne K (.ref a_NoPlan) (.ref a_NoText) = some false
  i_NoPlan_NoRow : PySem.W.kitOne K (.ref a_NoPlan) (.ref a_NoRow) = some false
  i_NoPlan_NoName : PySem.W.kitOne K (.ref a_NoPlan) (.ref a_NoName) = some false
  i_NoPlan_NoPlace : PySem.W.kitOne K (.ref a_NoPlan) (.ref a_NoPlace) = some false
  i_NoPlan_Grid : PySem.W.kitOne K (.ref a_NoPlan) (.ref a_Grid) = some false
  o_NoAlike : PyProof.Rows.OwnCls "NoAlike" a_NoAlike bmV newV mg base
  k_NoAlike : ExcK K a_NoAlike
  c_NoAlike : (PySem.W.clsIn K a_NoAlike).isSome = true
  m_NoAlike : PySem.W.exmOne K (.ref a_NoAlike) (.ref a_HostError) = some true
  v_NoAlike : PySem.W.kitOne K (.ref a_NoAlike) (.type "ValueError") = some true
  i_NoAlike_HostError : PySem.W.kitOne K (.ref a_NoAlike) (.ref a_HostError) = some true
  i_NoAlike_NoBattle : PySem.W.kitOne K (.ref a_NoAlike) (.ref a_NoBattle) = some false
  i_NoAlike_NoPlan : PySem.W.kitOne K (.ref a_NoAlike) (.ref a_NoPlan) = some false
  i_NoAlike_NoMix : PySem.W.kitOne K (.ref a_NoAlike) (.ref a_NoMix) = some false
  i_NoAlike_NoStream : PySem.W.kitOne K (.ref a_NoAlike) (.ref a_NoStream) = some false
  i_NoAlike_NoSide : PySem.W.kitOne K (.ref a_NoAlike) (.ref a_NoSide) = some false
  i_NoAlike_NoAlike : PySem.W.kitOne K (.ref a_NoAlike) (.ref a_NoAlike) = some true
  i_NoAlike_NoNumber : PySem.W.kitOne K (.ref a_NoAlike) (.ref a_NoNumber) = some false
  i_NoAlike_TooGreat : PySem.W.kitOne K (.ref a_NoAlike) (.ref a_TooGreat) = some false
  i_NoAlike_NoEven : PySem.W.kitOne K (.ref a_NoAlike) (.ref a_NoEven) = some false
  i_NoAlike_NoText : PySem.W.kitOne K (.ref a_NoAlike) (.ref a_NoText) = some false
  i_NoAlike_NoRow : PySem.W.kitOne K (.ref a_NoAlike) (.ref a_NoRow) = some false
  i_NoAlike_NoName : PySem.W.kitOne K (.ref a_NoAlike) (.ref a_NoName) = some false
  i_NoAlike_NoPlace : PySem.W.kitOne K (.ref a_NoAlike) (.ref a_NoPlace) = some false
  i_NoAlike_Grid : PySem.W.kitOne K (.ref a_NoAlike) (.ref a_Grid) = some false
  n_HostError : PySem.W.kitOne K (.type "NoneType") (.ref a_HostError) = some false
  n_NoBattle : PySem.W.kitOne K (.type "NoneType") (.ref a_NoBattle) = some false
  n_NoPlan : PySem.W.kitOne K (.type "NoneType") (.ref a_NoPlan) = some false
  n_NoMix : PySem.W.kitOne K (.type "NoneType") (.ref a_NoMix) = some false
  n_NoStream : PySem.W.kitOne K (.type "NoneType") (.ref a_NoStream) = some false
  n_NoSide : PySem.W.kitOne K (.type "NoneType") (.ref a_NoSide) = some false
  n_NoAlike : PySem.W.kitOne K (.type "NoneType") (.ref a_NoAlike) = some false
  n_NoNumber : PySem.W.kitOne K (.type "NoneType") (.ref a_NoNumber) = some false
  n_TooGreat : PySem.W.kitOne K (.type "NoneType") (.ref a_TooGreat) = some false
  n_NoEven : PySem.W.kitOne K (.type "NoneType") (.ref a_NoEven) = some false
  n_NoText : PySem.W.kitOne K (.type "NoneType") (.ref a_NoText) = some false
  n_NoRow : PySem.W.kitOne K (.type "NoneType") (.ref a_NoRow) = some false
  n_NoName : PySem.W.kitOne K (.type "NoneType") (.ref a_NoName) = some false
  n_NoPlace : PySem.W.kitOne K (.type "NoneType") (.ref a_NoPlace) = some false
  n_Grid : PySem.W.kitOne K (.type "NoneType") (.ref a_Grid) = some false
structure Nm (mg : Str → Option Value) : Prop where
  ValueError_ : mg "ValueError" = none
  abs_ : mg "abs" = none
  all_ : mg "all" = none
  bool_ : mg "bool" = none
  enumerate_ : mg "enumerate" = none
  int_ : mg "int" = none
  isinstance_ : mg "isinstance" = none
  len_ : mg "len" = none
  list_ : mg "list" = none
  min_ : mg "min" = none
  range_ : mg "range" = none
  str_ : mg "str" = none
  sum_ : mg "sum" = none
  tuple_ : mg "tuple" = none
  zip_ : mg "zip" = none
/-! ### how a promise is read -/
local macro_rules | `(tactic| walk_at "hp") => `(tactic| first | assumption | (refine Same.at (H := ?H) ?s ?e; (case s => assumption); (case e => walk_at "hp")) | (refine Chg.at (a := ?a) (H := ?H) ?c ?e ?n; (case c => assumption); (case n => walk_at "ne"); (case e => walk_at "hp")) | fail "hp")
local macro_rules | `(tactic| walk_at "ne") => `(tactic| first | assumption | (apply Ne.symm; assumption) | fail "ne")
local macro_rules | `(tactic| walk_at "wh") => `(tactic| (conv => whnf))
local macro_rules | `(tactic| walk_at "st") => `(tactic| (conv => whnf); first
  | refine mulR_rd (by omega) (by omega) ?_
  | refine mulL_rd (by omega) (by omega) ?_
  | refine modG_rd (by omega) (fun r h0 h1 => ?_)
  | refine div_rd (by omega) (by omega) ?_
  | (refine pow_rd ⟨by decide, by decide, by decide⟩ ?_; simp only [Int.reduceToNat, Int.reducePow])
  | (refine ixT_rd (xs := ?xs) (v := ?v) ?hp ?ev ?_; (case hp => walk_at "hp"); (case ev => rfl))
  | (refine ixL_rd (xs := ?xs) (v := ?v) ?hp ?ev ?_; (case hp => walk_at "hp"); (case ev => rfl))
  | refine newT_rd (fun p H' hf hs ha => ?_)
  | refine newL_rd (fun p H' hf hs ha => ?_)
  | refine isiI_rd ?_
  | (refine isiT_rd (xs := ?xs) ?hp ?_; (case hp => walk_at "hp"))
  | (refine isiL_rd (xs := ?xs) ?hp ?_; (case hp => walk_at "hp"))
  | (refine lenT_rd (xs := ?xs) ?hp ?_; (case hp => walk_at "hp"))
  | (refine lenL_rd (xs := ?xs) ?hp ?_; (case hp => walk_at "hp"))
  | refine isiB_rd ?_
  | refine br_T ?_
  | refine br_F ?_
  | refine br_dT (by omega) ?_
  | refine br_dF (by omega) ?_
  | fail "st")
local macro_rules | `(tactic| walk_at "om") => `(tactic| first | decide | omega)
section
variable {P : Program} {w : World} {K : PySem.W.Frag} {mg : Str → Option Value} {base : Heap} {a_HostError : Addr} {a_NoBattle : Addr} {a_NoPlan : Addr} {a_NoMix : Addr} {a_NoStream : Addr} {a_NoSide : Addr} {a_NoAlike : Addr} {a_NoNumber : Addr} {a_TooGreat : Addr} {a_NoEven : Addr} {a_NoText : Addr} {a_NoRow : Addr} {a_NoName : Addr} {a_NoPlace : Addr} {a_Grid : Addr} {i_NoBattle : Addr}
/-! ### whole numbers, plans, parts, mixes: of things of any kind -/
def isW : PyData → Bool
  | .int _ => true
  | _ => false
def fromD (l : Int) : PyData → Bool
  | .int i => decide (l ≤ i)
  | _ => false
def betwD (l m : Int) : PyData → Bool
  | .int i => decide (l ≤ i ∧ i ≤ m)
  | _ => false
theorem dec_and1 {p q : Prop} [Decidable p] [Decidable q] (h : p) : decide (p ∧ q) = decide q := by simp [h]
theorem dec_and0 {p q : Prop} [Decidable p] [Decidable q] (h : ¬ p) : decide (p ∧ q) = false := by simp [h]
@[irreducible] def sp_is_whole : Sp := fun vs H Q _ => ∃ (v : V) (d : PyData), vs = [v] ∧ ShV H v d ∧ Q (.bl (isW d)) H
theorem iswD_rd {H : Hp} {v : V} {d : PyData} {Q : VK} {E : XK} (h : ShV H v d) (q : Q (.bl (isW d)) H) : sp_is_whole [v] H Q E := by unfold sp_is_whole; exact ⟨v, d, rfl, h, q⟩
theorem ok_is_whole {f : Addr} {fd : FuncData} (F : Fun K "is_whole" "is_whole" s_is_whole f fd) (N : Nm mg) : FnOk P w K mg base CX0 1 f fd ["thing"] sp_is_whole := by
  refine F.ok sc_is_whole (fun vs H Q E h => by unfold sp_is_whole at h; obtain ⟨_, _, rfl, _⟩ := h; rfl) (fun cdv A outer s H vs Q E hr h => ?_)
  unfold sp_is_whole at h
  obtain ⟨v, d, rfl, h, q⟩ := h
  refine ⟨_, (pss_one (ps_ret (peAnd (pB (cIsiK (K := K) rfl) N.isinstance_ bt_isinstance (pa_cons (pq 0) (pa_cons (pTy N.int_ bt_int) pa_nil))) (pe_one (peNot (pB (cIsiK (K := K) rfl) N.isinstance_ bt_isinstance (pa_cons (pq 0) (pa_cons (pTy N.bool_ bt_bool) pa_nil)))))))), ?_⟩
  refine isiD_rd' h (.inl rfl) ?_
  cases h
  case int i =>
    refine br_T ?_
    refine isiI_rd ?_
    walk_at "wh"
    exact q
  case bl b =>
    refine br_T ?_
    refine isiB_rd ?_
    walk_at "wh"
    exact q
  all_goals (walk_at "wh"; refine br_F ?_; walk_at "wh"; exact q)
@[irreducible] def sp_is_from : Sp := fun vs H Q _ => ∃ (v : V) (d : PyData) (l : Int), vs = [v, .int l] ∧ ShV H v d ∧ Q (.bl (fromD l d)) H
theorem isfD_rd {H : Hp} {v : V} {d : PyData} {l : Int} {Q : VK} {E : XK} (h : ShV H v d) (q : Q (.bl (fromD l d)) H) : sp_is_from [v, .int l] H Q E := by unfold sp_is_from; exact ⟨v, d, l, rfl, h, q⟩
theorem ok_is_from {f : Addr} {fd : FuncData} (F : Fun K "is_from" "is_from" s_is_from f fd) (N : Nm mg) (D_is_whole : Def P w K mg base CX0 1 "is_whole" ["thing"] sp_is_whole) : FnOk P w K mg base CX0 2 f fd ["thing", "least"] sp_is_from := by
  refine F.ok sc_is_from (fun vs H Q E h => by unfold sp_is_from at h; obtain ⟨_, _, _, rfl, _⟩ := h; rfl) (fun cdv A outer s H vs Q E hr h => ?_)
  unfold sp_is_from at h
  obtain ⟨v, d, l, rfl, h, q⟩ := h
  refine ⟨_, (pss_one (ps_ret (peAnd (pD D_is_whole hr pass0 (pa_cons (pq 0) pa_nil)) (pe_one (peC oLe (pq 1) (pq 0)))))), ?_⟩
  refine iswD_rd h ?_
  cases h
  case int i =>
    refine br_T ?_
    walk_at "wh"
    exact q
  all_goals (walk_at "wh"; refine br_F ?_; walk_at "wh"; exact q)
@[irreducible] def sp_is_between : Sp := fun vs H Q _ => ∃ (v : V) (d : PyData) (l m : Int), vs = [v, .int l, .int m] ∧ ShV H v d ∧ Q (.bl (betwD l m d)) H
theorem isbD_rd {H : Hp} {v : V} {d : PyData} {l m : Int} {Q : VK} {E : XK} (h : ShV H v d) (q : Q (.bl (betwD l m d)) H) : sp_is_between [v, .int l, .int m] H Q E := by unfold sp_is_between; exact ⟨v, d, l, m, rfl, h, q⟩
theorem isb_rd {H : Hp} {i l m : Int} {Q : VK} {E : XK} (q : Q (.bl (decide (l ≤ i ∧ i ≤ m))) H) : sp_is_between [.int i, .int l, .int m] H Q E := isbD_rd (.int i) q
theorem ok_is_between {f : Addr} {fd : FuncData} (F : Fun K "is_between" "is_between" s_is_between f fd) (N : Nm mg) (D_is_from : Def P w K mg base CX0 2 "is_from" ["thing", "least"] sp_is_from) : FnOk P w K mg base CX0 3 f fd ["thing", "least", "most"] sp_is_between := by
  refine F.ok sc_is_between (fun vs H Q E h => by unfold sp_is_between at h; obtain ⟨_, _, _, _, rfl, _⟩ := h; rfl) (fun cdv A outer s H vs Q E hr h => ?_)
  unfold sp_is_between at h
  obtain ⟨v, d, l, m, rfl, h, q⟩ := h
  refine ⟨_, (pss_one (ps_ret (peAnd (pD D_is_from hr pass0 (pa_cons (pq 0) (pa_cons (pq 1) pa_nil))) (pe_one (peC oLe (pq 0) (pq 2)))))), ?_⟩
  refine isfD_rd h ?_
  cases h
  case int i =>
    have q : Q (.bl (decide (l ≤ i ∧ i ≤ m))) H := q
    refine br_dec (fun h => ?_) (fun h => ?_)
    · walk_at "wh"
      rw [dec_and1 h] at q
      exact q
    · walk_at "wh"
      rw [dec_and0 h] at q
      exact q
  all_goals (walk_at "wh"; refine br_F ?_; walk_at "wh"; exact q)
/-! plans -/
def itemsD : PyData → List PyData
  | .list ds => ds
  | _ => []
def intD : PyData → Int
  | .int i => i
  | _ => 0
def sendsD : PyData → Bool
  | .list ds => ds.all (fromD 0)
  | _ => false
theorem fromD_int {l : Int} {d : PyData} (h : fromD l d = true) : ∃ i : Int, d = .int i ∧ l ≤ i := by
  cases d with
  | int i => exact ⟨i, rfl, of_decide_eq_true h⟩
  | _ => simp [fromD] at h
theorem sml_len {ds : List PyData} (h : sml (.list ds) = true) : ds.length ≤ 1000 ∧ ∀ d ∈ ds, sml d = true := by
  simp only [sml, Bool.and_eq_true, decide_eq_true_eq] at h
  exact ⟨h.1, smlAll_mem h.2⟩
theorem smlT_len {ds : List PyData} (h : sml (.tuple ds) = true) : ds.length ≤ 1000 ∧ ∀ d ∈ ds, sml d = true := by
  simp only [sml, Bool.and_eq_true, decide_eq_true_eq] at h
  exact ⟨h.1, smlAll_mem h.2⟩
theorem range_getB {ds : List PyData} (g : PyData → Bool) : (List.range ds.length).map (fun i => V.bl (g (ds.getD i .none))) = (ds.map g).map V.bl := by
  apply List.ext_getElem?
  intro i
  rw [List.getElem?_map, List.getElem?_map, List.getElem?_map]
  by_cases h : i < ds.length
  · rw [List.getElem?_range h, List.getElem?_eq_getElem h]
    simp [h]
  · rw [List.getElem?_eq_none (by simp; omega), List.getElem?_eq_none (by walk_at "om")]
    rfl
theorem all_mapB {ds : List PyData} (g : PyData → Bool) : (ds.map g).all id = ds.all g := by rw [List.all_map]; rfl
@[irreducible] def sp_sends_hosts : Sp := fun vs H Q _ => ∃ (v : V) (d : PyData), vs = [v] ∧ ShV H v d ∧ sml d = true ∧ ∀ H', Same H H' → Q (.bl (sendsD d)) H'
theorem sendsD_rd {H : Hp} {v : V} {d : PyData} {Q : VK} {E : XK} (h : ShV H v d) (hs : sml d = true) (q : ∀ H', Same H H' → Q (.bl (sendsD d)) H') : sp_sends_hosts [v] H Q E := by unfold sp_sends_hosts; exact ⟨v, d, rfl, h, hs, q⟩
theorem ok_sends_hosts {f : Addr} {fd : FuncData} (F : Fun K "sends_hosts" "sends_hosts" s_sends_hosts f fd) (N : Nm mg) (D_is_from : Def P w K mg base CX0 2 "is_from" ["thing", "least"] sp_is_from) : FnOk P w K mg base CX0 3 f fd ["plan"] sp_sends_hosts := by
  refine F.ok sc_sends_hosts (fun vs H Q E h => by unfold sp_sends_hosts at h; obtain ⟨_, _, rfl, _⟩ := h; rfl) (fun cdv A outer s H vs Q E hr h => ?_)
  unfold sp_sends_hosts at h
  obtain ⟨v, d, rfl, h, hs, q⟩ := h
  refine ⟨_, (pss_one (ps_ret (peAnd (pB (cIsiK (K := K) rfl) N.isinstance_ bt_isinstance (pa_cons (pq 0) (pa_cons (pTy N.list_ bt_list) pa_nil))) (pe_one (pB (cAllK (K := K) rfl rfl) N.all_ bt_all (pa_cons (peComp (N := ["sent"]) (ks := [none]) (piSeqK (K := K) rfl (pq 0)) (fun cl C s3 H3 fp => (pg_name (i := 0) nb_0 rfl (by first | exact Or.inl rfl | exact Or.inr rfl))) (fun cl C s3 H3 fp => pts_nil) (fun cl C s3 H3 fp => (pD D_is_from hr pass0 (pa_cons (pq 0) (pa_cons pe_int pa_nil)))) (.skip .nil)) pa_nil)))))), ?_⟩
  refine isiD_rd' h (.inr (.inr (.inl rfl))) ?_
  cases h
  case lst a xs ds e l =>
    have ll := l.len
    obtain ⟨dl, dm⟩ := sml_len hs
    refine br_T ?_
    refine iterL_rd e ?_
    refine comp_I (Wk.list (SqL.of e)) (by rw [sizeLine_eq]; omega) (fun i => .bl (fromD 0 (ds.getD i .none))) (fun _ => true) (fun j σ => ∃ t : Option V, σ = [t]) ⟨none, rfl⟩ ?_ ?_
    · rintro j x σ H1 R S hj s1 hx ⟨t, rfl⟩ k _
      obtain ⟨d, ed, hd⟩ := l.get j x hx
      have eg : ds.getD j .none = d := by rw [List.getD_eq_getElem?_getD, ed]; rfl
      refine br_T ?_
      refine isfD_rd (hd.same s1) ?_
      walk_at "wh"
      rw [← eg]
      exact k rfl _ _ (Same.refl _) ⟨_, rfl⟩
    intro acc H1 f1 s1 h1
    rw [filter_T, ll, range_getB (fromD 0)] at h1
    refine all_rd h1 ?_
    rw [all_mapB]
    walk_at "wh"
    exact q _ s1
  all_goals (walk_at "wh"; refine br_F ?_; walk_at "wh"; exact q _ (Same.refl _))
theorem shl_ints {H : Hp} : ∀ {xs : List V} {ds : List PyData}, ShL H xs ds → (∀ d ∈ ds, fromD 0 d = true) → ∃ ns : List Int, xs = ns.map V.int ∧ ds = ns.map PyData.int ∧ ∀ x ∈ ns, 0 ≤ x
  | _, _, .nil, _ => ⟨[], rfl, rfl, fun _ h => by cases h⟩
  | _, _, .cons (x := x) (d := d) a b, h => by
    obtain ⟨i, rfl, hi⟩ := fromD_int (h d (.head _))
    obtain ⟨ns, e1, e2, e3⟩ := shl_ints b fun y hy => h y (.tail _ hy)
    cases a
    refine ⟨i :: ns, by rw [e1]; rfl, by rw [e2]; rfl, fun y hy => ?_⟩
    rcases List.mem_cons.mp hy with rfl | hy
    · exact hi
    · exact e3 y hy
/-- a plan that sends hosts: a list of whole numbers -/
theorem sends_ints {H : Hp} {v : V} {d : PyData} (h : ShV H v d) (e : sendsD d = true) : ∃ (a : Addr) (ns : List Int), v = .ref a ∧ H a = some (.lst (ns.map V.int)) ∧ d = .list (ns.map PyData.int) ∧ ∀ x ∈ ns, 0 ≤ x := by
  cases h
  case lst a xs ds e1 l =>
    have e : ds.all (fromD 0) = true := e
    rw [List.all_eq_true] at e
    obtain ⟨ns, rfl, rfl, e3⟩ := shl_ints l e
    exact ⟨a, ns, rfl, e1, rfl, e3⟩
  all_goals simp [sendsD] at e
def numsD (d : PyData) : List Int := (itemsD d).map intD
theorem numsD_ints (ns : List Int) : numsD (.list (ns.map PyData.int)) = ns := by
  unfold numsD itemsD
  rw [List.map_map]
  exact (List.map_congr_left fun x _ => rfl).trans (List.map_id _)
def planD (h f : Int) (d : PyData) : Bool := sendsD d && decide (((numsD d).length : Int) = f) && decide ((numsD d).sum = h)
@[irreducible] def sp_is_plan : Sp := fun vs H Q _ => ∃ (h f : Int) (v : V) (d : PyData), vs = [.int h, .int f, v] ∧ ShV H v d ∧ sml d = true ∧ ∀ H', Same H H' → Q (.bl (planD h f d)) H'
theorem planD_rd {H : Hp} {h f : Int} {v : V} {d : PyData} {Q : VK} {E : XK} (hv : ShV H v d) (hs : sml d = true) (q : ∀ H', Same H H' → Q (.bl (planD h f d)) H') : sp_is_plan [.int h, .int f, v] H Q E := by unfold sp_is_plan; exact ⟨h, f, v, d, rfl, hv, hs, q⟩
theorem ok_is_plan {f : Addr} {fd : FuncData} (F : Fun K "is_plan" "is_plan" s_is_plan f fd) (N : Nm mg) (D_sends_hosts : Def P w K mg base CX0 3 "sends_hosts" ["plan"] sp_sends_hosts) : FnOk P w K mg base CX0 4 f fd ["hosts", "fields", "plan"] sp_is_plan := by
  refine F.ok sc_is_plan (fun vs H Q E h => by unfold sp_is_plan at h; obtain ⟨_, _, _, _, rfl, _⟩ := h; rfl) (fun cdv A outer s H vs Q E hr h => ?_)
  unfold sp_is_plan at h
  obtain ⟨h, f, v, d, rfl, hv, hs, q⟩ := h
  have hu := hu40 hr
  refine ⟨_, (pss_one (ps_ret (peAnd (pD D_sends_hosts hr pass0 (pa_cons (pq 2) pa_nil)) (peAnd (peC (oEqXK (K := K) rfl (by exact hu)) (pB (cLenK (K := K) rfl) N.len_ bt_len (pa_cons (pq 2) pa_nil)) (pq 1)) (pe_one (peC (oEqXK (K := K) rfl (by exact hu)) (pB (cSumK (K := K) rfl rfl) N.sum_ bt_sum (pa_cons (pq 2) pa_nil)) (pq 0))))))), ?_⟩
  refine sendsD_rd hv hs (fun H1 s1 => ?_)
  have q := q _ s1
  cases es : sendsD d
  · walk_at "wh"
    refine br_F ?_
    walk_at "wh"
    unfold planD at q
    rw [es] at q
    exact q
  · obtain ⟨a, ns, rfl, ha, rfl, nn⟩ := sends_ints hv es
    have q : Q (.bl (decide ((ns.length : Int) = f) && decide (ns.sum = h))) H1 := by
      unfold planD at q
      rw [es, numsD_ints, Bool.true_and] at q
      exact q
    refine br_T ?_
    refine lenL_rd (s1 _ _ ha) ?_
    rw [List.length_map]
    refine br_dec (fun h2 => ?_) (fun h2 => ?_)
    · rw [decide_eq_true h2, Bool.true_and] at q
      refine sum_rd (s1 _ _ ha) ?_
      walk_at "wh"
      exact q
    · rw [decide_eq_false h2, Bool.false_and] at q
      walk_at "wh"
      exact q
theorem getD_some {ds : List PyData} {i : Nat} {d : PyData} (h : ds[i]? = some d) : ds.getD i .none = d := by rw [List.getD_eq_getElem?_getD, h]; rfl
theorem shl_two {H : Hp} {xs : List V} {ds : List PyData} (l : ShL H xs ds) (e : xs.length = 2) : ∃ x y a b, xs = [x, y] ∧ ds = [a, b] ∧ ShV H x a ∧ ShV H y b := by
  cases l with
  | nil => simp at e
  | cons h1 l =>
    cases l with
    | nil => simp at e
    | cons h2 l =>
      cases l with
      | nil => exact ⟨_, _, _, _, rfl, rfl, h1, h2⟩
      | cons _ _ => simp at e
-- @@split
/-! ### mixes -/
structure MixAt (H : Hp) (m : Addr) (ts : List (Addr × Addr)) (ms : List (List Int × Int)) : Prop where
  out : H m = some (.lst (ts.map fun t => V.ref t.1))
  len : ts.length = ms.length
  part : ∀ (i : Nat) t x, ts[i]? = some t → ms[i]? = some x → H t.1 = some (.tup [.ref t.2, .int x.2]) ∧ H t.2 = some (.lst (x.1.map V.int))
theorem MixAt.same {H H' : Hp} {m : Addr} {ts : List (Addr × Addr)} {ms : List (List Int × Int)} (M : MixAt H m ts ms) (s : Same H H') : MixAt H' m ts ms := ⟨s _ _ M.out, M.len, fun i t x h1 h2 => ⟨s _ _ (M.part i t x h1 h2).1, s _ _ (M.part i t x h1 h2).2⟩⟩
/-! ### a heap without one thing, the new part of a heap -/
def rm (p : Addr) (H : Hp) : Hp := fun b => if b = p then none else H b
def nw (H H' : Hp) : Hp := fun b => match H b with
  | none => H' b
  | some _ => none
theorem rm_at {p b : Addr} {H : Hp} {o : HO} (n : b ≠ p) (h : H b = some o) : rm p H b = some o := by unfold rm; rw [if_neg n]; exact h
theorem rm_of {p b : Addr} {H : Hp} {o : HO} (h : rm p H b = some o) : b ≠ p ∧ H b = some o := by
  unfold rm at h
  by_cases e : b = p
  · rw [if_pos e] at h; cases h
  · rw [if_neg e] at h; exact ⟨e, h⟩
theorem nw_at {b : Addr} {H H' : Hp} {o : HO} (n : H b = none) (h : H' b = some o) : nw H H' b = some o := by unfold nw; rw [n]; exact h
theorem nw_of {b : Addr} {H H' : Hp} {o : HO} (h : nw H H' b = some o) : H b = none ∧ H' b = some o := by
  unfold nw at h
  cases e : H b with
  | none => rw [e] at h; exact ⟨rfl, h⟩
  | some v => rw [e] at h; cases h
theorem rm_same (p : Addr) (H : Hp) : Same (rm p H) H := fun b o h => (rm_of h).2
theorem Same.rm {p : Addr} {H H' : Hp} (s : Same H H') : Same (rm p H) (G.rm p H') := fun b o h => rm_at (rm_of h).1 (s _ _ (rm_of h).2)
theorem Chg.rm {p : Addr} {H H' : Hp} (s : Chg p H H') : Same (rm p H) (G.rm p H') := fun b o h => rm_at (rm_of h).1 (s _ _ (rm_of h).1 (rm_of h).2)
theorem nw_up {H H' H'' : Hp} (s : Same H' H'') : Same (nw H H') (nw H H'') := fun b o h => nw_at (nw_of h).1 (s _ _ (nw_of h).2)
/-! ### a copy all the way down, of things of any kind -/
theorem shl_app {H : Hp} : ∀ {xs : List V} {ds : List PyData} {ys : List V} {es : List PyData}, ShL H xs ds → ShL H ys es → ShL H (xs ++ ys) (ds ++ es)
  | _, _, _, _, .nil, b => b
  | _, _, _, _, .cons h a, b => .cons h (shl_app a b)
theorem depth_mem {d : PyData} : ∀ {ds : List PyData}, d ∈ ds → d.depth ≤ PyData.depthAll ds
  | [], h => by cases h
  | e :: ds, h => by
    rw [show PyData.depthAll (e :: ds) = max e.depth (PyData.depthAll ds) from rfl]
    rcases List.mem_cons.mp h with rfl | h
    · exact Nat.le_max_left _ _
    · exact Nat.le_trans (depth_mem h) (Nat.le_max_right _ _)
/-! ### things of any kind that can be held against one another -/
def okD (n : Nat) (d : PyData) : Prop := sml d = true ∧ d.canLay0 = true ∧ d.depth ≤ n
def Rd (H : Hp) (v : V) (n : Nat) : Prop := ∃ d, ShV H v d ∧ okD n d ∧ (itemsD d).length < 60
theorem Rd.same {H H' : Hp} {v : V} {n : Nat} (h : Rd H v n) (s : Same H H') : Rd H' v n := by obtain ⟨d, h1, h2⟩ := h; exact ⟨d, h1.same s, h2⟩
theorem okD.up {n m : Nat} {d : PyData} (h : okD n d) (l : n ≤ m) : okD m d := ⟨h.1, h.2.1, Nat.le_trans h.2.2 l⟩
theorem Rd.up {H : Hp} {v : V} {n m : Nat} (h : Rd H v n) (l : n ≤ m := by decide) : Rd H v m := by obtain ⟨d, h1, h2⟩ := h; exact ⟨d, h1, h2.1.up l, h2.2⟩
theorem Rd.int {H : Hp} (i : Int) (n : Nat) : Rd H (.int i) n := ⟨.int i, .int i, ⟨rfl, rfl, Nat.zero_le _⟩, by show (0 : Nat) < 60; decide⟩
theorem Rd.bl {H : Hp} (b : Bool) (n : Nat) : Rd H (.bl b) n := ⟨.bool b, .bl b, ⟨rfl, rfl, Nat.zero_le _⟩, by show (0 : Nat) < 60; decide⟩
theorem Rd.non {H : Hp} (n : Nat) : Rd H .non n := ⟨.none, .non, ⟨rfl, rfl, Nat.zero_le _⟩, by show (0 : Nat) < 60; decide⟩
theorem Rd.str {H : Hp} {x : Str} (n : Nat) (h : PyData.strOk x = true) : Rd H (.str x) n := ⟨.str x, .str x, ⟨rfl, h, Nat.zero_le _⟩, by show (0 : Nat) < 60; decide⟩
theorem canAll {ds : List PyData} (h : ∀ d ∈ ds, d.canLay0 = true) : PyData.canLayAll0 ds = true := by
  induction ds with
  | nil => rfl
  | cons d ds ih =>
    show (d.canLay0 && PyData.canLayAll0 ds) = true
    rw [h d (.head _), ih fun x hx => h x (.tail _ hx)]; rfl
theorem canAll_mem : ∀ {ds : List PyData}, PyData.canLayAll0 ds = true → ∀ d ∈ ds, d.canLay0 = true
  | [], _, d, h => by cases h
  | e :: ds, h, d, hd => by
    have h : (e.canLay0 && PyData.canLayAll0 ds) = true := h
    rw [Bool.and_eq_true] at h
    rcases List.mem_cons.mp hd with rfl | hd
    · exact h.1
    · exact canAll_mem h.2 d hd
theorem depAll {ds : List PyData} {n : Nat} (h : ∀ d ∈ ds, d.depth ≤ n) : PyData.depthAll ds ≤ n := by
  induction ds with
  | nil => exact Nat.zero_le _
  | cons d ds ih =>
    rw [show PyData.depthAll (d :: ds) = max d.depth (PyData.depthAll ds) from rfl]
    exact Nat.max_le.mpr ⟨h d (.head _), ih fun x hx => h x (.tail _ hx)⟩
theorem okD.list {n : Nat} {ds : List PyData} (l : ds.length ≤ 1000) (h : ∀ d ∈ ds, okD n d) : okD (n + 1) (.list ds) :=
  ⟨by simp only [sml, Bool.and_eq_true, decide_eq_true_eq]; exact ⟨by walk_at "om", smlAll_of fun d hd => (h d hd).1⟩, canAll fun d hd => (h d hd).2.1, Nat.succ_le_succ (depAll fun d hd => (h d hd).2.2)⟩
theorem okD.tuple {n : Nat} {ds : List PyData} (l : ds.length ≤ 1000) (h : ∀ d ∈ ds, okD n d) : okD (n + 1) (.tuple ds) :=
  ⟨by simp only [sml, Bool.and_eq_true, decide_eq_true_eq]; exact ⟨by walk_at "om", smlAll_of fun d hd => (h d hd).1⟩, canAll fun d hd => (h d hd).2.1, Nat.succ_le_succ (depAll fun d hd => (h d hd).2.2)⟩
theorem Rd.lst {H : Hp} {a : Addr} {xs : List V} {n : Nat} (e : H a = some (.lst xs)) (l : xs.length < 60) (h : ∀ x ∈ xs, Rd H x n) : Rd H (.ref a) (n + 1) := by
  obtain ⟨ds, h1, h2⟩ := ShL.ex (P := fun d => okD n d) fun x hx => by obtain ⟨d, h1, h2, _⟩ := h x hx; exact ⟨d, h1, h2⟩
  exact ⟨.list ds, .lst e h1, okD.list (by rw [← h1.len]; omega) h2, by show ds.length < 60; rw [← h1.len]; exact l⟩
theorem Rd.tup {H : Hp} {a : Addr} {xs : List V} {n : Nat} (e : H a = some (.tup xs)) (l : xs.length < 60) (h : ∀ x ∈ xs, Rd H x n) : Rd H (.ref a) (n + 1) := by
  obtain ⟨ds, h1, h2⟩ := ShL.ex (P := fun d => okD n d) fun x hx => by obtain ⟨d, h1, h2, _⟩ := h x hx; exact ⟨d, h1, h2⟩
  exact ⟨.tuple ds, .tup e h1, okD.tuple (by rw [← h1.len]; omega) h2, by show (0 : Nat) < 60; decide⟩
theorem Rd.two {H : Hp} {a : Addr} {u v : V} {n : Nat} (e : H a = some (.tup [u, v])) (hu : Rd H u n) (hv : Rd H v n) : Rd H (.ref a) (n + 1) := Rd.tup e (by show 2 < 60; decide) fun x hx => by
  simp only [List.mem_cons, List.not_mem_nil, or_false] at hx
  rcases hx with rfl | rfl
  · exact hu
  · exact hv
theorem eqv_refl : ∀ {n : Nat} {d : PyData}, d.depth ≤ n → d.canLay0 = true → d.eqv d = true
  | _, .none, _, _ => rfl
  | _, .bool b, _, _ => by show (b == b) = true; exact beq_self_eq_true _
  | _, .int i, _, _ => by show (i == i) = true; exact beq_self_eq_true _
  | _, .str x, _, _ => by show (x == x) = true; exact beq_self_eq_true _
  | 0, .list ds, h, _ => by have h : PyData.depthAll ds + 1 ≤ 0 := h; omega
  | 0, .tuple ds, h, _ => by have h : PyData.depthAll ds + 1 ≤ 0 := h; omega
  | n + 1, .list ds, h, c => by
    have h : PyData.depthAll ds + 1 ≤ n + 1 := h
    have c : PyData.canLayAll0 ds = true := c
    show PyData.eqvAll ds ds = true
    exact all ds (fun d hd => eqv_refl (n := n) (Nat.le_trans (depth_mem hd) (by walk_at "om")) (canAll_mem c d hd))
  | n + 1, .tuple ds, h, c => by
    have h : PyData.depthAll ds + 1 ≤ n + 1 := h
    have c : PyData.canLayAll0 ds = true := c
    show PyData.eqvAll ds ds = true
    exact all ds (fun d hd => eqv_refl (n := n) (Nat.le_trans (depth_mem hd) (by walk_at "om")) (canAll_mem c d hd))
  | _, .dict _, _, c => by cases (show false = true from c)
where all : ∀ ds : List PyData, (∀ d ∈ ds, d.eqv d = true) → PyData.eqvAll ds ds = true
  | [], _ => rfl
  | d :: ds, h => by
    show (d.eqv d && PyData.eqvAll ds ds) = true
    rw [h d (.head _), all ds fun x hx => h x (.tail _ hx)]; rfl
theorem okD.eqv {n : Nat} {d : PyData} (h : okD n d) : d.eqv d = true := eqv_refl h.2.2 h.2.1
def sp_ratio : Sp := fun _ _ _ _ => False
theorem ok_ratio {f : Addr} {fd : FuncData} (F : Fun K "ratio" "ratio" s_ratio f fd) (N : Nm mg) : FnOk P w K mg base CX0 1 f fd ["top", "bottom"] sp_ratio := by
  exact F.ok sc_ratio (fun vs H Q E h => (show False from h).elim) (fun cdv A outer s H vs Q E hr h => (show False from h).elim)
def sp_won_together : Sp := fun _ _ _ _ => False
theorem ok_won_together {f : Addr} {fd : FuncData} (F : Fun K "won_together" "won_together" s_won_together f fd) (N : Nm mg) : FnOk P w K mg base CX0 1 f fd ["field", "one", "other"] sp_won_together := by
  exact F.ok sc_won_together (fun vs H Q E h => (show False from h).elim) (fun cdv A outer s H vs Q E hr h => (show False from h).elim)
def sp_all_counts : Sp := fun _ _ _ _ => False
theorem ok_all_counts {f : Addr} {fd : FuncData} (F : Fun K "all_counts" "all_counts" s_all_counts f fd) (N : Nm mg) : FnOk P w K mg base CX0 1 f fd ["hosts", "fields"] sp_all_counts := by
  exact F.ok sc_all_counts (fun vs H Q E h => (show False from h).elim) (fun cdv A outer s H vs Q E hr h => (show False from h).elim)
def sp_together_table : Sp := fun _ _ _ _ => False
theorem ok_together_table {f : Addr} {fd : FuncData} (F : Fun K "together_table" "together_table" s_together_table f fd) (N : Nm mg) : FnOk P w K mg base CX0 1 f fd ["field", "ones", "others"] sp_together_table := by
  exact F.ok sc_together_table (fun vs H Q E h => (show False from h).elim) (fun cdv A outer s H vs Q E hr h => (show False from h).elim)
def sp_table_worth : Sp := fun _ _ _ _ => False
theorem ok_table_worth {f : Addr} {fd : FuncData} (F : Fun K "table_worth" "table_worth" s_table_worth f fd) (N : Nm mg) : FnOk P w K mg base CX0 1 f fd ["table"] sp_table_worth := by
  exact F.ok sc_table_worth (fun vs H Q E h => (show False from h).elim) (fun cdv A outer s H vs Q E hr h => (show False from h).elim)
def sp_counts_mix : Sp := fun _ _ _ _ => False
theorem ok_counts_mix {f : Addr} {fd : FuncData} (F : Fun K "counts_mix" "counts_mix" s_counts_mix f fd) (N : Nm mg) : FnOk P w K mg base CX0 1 f fd ["hosts", "fields", "weights"] sp_counts_mix := by
  exact F.ok sc_counts_mix (fun vs H Q E h => (show False from h).elim) (fun cdv A outer s H vs Q E hr h => (show False from h).elim)
def sp_times : Sp := fun _ _ _ _ => False
theorem ok_times {f : Addr} {fd : FuncData} (F : Fun K "times" "times" s_times f fd) (N : Nm mg) : FnOk P w K mg base CX0 1 f fd ["one", "other"] sp_times := by
  exact F.ok sc_times (fun vs H Q E h => (show False from h).elim) (fun cdv A outer s H vs Q E hr h => (show False from h).elim)
-- @@split
@[irreducible] def sp_are_hosts : Sp := fun vs H Q _ => ∃ x y : Int, vs = [.int x, .int y] ∧ Q (.bl (decide ((0 ≤ x ∧ x ≤ 10) ∧ 0 ≤ y ∧ y ≤ 10))) H
theorem are_hosts_rd {H : Hp} {x y : Int} {Q : VK} {E : XK} (q : Q (.bl (decide ((0 ≤ x ∧ x ≤ 10) ∧ 0 ≤ y ∧ y ≤ 10))) H) : sp_are_hosts [.int x, .int y] H Q E := by unfold sp_are_hosts; exact ⟨x, y, rfl, q⟩
theorem ok_are_hosts {f : Addr} {fd : FuncData} (F : Fun K "are_hosts" "are_hosts" s_are_hosts f fd) (N : Nm mg) {tk_MOST_HOSTS_fields : Tok} (c_MOST_HOSTS_fields : mg "MOST_HOSTS_fields" = some (.int 10 tk_MOST_HOSTS_fields)) (D_is_between : Def P w K mg base CX0 3 "is_between" ["thing", "least", "most"] sp_is_between) : FnOk P w K mg base CX0 4 f fd ["first", "second"] sp_are_hosts := by
  refine F.ok sc_are_hosts (fun vs H Q E h => by unfold sp_are_hosts at h; obtain ⟨_, _, rfl, _⟩ := h; rfl) (fun cdv A outer s H vs Q E hr h => ?_)
  unfold sp_are_hosts at h
  obtain ⟨x, y, rfl, q⟩ := h
  refine ⟨_, (pss_one (ps_ret (peAnd (pD D_is_between hr pass0 (pa_cons (pq 0) (pa_cons pe_int (pa_cons (pe_glob (v := .int 10) rfl c_MOST_HOSTS_fields ⟨_, rfl⟩) pa_nil)))) (pe_one (pD D_is_between hr pass0 (pa_cons (pq 1) (pa_cons pe_int (pa_cons (pe_glob (v := .int 10) rfl c_MOST_HOSTS_fields ⟨_, rfl⟩) pa_nil)))))))), ?_⟩
  refine isb_rd ?_
  refine br_dec (fun h => ?_) (fun h => ?_)
  · walk_at "wh"
    refine isb_rd ?_
    walk_at "wh"
    rw [dec_and1 h] at q
    exact q
  · walk_at "wh"
    rw [dec_and0 h] at q
    exact q
/-! ### fields and battles, of things of any kind -/
def tabRowD (n : Int) : PyData → Bool
  | .list ds => decide ((ds.length : Int) = n) && ds.all isW
  | _ => false
def tabD (n m : Int) : PyData → Bool
  | .list ds => decide ((ds.length : Int) = n) && ds.all (tabRowD m)
  | _ => false
def fieldL (a c : Int) (w : Str) : List PyData → Bool
  | [x] => decide (w = "table") && tabD (a + 1) (c + 1) x
  | [x, y] => (decide (w = "more") && (fromD 1 x && betwD (-(intD x)) (intD x) y)) || (decide (w = "lead") && (fromD 1 x && isW y))
  | _ => false
def fieldD (a c : Int) : PyData → Bool
  | .tuple (.str w :: ds) => fieldL a c w ds
  | _ => false
def FldS (d : PyData) : Prop := ∃ w ds, d = .tuple (.str w :: ds)
@[irreducible] def sp_is_table_row : Sp := fun vs H Q _ => ∃ (n : Int) (v : V) (d : PyData), vs = [.int n, v] ∧ ShV H v d ∧ sml d = true ∧ ∀ H', Same H H' → Q (.bl (tabRowD n d)) H'
theorem tabRowD_rd {H : Hp} {n : Int} {v : V} {d : PyData} {Q : VK} {E : XK} (h : ShV H v d) (hs : sml d = true) (q : ∀ H', Same H H' → Q (.bl (tabRowD n d)) H') : sp_is_table_row [.int n, v] H Q E := by unfold sp_is_table_row; exact ⟨n, v, d, rfl, h, hs, q⟩
theorem ok_is_table_row {f : Addr} {fd : FuncData} (F : Fun K "is_table_row" "is_table_row" s_is_table_row f fd) (N : Nm mg) (D_is_whole : Def P w K mg base CX0 1 "is_whole" ["thing"] sp_is_whole) : FnOk P w K mg base CX0 2 f fd ["many_numbers", "row"] sp_is_table_row := by
  refine F.ok sc_is_table_row (fun vs H Q E h => by unfold sp_is_table_row at h; obtain ⟨_, _, _, rfl, _⟩ := h; rfl) (fun cdv A outer s H vs Q E hr h => ?_)
  unfold sp_is_table_row at h
  obtain ⟨n, v, d, rfl, h, hs, q⟩ := h
  have hu := hu40 hr
  refine ⟨_, (pss_one (ps_ret (peAnd (pB (cIsiK (K := K) rfl) N.isinstance_ bt_isinstance (pa_cons (pq 1) (pa_cons (pTy N.list_ bt_list) pa_nil))) (peAnd (peC (oEqXK (K := K) rfl (by exact hu)) (pB (cLenK (K := K) rfl) N.len_ bt_len (pa_cons (pq 1) pa_nil)) (pq 0)) (pe_one (pB (cAllK (K := K) rfl rfl) N.all_ bt_all (pa_cons (peComp (N := ["number"]) (ks := [none]) (piSeqK (K := K) rfl (pq 1)) (fun cl C s3 H3 fp => (pg_name (i := 0) nb_1 rfl (by first | exact Or.inl rfl | exact Or.inr rfl))) (fun cl C s3 H3 fp => pts_nil) (fun cl C s3 H3 fp => (pD D_is_whole hr pass0 (pa_cons (pq 0) pa_nil))) (.skip .nil)) pa_nil))))))), ?_⟩
  refine isiD_rd' h (.inr (.inr (.inl rfl))) ?_
  cases h
  case lst a xs ds e l =>
    have ll := l.len
    obtain ⟨dl, dm⟩ := sml_len hs
    have q : ∀ H', Same H H' → Q (.bl (decide ((ds.length : Int) = n) && ds.all isW)) H' := q
    refine br_T ?_
    refine lenL_rd e ?_
    rw [ll]
    refine br_dec (fun h0 => ?_) (fun h0 => ?_)
    · rw [decide_eq_true h0, Bool.true_and] at q
      refine iterL_rd e ?_
      refine comp_I (Wk.list (SqL.of e)) (by rw [sizeLine_eq]; omega) (fun i => .bl (isW (ds.getD i .none))) (fun _ => true) (fun j σ => ∃ t : Option V, σ = [t]) ⟨none, rfl⟩ ?_ ?_
      · rintro j x σ H1 R S hj s1 hx ⟨t, rfl⟩ k _
        obtain ⟨d, ed, hd⟩ := l.get j x hx
        rw [getD_some ed] at k
        refine br_T ?_
        refine iswD_rd (hd.same s1) ?_
        walk_at "wh"
        exact k rfl _ _ (Same.refl _) ⟨_, rfl⟩
      intro acc H1 f1 s1 h1
      rw [filter_T, ll, range_getB isW] at h1
      refine all_rd h1 ?_
      rw [all_mapB]
      walk_at "wh"
      exact q _ s1
    · have q := q _ (Same.refl _)
      rw [decide_eq_false h0] at q
      walk_at "wh"
      exact q
  all_goals (walk_at "wh"; refine br_F ?_; walk_at "wh"; exact q _ (Same.refl _))
@[irreducible] def sp_is_table : Sp := fun vs H Q _ => ∃ (n m : Int) (v : V) (d : PyData), vs = [.int n, .int m, v] ∧ ShV H v d ∧ sml d = true ∧ ∀ H', Same H H' → Q (.bl (tabD n m d)) H'
theorem tabD_rd {H : Hp} {n m : Int} {v : V} {d : PyData} {Q : VK} {E : XK} (h : ShV H v d) (hs : sml d = true) (q : ∀ H', Same H H' → Q (.bl (tabD n m d)) H') : sp_is_table [.int n, .int m, v] H Q E := by unfold sp_is_table; exact ⟨n, m, v, d, rfl, h, hs, q⟩
theorem ok_is_table {f : Addr} {fd : FuncData} (F : Fun K "is_table" "is_table" s_is_table f fd) (N : Nm mg) (D_is_table_row : Def P w K mg base CX0 2 "is_table_row" ["many_numbers", "row"] sp_is_table_row) : FnOk P w K mg base CX0 3 f fd ["many_rows", "many_numbers", "rows"] sp_is_table := by
  refine F.ok sc_is_table (fun vs H Q E h => by unfold sp_is_table at h; obtain ⟨_, _, _, _, rfl, _⟩ := h; rfl) (fun cdv A outer s H vs Q E hr h => ?_)
  unfold sp_is_table at h
  obtain ⟨n, m, v, d, rfl, h, hs, q⟩ := h
  have hu := hu40 hr
  refine ⟨_, (pss_cons (psIf (ptW (pwOr (pt_not (ptV (pB (cIsiK (K := K) rfl) N.isinstance_ bt_isinstance (pa_cons (pq 2) (pa_cons (pTy N.list_ bt_list) pa_nil))))) (pw_or1 (ptC (oNeXK (K := K) rfl (by exact hu)) (pB (cLenK (K := K) rfl) N.len_ bt_len (pa_cons (pq 2) pa_nil)) (pq 0))))) (pss_one (ps_ret pe_bl)) pss_nil)
      (pss_one (ps_ret (pB (cAllK (K := K) rfl rfl) N.all_ bt_all (pa_cons (peComp (N := ["row", "many_numbers"]) (ks := [none, some 1]) (piSeqK (K := K) rfl (pq 2)) (fun cl C s3 H3 fp => (pg_name (i := 0) nb_2 rfl (by first | exact Or.inl rfl | exact Or.inr rfl))) (fun cl C s3 H3 fp => pts_nil) (fun cl C s3 H3 fp => (pD D_is_table_row hr pass0 (pa_cons (pq 1) (pa_cons (pq 0) pa_nil)))) (.skip (.take rfl rfl (by first | exact Or.inl rfl | exact Or.inr rfl) .nil))) pa_nil))))), ?_⟩
  refine isiD_rd' h (.inr (.inr (.inl rfl))) ?_
  cases h
  case lst a xs ds e l =>
    have ll := l.len
    obtain ⟨dl, dm⟩ := sml_len hs
    have q : ∀ H', Same H H' → Q (.bl (decide ((ds.length : Int) = n) && ds.all (tabRowD m))) H' := q
    refine br_not (br_T ?_)
    refine lenL_rd e ?_
    rw [ll]
    refine br_not (br_dec (fun h0 => ?_) (fun h0 => ?_))
    · rw [decide_eq_true h0, Bool.true_and] at q
      refine iterL_rd e ?_
      refine comp_I (Wk.list (SqL.of e)) (by rw [sizeLine_eq]; omega) (fun i => .bl (tabRowD m (ds.getD i .none))) (fun _ => true) (fun j σ => ∃ t : Option V, σ = [t, some (.int m)]) ⟨none, rfl⟩ ?_ ?_
      · rintro j x σ H1 R S hj s1 hx ⟨t, rfl⟩ k _
        obtain ⟨d, ed, hd⟩ := l.get j x hx
        rw [getD_some ed] at k
        refine br_T ?_
        refine tabRowD_rd (hd.same s1) (dm d (List.mem_of_getElem? ed)) (fun H2 s2 => ?_)
        walk_at "wh"
        exact k rfl _ _ s2 ⟨_, rfl⟩
      intro acc H1 f1 s1 h1
      rw [filter_T, ll, range_getB (tabRowD m)] at h1
      refine all_rd h1 ?_
      rw [all_mapB]
      walk_at "wh"
      exact q _ s1
    · have q := q _ (Same.refl _)
      rw [decide_eq_false h0] at q
      walk_at "wh"
      exact q
  all_goals (walk_at "wh"; refine br_not (br_F ?_); walk_at "wh"; refine br_T ?_; walk_at "wh"; exact q _ (Same.refl _))
theorem fieldL_no {a c : Int} {w : Str} {ds : List PyData} (h1 : ds.length ≠ 1) (h2 : ds.length ≠ 2) : fieldL a c w ds = false := by
  match ds, h1, h2 with
  | [], _, _ => rfl
  | [_], h, _ => simp at h
  | [_, _], _, h => simp at h
  | _ :: _ :: _ :: _, _, _ => rfl
/-- what a field of that shape is -/
theorem fld_of {H : Hp} {v : V} {w : Str} {ds : List PyData} (h : ShV H v (.tuple (.str w :: ds))) : ∃ (p : Addr) (xs : List V), v = .ref p ∧ H p = some (.tup (.str w :: xs)) ∧ ShL H xs ds := by
  cases h
  case tup p xs e l =>
    cases l with
    | cons h1 l =>
      cases h1
      exact ⟨p, _, rfl, e, l⟩
@[irreducible] def sp_is_field : Sp := fun vs H Q _ => ∃ (a c : Int) (v : V) (d : PyData), vs = [.int a, .int c, v] ∧ ShV H v d ∧ sml d = true ∧ FldS d ∧ ∀ H', Same H H' → Q (.bl (fieldD a c d)) H'
theorem fieldD_rd {H : Hp} {a c : Int} {v : V} {d : PyData} {Q : VK} {E : XK} (h : ShV H v d) (hs : sml d = true) (hf : FldS d) (q : ∀ H', Same H H' → Q (.bl (fieldD a c d)) H') : sp_is_field [.int a, .int c, v] H Q E := by unfold sp_is_field; exact ⟨a, c, v, d, rfl, h, hs, hf, q⟩
theorem ok_is_field {f : Addr} {fd : FuncData} (F : Fun K "is_field" "is_field" s_is_field f fd) (N : Nm mg) (D_is_between : Def P w K mg base CX0 3 "is_between" ["thing", "least", "most"] sp_is_between) (D_is_from : Def P w K mg base CX0 2 "is_from" ["thing", "least"] sp_is_from) (D_is_table : Def P w K mg base CX0 3 "is_table" ["many_rows", "many_numbers", "rows"] sp_is_table) (D_is_whole : Def P w K mg base CX0 1 "is_whole" ["thing"] sp_is_whole) : FnOk P w K mg base CX0 4 f fd ["first", "second", "field"] sp_is_field := by
  refine F.ok sc_is_field (fun vs H Q E h => by unfold sp_is_field at h; obtain ⟨_, _, _, _, rfl, _⟩ := h; rfl) (fun cdv A outer s H vs Q E hr h => ?_)
  unfold sp_is_field at h
  obtain ⟨a, c, v, d, rfl, h, hs, ⟨w, ds, rfl⟩, q⟩ := h
  have hu := hu40 hr
  obtain ⟨p, xs, rfl, e, l⟩ := fld_of h
  have ll := l.len
  have dm := (smlT_len hs).2
  have q : ∀ H', Same H H' → Q (.bl (fieldL a c w ds)) H' := q
  have q0 := q _ (Same.refl _)
  refine ⟨_, (pss_cons (psIf (pt_not (ptV (pB (cIsiK (K := K) rfl) N.isinstance_ bt_isinstance (pa_cons (pq 2) (pa_cons (pTy N.tuple_ bt_tuple) pa_nil))))) (pss_one (ps_ret pe_bl)) pss_nil)
      (pss_cons (psIf (ptW (pwAnd (ptC (oEqXK (K := K) rfl (by exact hu)) (pB (cLenK (K := K) rfl) N.len_ bt_len (pa_cons (pq 2) pa_nil)) pe_int) (pw_and1 (ptC (oEqXK (K := K) rfl (by exact hu)) (peIxK (K := K) rfl (pq 2) pe_int) pe_str)))) (pss_one (ps_ret (peAnd (pD D_is_from hr pass0 (pa_cons (peIxK (K := K) rfl (pq 2) pe_int) (pa_cons pe_int pa_nil))) (pe_one (pD D_is_between hr pass0 (pa_cons (peIxK (K := K) rfl (pq 2) pe_int) (pa_cons (pe_un uNeg (peIxK (K := K) rfl (pq 2) pe_int)) (pa_cons (peIxK (K := K) rfl (pq 2) pe_int) pa_nil)))))))) pss_nil)
      (pss_cons (psIf (ptW (pwAnd (ptC (oEqXK (K := K) rfl (by exact hu)) (pB (cLenK (K := K) rfl) N.len_ bt_len (pa_cons (pq 2) pa_nil)) pe_int) (pw_and1 (ptC (oEqXK (K := K) rfl (by exact hu)) (peIxK (K := K) rfl (pq 2) pe_int) pe_str)))) (pss_one (ps_ret (peAnd (pD D_is_from hr pass0 (pa_cons (peIxK (K := K) rfl (pq 2) pe_int) (pa_cons pe_int pa_nil))) (pe_one (pD D_is_whole hr pass0 (pa_cons (peIxK (K := K) rfl (pq 2) pe_int) pa_nil)))))) pss_nil)
      (pss_cons (psIf (ptW (pwAnd (ptC (oEqXK (K := K) rfl (by exact hu)) (pB (cLenK (K := K) rfl) N.len_ bt_len (pa_cons (pq 2) pa_nil)) pe_int) (pw_and1 (ptC (oEqXK (K := K) rfl (by exact hu)) (peIxK (K := K) rfl (pq 2) pe_int) pe_str)))) (pss_one (ps_ret (pD D_is_table hr pass0 (pa_cons (pe_op oAdd (pq 0) pe_int) (pa_cons (pe_op oAdd (pq 1) pe_int) (pa_cons (peIxK (K := K) rfl (pq 2) pe_int) pa_nil)))))) pss_nil)
      (pss_one (ps_ret pe_bl)))))), ?_⟩
  refine isiT_rd e ?_
  refine br_not (br_T ?_)
  refine lenT_rd e ?_
  rw [List.length_cons, ll]
  refine br_dec (fun h3 => ?_) (fun h3 => ?_)
  · obtain ⟨x, y, b, d, rfl, rfl, hb, hd⟩ := shl_two l (by walk_at "om")
    have q : ∀ H', Same H H' → Q (.bl ((decide (w = "more") && (fromD 1 b && betwD (-(intD b)) (intD b) d)) || (decide (w = "lead") && (fromD 1 b && isW d)))) H' := q
    refine ixT_rd (v := .str w) e rfl ?_
    refine br_dec (fun hw => ?_) (fun hw => ?_)
    · have nl : ¬ w = "lead" := by rw [hw]; decide
      have q := q _ (Same.refl _)
      rw [decide_eq_true hw, decide_eq_false nl, Bool.true_and, Bool.false_and, Bool.or_false] at q
      refine ixT_rd (v := x) e rfl ?_
      refine isfD_rd hb ?_
      cases eb : fromD 1 b
      · rw [eb] at q
        refine br_F ?_
        walk_at "wh"
        exact q
      · rw [eb, Bool.true_and] at q
        obtain ⟨i, rfl, hi⟩ := fromD_int eb
        cases hb
        refine br_T ?_
        refine ixT_rd (v := y) e rfl ?_
        refine ixT_rd (v := .int i) e rfl ?_
        refine ixT_rd (v := .int i) e rfl ?_
        refine isbD_rd hd ?_
        walk_at "wh"
        exact q
    · rw [decide_eq_false hw, Bool.false_and] at q
      have q : ∀ H', Same H H' → Q (.bl (decide (w = "lead") && (fromD 1 b && isW d))) H' := q
      refine lenT_rd e ?_
      refine br_dT (by show ((3 : Nat) : Int) = 3; rfl) ?_
      refine ixT_rd (v := .str w) e rfl ?_
      refine br_dec (fun hw2 => ?_) (fun hw2 => ?_)
      · have q := q _ (Same.refl _)
        rw [decide_eq_true hw2, Bool.true_and] at q
        refine ixT_rd (v := x) e rfl ?_
        refine isfD_rd hb ?_
        cases eb : fromD 1 b
        · rw [eb] at q
          refine br_F ?_
          walk_at "wh"
          exact q
        · rw [eb, Bool.true_and] at q
          refine br_T ?_
          refine ixT_rd (v := y) e rfl ?_
          refine iswD_rd hd ?_
          walk_at "wh"
          exact q
      · have q := q _ (Same.refl _)
        rw [decide_eq_false hw2] at q
        refine lenT_rd e ?_
        refine br_dF (by show ¬ ((3 : Nat) : Int) = 2; decide) ?_
        refine br_F ?_
        walk_at "wh"
        exact q
  · walk_at "wh"
    refine br_F ?_
    refine lenT_rd e ?_
    rw [List.length_cons, ll]
    refine br_dF h3 ?_
    refine br_F ?_
    refine lenT_rd e ?_
    rw [List.length_cons, ll]
    refine br_dec (fun h2 => ?_) (fun h2 => ?_)
    · obtain ⟨x, b, rfl, rfl, hb⟩ : ∃ x b, xs = [x] ∧ ds = [b] ∧ ShV H x b := by
        cases l with
        | nil => simp at h2
        | cons h1 l =>
          cases l with
          | nil => exact ⟨_, _, rfl, rfl, h1⟩
          | cons _ _ => simp at h2; omega
      have q : ∀ H', Same H H' → Q (.bl (decide (w = "table") && tabD (a + 1) (c + 1) b)) H' := q
      refine ixT_rd (v := .str w) e rfl ?_
      refine br_dec (fun hw => ?_) (fun hw => ?_)
      · rw [decide_eq_true hw, Bool.true_and] at q
        refine ixT_rd (v := x) e rfl ?_
        refine tabD_rd hb (dm b (by simp)) (fun H1 s1 => ?_)
        walk_at "wh"
        exact q _ s1
      · have q := q _ (Same.refl _)
        rw [decide_eq_false hw] at q
        walk_at "wh"
        exact q
    · rw [fieldL_no (by walk_at "om") (by walk_at "om")] at q0
      refine br_F ?_
      walk_at "wh"
      exact q0
/-! battles -/
abbrev Sz (a c : Int) (n : Nat) : Prop := ((0 ≤ a ∧ a ≤ 10) ∧ 0 ≤ c ∧ c ≤ 10) ∧ 1 ≤ n ∧ n ≤ 5
def fstBad (g : PyData → Bool) : List PyData → Nat → Option Nat
  | [], _ => none
  | d :: ds, i => if g d = true then fstBad g ds (i + 1) else some i
theorem fstBad_none {g : PyData → Bool} : ∀ {ds : List PyData} {i : Nat}, (∀ d ∈ ds, g d = true) → fstBad g ds i = none
  | [], _, _ => rfl
  | d :: ds, i, h => by
    unfold fstBad
    rw [if_pos (h d (.head _))]
    exact fstBad_none fun x hx => h x (.tail _ hx)
theorem fstBad_at {g : PyData → Bool} : ∀ {ds : List PyData} {i j : Nat} {d : PyData}, ds[j]? = some d → g d = false → (∀ e ∈ ds.take j, g e = true) → fstBad g ds i = some (i + j)
  | [], _, _, _, h, _, _ => by simp at h
  | e :: ds, i, 0, d, h, hb, _ => by
    cases h
    unfold fstBad
    rw [if_neg (by rw [hb]; exact Bool.false_ne_true)]; rfl
  | e :: ds, i, j + 1, d, h, hb, ha => by
    unfold fstBad
    rw [if_pos (ha e (by simp)), fstBad_at (ds := ds) (i := i + 1) (j := j) h hb fun x hx => ha x (by rw [List.take_succ_cons]; exact .tail _ hx)]
    congr 1; omega
def dueD (a c : Int) (ds : List PyData) : Option Int := if Sz a c ds.length then (fstBad (fieldD a c) ds 0).map (fun (n : Nat) => (n : Int)) else some (-1)
structure BatD (H : Hp) (b l : Addr) (xs : List V) (a c : Int) (ds : List PyData) : Prop where
  out : H b = some (.tup [.int a, .int c, .ref l])
  lst : H l = some (.lst xs)
  sh : ShL H xs ds
  ok : ∀ d ∈ ds, FldS d ∧ okD 5 d
  len : ds.length ≤ 100
theorem BatD.same {H H' : Hp} {b l : Addr} {xs : List V} {a c : Int} {ds : List PyData} (B : BatD H b l xs a c ds) (s : Same H H') : BatD H' b l xs a c ds := ⟨s _ _ B.out, s _ _ B.lst, B.sh.same s, B.ok, B.len⟩
@[irreducible] def sp_has_size : Sp := fun vs H Q _ => ∃ (b l : Addr) (ys : List V) (a c : Int), vs = [.ref b] ∧ H b = some (.tup [.int a, .int c, .ref l]) ∧ H l = some (.lst ys) ∧ Q (.bl (decide (Sz a c ys.length))) H
theorem has_size_rd {H : Hp} {b l : Addr} {ys : List V} {a c : Int} {Q : VK} {E : XK} (h1 : H b = some (.tup [.int a, .int c, .ref l])) (h2 : H l = some (.lst ys)) (q : Q (.bl (decide (Sz a c ys.length))) H) : sp_has_size [.ref b] H Q E := by unfold sp_has_size; exact ⟨b, l, ys, a, c, rfl, h1, h2, q⟩
theorem ok_has_size {f : Addr} {fd : FuncData} (F : Fun K "has_size" "has_size" s_has_size f fd) (N : Nm mg) {tk_MOST_FIELDS_fields : Tok} (c_MOST_FIELDS_fields : mg "MOST_FIELDS_fields" = some (.int 5 tk_MOST_FIELDS_fields)) (D_are_hosts : Def P w K mg base CX0 4 "are_hosts" ["first", "second"] sp_are_hosts) : FnOk P w K mg base CX0 5 f fd ["battle"] sp_has_size := by
  refine F.ok sc_has_size (fun vs H Q E h => by unfold sp_has_size at h; obtain ⟨_, _, _, _, _, rfl, _⟩ := h; rfl) (fun cdv A outer s H vs Q E hr h => ?_)
  unfold sp_has_size at h
  obtain ⟨b, l, ys, a, c, rfl, h1, h2, q⟩ := h
  refine ⟨_, (pss_one (ps_ret (peAnd (pD D_are_hosts hr pass0 (pa_cons (peIxK (K := K) rfl (pq 0) pe_int) (pa_cons (peIxK (K := K) rfl (pq 0) pe_int) pa_nil))) (pe_one (peChain oLe oLe pe_int (pB (cLenK (K := K) rfl) N.len_ bt_len (pa_cons (peIxK (K := K) rfl (pq 0) pe_int) pa_nil)) (pe_glob (v := .int 5) rfl c_MOST_FIELDS_fields ⟨_, rfl⟩)))))), ?_⟩
  refine ixT_rd (v := .int a) h1 rfl ?_
  refine ixT_rd (v := .int c) h1 rfl ?_
  refine are_hosts_rd ?_
  refine br_dec (fun e1 => ?_) (fun e1 => ?_)
  · walk_at "wh"
    refine ixT_rd (v := .ref l) h1 rfl ?_
    refine lenL_rd h2 ?_
    walk_at "wh"
    rw [dec_and1 e1] at q
    refine br_dec (fun e2 => ?_) (fun e2 => ?_)
    · walk_at "wh"
      rw [show decide (1 ≤ ys.length ∧ ys.length ≤ 5) = decide ((ys.length : Int) ≤ 5) by rw [Bool.eq_iff_iff, decide_eq_true_iff, decide_eq_true_iff]; omega] at q
      exact q
    · walk_at "wh"
      rw [decide_eq_false (by walk_at "om")] at q
      exact q
  · rw [dec_and0 e1] at q
    walk_at "wh"
    exact q
@[irreducible] def sp_look_battle (a_NoBattle : Addr) : Sp := fun vs H Q E => ∃ (b l : Addr) (xs : List V) (a c : Int) (ds : List PyData), vs = [.ref b] ∧ BatD H b l xs a c ds ∧ (dueD a c ds = none → ∀ H', Same H H' → Q .non H') ∧ ∀ k : Int, dueD a c ds = some k → ∀ d H', H d = none → Same H H' → H' d = some (.xd [("field", .int k)]) → E (.ref a_NoBattle) (some d) H'
theorem look_battleD_rd {a_NoBattle : Addr} {H : Hp} {b l : Addr} {xs : List V} {a c : Int} {ds : List PyData} {Q : VK} {E : XK} (B : BatD H b l xs a c ds) (q : dueD a c ds = none → ∀ H', Same H H' → Q .non H') (qe : ∀ k : Int, dueD a c ds = some k → ∀ d H', H d = none → Same H H' → H' d = some (.xd [("field", .int k)]) → E (.ref a_NoBattle) (some d) H') : sp_look_battle a_NoBattle [.ref b] H Q E := by unfold sp_look_battle; exact ⟨b, l, xs, a, c, ds, rfl, B, q, qe⟩
theorem ok_look_battle {f : Addr} {fd : FuncData} (F : Fun K "look_battle" "look_battle" s_look_battle f fd) (N : Nm mg) (D_has_size : Def P w K mg base CX0 5 "has_size" ["battle"] sp_has_size) (D_is_field : Def P w K mg base CX0 4 "is_field" ["first", "second", "field"] sp_is_field) (Z : Cz K mg base a_HostError a_NoBattle a_NoPlan a_NoMix a_NoStream a_NoSide a_NoAlike a_NoNumber a_TooGreat a_NoEven a_NoText a_NoRow a_NoName a_NoPlace a_Grid i_NoBattle) : FnOk P w K mg base (CXR P w) 6 f fd ["battle"] (sp_look_battle a_NoBattle) := by
  refine F.okR sc_look_battle (fun vs H Q E h => by unfold sp_look_battle at h; obtain ⟨_, _, _, _, _, _, rfl, _⟩ := h; rfl) (fun cdv A outer s H vs Q E hr hX h => ?_)
  unfold sp_look_battle at h
  obtain ⟨b, l, xs, a, c, ds, rfl, B, q, qe⟩ := h
  have bl := B.sh.len
  refine ⟨_, (pss_cons (psIf (pt_not (ptV (pD D_has_size hr pass0 (pa_cons (pq 0) pa_nil)))) (pss_one (psRaiseO Z.z_NoBattle Z.g_NoBattle (ini_NoBattle Z.fi_NoBattle Z.z_NoBattle) (hr.mono (by decide)) rfl hX (pe_un uNeg pe_int))) pss_nil)
      (pss_one (psFor PassesOwn.leaving rfl (piEnumK (K := K) rfl N.enumerate_ (pa_cons (peIxK (K := K) rfl (pq 0) pe_int) pa_nil)) (pgAnyK (K := K) (n := 2) rfl rfl (pgsCons (pg_name (i := 1) sc_look_battle.nd rfl (by first | exact Or.inl rfl | exact Or.inr rfl)) (pgsCons (pg_name (i := 2) sc_look_battle.nd rfl (by first | exact Or.inl rfl | exact Or.inr rfl)) pgsNil))) (pss_one (psIf (pt_not (ptV (pD D_is_field hr pass0 (pa_cons (peIxK (K := K) rfl (pq 0) pe_int) (pa_cons (peIxK (K := K) rfl (pq 0) pe_int) (pa_cons (pq 2) pa_nil)))))) (pss_one (psRaiseO Z.z_NoBattle Z.g_NoBattle (ini_NoBattle Z.fi_NoBattle Z.z_NoBattle) (hr.mono (by decide)) rfl hX (pq 1))) pss_nil))))), ?_⟩
  refine has_size_rd B.out B.lst ?_
  rw [bl]
  by_cases sz : Sz a c ds.length
  rotate_left
  · rw [decide_eq_false sz]
    refine br_not (br_F ?_)
    refine raiseI_rd (qe (-1) ?_)
    unfold dueD
    rw [if_neg sz]
  have du : dueD a c ds = (fstBad (fieldD a c) ds 0).map (fun (n : Nat) => (n : Int)) := by unfold dueD; rw [if_pos sz]
  rw [decide_eq_true sz]
  refine br_not (br_T ?_)
  refine ixT_rd (v := .ref l) B.out rfl ?_
  refine enum_rd B.lst ?_
  refine loop_enum (xs := xs) (fun i σ H1 => ∃ x y : Option V, σ = [some (.ref b), x, y] ∧ Same H H1 ∧ ∀ d ∈ ds.take i, fieldD a c d = true) ?_ ?_ ?_ ?_
  · exact ⟨_, _, rfl, Same.refl _, fun d hd => by simp at hd⟩
  · rintro i σ H1 _ ⟨_, _, _, s1, _⟩
    exact SqL.of (s1 _ _ B.lst)
  · rintro i v σ H1 p H2 hi ⟨x, y, rfl, s1, gd⟩ f2 s2 h2
    have s12 := s1.trans s2
    obtain ⟨d, ed, hd⟩ := B.sh.get i v hi
    obtain ⟨fs, od⟩ := B.ok d (List.mem_of_getElem? ed)
    refine unpT_rd h2 ?_
    refine ixT_rd (v := .int a) (s12 _ _ B.out) rfl ?_
    refine ixT_rd (v := .int c) (s12 _ _ B.out) rfl ?_
    refine fieldD_rd (hd.same s12) od.1 fs (fun H3 s3 => ?_)
    cases ef : fieldD a c d
    · walk_at "wh"
      refine br_not (br_F ?_)
      refine raiseI_rd (fun d' H4 f4 s4 h4 => qe i ?_ d' H4 ((s12.trans s3).free f4) ((s12.trans s3).trans s4) h4)
      rw [du, fstBad_at ed ef gd, Nat.zero_add]; rfl
    · walk_at "wh"
      refine br_not (br_T ?_)
      walk_at "wh"
      refine ⟨_, _, rfl, s12.trans s3, fun d' hd' => ?_⟩
      rw [List.take_succ, ed] at hd'
      rcases List.mem_append.mp hd' with hm | hm
      · exact gd d' hm
      · have : d' = d := by simpa using hm
        rw [this]; exact ef
  · rintro σ H1 ⟨x, y, rfl, s1, gd⟩
    rw [bl, List.take_length] at gd
    walk_at "wh"
    refine q ?_ _ s1
    rw [du, fstBad_none gd]; rfl
-- @@split
theorem due_none {a c : Int} {ds : List PyData} (h : dueD a c ds = none) : Sz a c ds.length ∧ ∀ d ∈ ds, fieldD a c d = true := by
  unfold dueD at h
  by_cases sz : Sz a c ds.length
  · rw [if_pos sz] at h
    refine ⟨sz, fun d hd => ?_⟩
    cases e : fieldD a c d
    · obtain ⟨j, ej⟩ := List.getElem?_of_mem hd
      have : ∀ {ds : List PyData} {i : Nat}, d ∈ ds → fstBad (fieldD a c) ds i ≠ none := fun {ds} => by
        induction ds with
        | nil => intro i h; cases h
        | cons x ds ih =>
          intro i h
          unfold fstBad
          by_cases hx : fieldD a c x = true
          · rw [if_pos hx]
            rcases List.mem_cons.mp h with rfl | h
            · rw [e] at hx; cases hx
            · exact ih h
          · rw [if_neg hx]; exact fun z => by cases z
      cases ef : fstBad (fieldD a c) ds 0 with
      | none => exact absurd ef (this hd)
      | some n => rw [ef] at h; cases h
    · rfl
  · rw [if_neg sz] at h; cases h
abbrev NB (a_NoBattle : Addr) (H : Hp) (o : Option Int) (E : XK) : Prop := ∀ k : Int, o = some k → ∀ d H', H d = none → Same H H' → H' d = some (.xd [("field", .int k)]) → E (.ref a_NoBattle) (some d) H'
theorem NB.same {a_NoBattle : Addr} {H H1 : Hp} {o : Option Int} {E : XK} (h : NB a_NoBattle H o E) (s : Same H H1) : NB a_NoBattle H1 o E := fun k e d H' f s' e' => h k e d H' (s.free f) (s.trans s') e'
@[irreducible] def sp_is_alike (a_NoBattle : Addr) : Sp := fun vs H Q E => ∃ (b l : Addr) (xs : List V) (a c : Int) (ds : List PyData), vs = [.ref b] ∧ BatD H b l xs a c ds ∧ (dueD a c ds = none → ∀ H', Same H H' → Q (.bl (ds.all fun d => d.eqv (ds.getD 0 .none))) H') ∧ NB a_NoBattle H (dueD a c ds) E
theorem is_alikeD_rd {a_NoBattle : Addr} {H : Hp} {b l : Addr} {xs : List V} {a c : Int} {ds : List PyData} {Q : VK} {E : XK} (B : BatD H b l xs a c ds) (q : dueD a c ds = none → ∀ H', Same H H' → Q (.bl (ds.all fun d => d.eqv (ds.getD 0 .none))) H') (qe : NB a_NoBattle H (dueD a c ds) E) : sp_is_alike a_NoBattle [.ref b] H Q E := by unfold sp_is_alike; exact ⟨b, l, xs, a, c, ds, rfl, B, q, qe⟩
theorem ok_is_alike {f : Addr} {fd : FuncData} (F : Fun K "is_alike" "is_alike" s_is_alike f fd) (N : Nm mg) (D_look_battle : Def P w K mg base (CXR P w) 6 "look_battle" ["battle"] (sp_look_battle a_NoBattle)) : FnOk P w K mg base (CXR P w) 7 f fd ["battle"] (sp_is_alike a_NoBattle) := by
  refine F.okR sc_is_alike (fun vs H Q E h => by unfold sp_is_alike at h; obtain ⟨_, _, _, _, _, _, rfl, _⟩ := h; rfl) (fun cdv A outer s H vs Q E hr hX h => ?_)
  unfold sp_is_alike at h
  obtain ⟨b, l, xs, a, c, ds, rfl, B, q, qe⟩ := h
  have hu := hu40 hr
  refine ⟨_, (pss_cons (ps_expr (pD D_look_battle hr (passR hX) (pa_cons (pq 0) pa_nil)))
      (pss_one (ps_ret (pB (cAllK (K := K) rfl rfl) N.all_ bt_all (pa_cons (peComp (N := ["field", "battle"]) (ks := [none, some 0]) (piSeqK (K := K) rfl (peIxK (K := K) rfl (pq 0) pe_int)) (fun cl C s3 H3 fp => (pg_name (i := 0) nb_3 rfl (by first | exact Or.inl rfl | exact Or.inr rfl))) (fun cl C s3 H3 fp => pts_nil) (fun cl C s3 H3 fp => (peC (oEqXK (K := K) rfl (by exact hu)) (pq 0) (peIxK (K := K) rfl (peIxK (K := K) rfl (pq 1) pe_int) pe_int))) (.skip (.take rfl rfl (by first | exact Or.inl rfl | exact Or.inr rfl) .nil))) pa_nil))))), ?_⟩
  refine look_battleD_rd B (fun du H1 s1 => ?_) qe
  obtain ⟨sz, gd⟩ := due_none du
  have B1 := B.same s1
  have bl := B.sh.len
  have dl := B.len
  obtain ⟨x0, ex0⟩ : ∃ x, xs[0]? = some x := ⟨_, List.getElem?_eq_getElem (by walk_at "om")⟩
  obtain ⟨d0, ed0, hd0⟩ := B1.sh.get 0 x0 ex0
  obtain ⟨⟨w0, es0, rfl⟩, od0⟩ := B1.ok d0 (List.mem_of_getElem? ed0)
  obtain ⟨p0, ys0, rfl, e0, l0⟩ := fld_of hd0
  refine ixT_rd (v := .ref l) B1.out rfl ?_
  refine iterL_rd B1.lst ?_
  refine comp_I (Wk.list (SqL.of B1.lst)) (by rw [bl, sizeLine_eq]; omega) (fun i => .bl ((ds.getD i .none).eqv (ds.getD 0 .none))) (fun _ => true) (fun j σ => ∃ t : Option V, σ = [t, some (.ref b)]) ⟨none, rfl⟩ ?_ ?_
  · rintro j v σ H2 R S hj s2 hx ⟨t, rfl⟩ k _
    have B2 := B1.same s2
    obtain ⟨d, ed, hd⟩ := B2.sh.get j v hx
    obtain ⟨⟨w1, es1, rfl⟩, od⟩ := B2.ok d (List.mem_of_getElem? ed)
    rw [getD_some ed, getD_some ed0] at k
    have hd' := hd
    obtain ⟨p1, ys1, rfl, e1, l1⟩ := fld_of hd
    refine br_T ?_
    refine ixT_rd (v := .ref l) B2.out rfl ?_
    refine ixL_rd (v := .ref p0) B2.lst (atI_nat (j := 0) ex0) ?_
    refine eqS_rd hd' (hd0.same s2) od.2.1 od0.2.1 (Nat.le_trans od.2.2 (by decide)) ?_
    walk_at "wh"
    exact k rfl _ _ (Same.refl _) ⟨_, rfl⟩
  intro acc H2 f2 s2 h2
  rw [filter_T, bl, range_getB fun d => d.eqv (ds.getD 0 .none)] at h2
  refine all_rd h2 ?_
  rw [all_mapB]
  walk_at "wh"
  exact q du _ (s1.trans s2)
/-! ### what is asked of battles that are alike, refused -/
@[irreducible] def sp_look_alike (a_NoBattle a_NoAlike : Addr) : Sp := fun vs H Q E => ∃ (b l : Addr) (xs : List V) (a c : Int) (ds : List PyData), vs = [.ref b] ∧ BatD H b l xs a c ds ∧ (dueD a c ds = none → (ds.all fun d => d.eqv (ds.getD 0 .none)) = true → ∀ H', Same H H' → Q .non H') ∧ (dueD a c ds = none → (ds.all fun d => d.eqv (ds.getD 0 .none)) = false → ∀ H', Same H H' → E (.ref a_NoAlike) none H') ∧ NB a_NoBattle H (dueD a c ds) E
theorem look_alikeD_rd {a_NoBattle a_NoAlike : Addr} {H : Hp} {b l : Addr} {xs : List V} {a c : Int} {ds : List PyData} {Q : VK} {E : XK} (B : BatD H b l xs a c ds) (q : dueD a c ds = none → (ds.all fun d => d.eqv (ds.getD 0 .none)) = true → ∀ H', Same H H' → Q .non H') (qa : dueD a c ds = none → (ds.all fun d => d.eqv (ds.getD 0 .none)) = false → ∀ H', Same H H' → E (.ref a_NoAlike) none H') (qe : NB a_NoBattle H (dueD a c ds) E) : sp_look_alike a_NoBattle a_NoAlike [.ref b] H Q E := by unfold sp_look_alike; exact ⟨b, l, xs, a, c, ds, rfl, B, q, qa, qe⟩
theorem ok_look_alike {f : Addr} {fd : FuncData} (F : Fun K "look_alike" "look_alike" s_look_alike f fd) (N : Nm mg) (D_is_alike : Def P w K mg base (CXR P w) 7 "is_alike" ["battle"] (sp_is_alike a_NoBattle)) (Z : Cz K mg base a_HostError a_NoBattle a_NoPlan a_NoMix a_NoStream a_NoSide a_NoAlike a_NoNumber a_TooGreat a_NoEven a_NoText a_NoRow a_NoName a_NoPlace a_Grid i_NoBattle) : FnOk P w K mg base (CXR P w) 8 f fd ["battle"] (sp_look_alike a_NoBattle a_NoAlike) := by
  refine F.okR sc_look_alike (fun vs H Q E h => by unfold sp_look_alike at h; obtain ⟨_, _, _, _, _, _, rfl, _⟩ := h; rfl) (fun cdv A outer s H vs Q E hr hX h => ?_)
  unfold sp_look_alike at h
  obtain ⟨b, l, xs, a, c, ds, rfl, B, q, qa, qe⟩ := h
  have hu := hu40 hr
  refine ⟨_, (pss_one (psIf (pt_not (ptV (pD D_is_alike hr (passR hX) (pa_cons (pq 0) pa_nil)))) (pss_one (psRaise Z.o_NoAlike PySem.F.excBase_ValueError rfl hX (pa_cons pe_str pa_nil))) pss_nil)), ?_⟩
  refine is_alikeD_rd B (fun du H1 s1 => ?_) qe
  cases ea : ds.all fun d => d.eqv (ds.getD 0 .none)
  · walk_at "wh"
    refine br_not (br_F ?_)
    walk_at "wh"
    exact ⟨by decide, qa du ea _ s1⟩
  · walk_at "wh"
    refine br_not (br_T ?_)
    walk_at "wh"
    exact q du ea _ s1
@[irreducible] def sp_look_plans (a_NoPlan : Addr) : Sp := fun vs H Q E => ∃ (b l : Addr) (v1 v2 : V) (p1 p2 : PyData) (xs : List V) (a c : Int) (ds : List PyData), vs = [.ref b, v1, v2] ∧ BatD H b l xs a c ds ∧ (ShV H v1 p1 ∧ sml p1 = true) ∧ (ShV H v2 p2 ∧ sml p2 = true) ∧ (planD a ds.length p1 && planD c ds.length p2) = false ∧ ∀ H', Same H H' → E (.ref a_NoPlan) none H'
theorem look_plansD_rd {a_NoPlan : Addr} {H : Hp} {b l : Addr} {v1 v2 : V} {p1 p2 : PyData} {xs : List V} {a c : Int} {ds : List PyData} {Q : VK} {E : XK} (B : BatD H b l xs a c ds) (h1 : ShV H v1 p1) (o1 : sml p1 = true) (h2 : ShV H v2 p2) (o2 : sml p2 = true) (bad : (planD a ds.length p1 && planD c ds.length p2) = false) (q : ∀ H', Same H H' → E (.ref a_NoPlan) none H') : sp_look_plans a_NoPlan [.ref b, v1, v2] H Q E := by unfold sp_look_plans; exact ⟨b, l, v1, v2, p1, p2, xs, a, c, ds, rfl, B, ⟨h1, o1⟩, ⟨h2, o2⟩, bad, q⟩
theorem ok_look_plans {f : Addr} {fd : FuncData} (F : Fun K "look_plans" "look_plans" s_look_plans f fd) (N : Nm mg) (D_is_plan : Def P w K mg base CX0 4 "is_plan" ["hosts", "fields", "plan"] sp_is_plan) (Z : Cz K mg base a_HostError a_NoBattle a_NoPlan a_NoMix a_NoStream a_NoSide a_NoAlike a_NoNumber a_TooGreat a_NoEven a_NoText a_NoRow a_NoName a_NoPlace a_Grid i_NoBattle) : FnOk P w K mg base (CXR P w) 5 f fd ["battle", "one", "other"] (sp_look_plans a_NoPlan) := by
  refine F.okR sc_look_plans (fun vs H Q E h => by unfold sp_look_plans at h; obtain ⟨_, _, _, _, _, _, _, _, _, _, rfl, _⟩ := h; rfl) (fun cdv A outer s H vs Q E hr hX h => ?_)
  unfold sp_look_plans at h
  obtain ⟨b, l, v1, v2, p1, p2, xs, a, c, ds, rfl, B, ⟨h1, o1⟩, ⟨h2, o2⟩, bad, q⟩ := h
  have hu := hu40 hr
  have bl := B.sh.len
  refine ⟨_, (pss_cons (psS (i := 3) sc_look_plans.nd (pB (cLenK (K := K) rfl) N.len_ bt_len (pa_cons (peIxK (K := K) rfl (pq 0) pe_int) pa_nil)))
      (pss_one (psIf (ptW (pwOr (pt_not (ptV (pD D_is_plan hr pass0 (pa_cons (peIxK (K := K) rfl (pq 0) pe_int) (pa_cons (pq 3) (pa_cons (pq 1) pa_nil)))))) (pw_or1 (pt_not (ptV (pD D_is_plan hr pass0 (pa_cons (peIxK (K := K) rfl (pq 0) pe_int) (pa_cons (pq 3) (pa_cons (pq 2) pa_nil))))))))) (pss_one (psRaise Z.o_NoPlan PySem.F.excBase_ValueError rfl hX (pa_cons pe_str pa_nil))) pss_nil))), ?_⟩
  refine ixT_rd (v := .ref l) B.out rfl ?_
  refine lenL_rd B.lst ?_
  rw [bl]
  refine ixT_rd (v := .int a) B.out rfl ?_
  refine planD_rd h1 o1 (fun H1 s1 => ?_)
  cases e1 : planD a ds.length p1
  · walk_at "wh"
    refine br_not (br_F ?_)
    refine br_T ?_
    walk_at "wh"
    exact ⟨by decide, q _ s1⟩
  rw [e1, Bool.true_and] at bad
  refine br_not (br_T ?_)
  refine ixT_rd (v := .int c) (s1 _ _ B.out) rfl ?_
  refine planD_rd (h2.same s1) o2 (fun H2 s2 => ?_)
  rw [bad]
  refine br_not (br_F ?_)
  walk_at "wh"
  exact ⟨by decide, q _ (s1.trans s2)⟩
/-- what refuses a battle: none is one, or its fields are unlike -/
abbrev RB (a_NoBattle a_NoAlike : Addr) (H : Hp) (a c : Int) (ds : List PyData) (E : XK) : Prop := (dueD a c ds = none → (ds.all fun d => d.eqv (ds.getD 0 .none)) = false ∧ ∀ H', Same H H' → E (.ref a_NoAlike) none H') ∧ NB a_NoBattle H (dueD a c ds) E
@[irreducible] def sp_ring_gain (a_NoBattle a_NoPlan a_NoAlike : Addr) : Sp := fun vs H Q E => ∃ (b l : Addr) (v1 v2 : V) (p1 p2 : PyData) (xs : List V) (a c : Int) (ds : List PyData), vs = [.ref b, v1, v2] ∧ BatD H b l xs a c ds ∧ (ShV H v1 p1 ∧ sml p1 = true) ∧ (ShV H v2 p2 ∧ sml p2 = true) ∧ (dueD a c ds = none → (ds.all fun d => d.eqv (ds.getD 0 .none)) = true → (planD a ds.length p1 && planD c ds.length p2) = false ∧ ∀ H', Same H H' → E (.ref a_NoPlan) none H') ∧ (dueD a c ds = none → (ds.all fun d => d.eqv (ds.getD 0 .none)) = false → ∀ H', Same H H' → E (.ref a_NoAlike) none H') ∧ NB a_NoBattle H (dueD a c ds) E
theorem ring_gainD_rd {a_NoBattle a_NoPlan a_NoAlike : Addr} {H : Hp} {b l : Addr} {v1 v2 : V} {p1 p2 : PyData} {xs : List V} {a c : Int} {ds : List PyData} {Q : VK} {E : XK} (B : BatD H b l xs a c ds) (h1 : ShV H v1 p1) (o1 : sml p1 = true) (h2 : ShV H v2 p2) (o2 : sml p2 = true) (q : dueD a c ds = none → (ds.all fun d => d.eqv (ds.getD 0 .none)) = true → (planD a ds.length p1 && planD c ds.length p2) = false ∧ ∀ H', Same H H' → E (.ref a_NoPlan) none H') (qa : dueD a c ds = none → (ds.all fun d => d.eqv (ds.getD 0 .none)) = false → ∀ H', Same H H' → E (.ref a_NoAlike) none H') (qe : NB a_NoBattle H (dueD a c ds) E) : sp_ring_gain a_NoBattle a_NoPlan a_NoAlike [.ref b, v1, v2] H Q E := by unfold sp_ring_gain; exact ⟨b, l, v1, v2, p1, p2, xs, a, c, ds, rfl, B, ⟨h1, o1⟩, ⟨h2, o2⟩, q, qa, qe⟩
theorem ok_ring_gain {f : Addr} {fd : FuncData} (F : Fun K "ring_gain" "ring_gain" s_ring_gain f fd) (N : Nm mg) (D_look_alike : Def P w K mg base (CXR P w) 8 "look_alike" ["battle"] (sp_look_alike a_NoBattle a_NoAlike)) (D_look_plans : Def P w K mg base (CXR P w) 5 "look_plans" ["battle", "one", "other"] (sp_look_plans a_NoPlan)) (D_ratio : Def P w K mg base CX0 1 "ratio" ["top", "bottom"] sp_ratio) (D_won_together : Def P w K mg base CX0 1 "won_together" ["field", "one", "other"] sp_won_together) : FnOk P w K mg base (CXR P w) 9 f fd ["battle", "one", "other"] (sp_ring_gain a_NoBattle a_NoPlan a_NoAlike) := by
  refine F.okR sc_ring_gain (fun vs H Q E h => by unfold sp_ring_gain at h; obtain ⟨_, _, _, _, _, _, _, _, _, _, rfl, _⟩ := h; rfl) (fun cdv A outer s H vs Q E hr hX h => ?_)
  unfold sp_ring_gain at h
  obtain ⟨b, l, v1, v2, p1, p2, xs, a, c, ds, rfl, B, ⟨h1, o1⟩, ⟨h2, o2⟩, q, qa, qe⟩ := h
  have hu := hu40 hr
  refine ⟨_, (pss_cons (ps_expr (pD D_look_alike hr (passR hX) (pa_cons (pq 0) pa_nil)))
      (pss_cons (ps_expr (pD D_look_plans hr (passR hX) (pa_cons (pq 0) (pa_cons (pq 1) (pa_cons (pq 2) pa_nil)))))
      (pss_one (ps_ret (pD D_ratio hr pass0 (pa_cons (pD D_won_together hr pass0 (pa_cons (peIxK (K := K) rfl (peIxK (K := K) rfl (pq 0) pe_int) pe_int) (pa_cons (pq 1) (pa_cons (pq 2) pa_nil)))) (pa_cons (pB (cLenK (K := K) rfl) N.len_ bt_len (pa_cons (peIxK (K := K) rfl (pq 0) pe_int) pa_nil)) pa_nil))))))), ?_⟩
  refine look_alikeD_rd B (fun du ea H1 s1 => ?_) qa qe
  obtain ⟨bad, q⟩ := q du ea
  refine look_plansD_rd (B.same s1) (h1.same s1) o1 (h2.same s1) o2 bad (fun H2 s2 => ?_)
  exact q _ (s1.trans s2)
@[irreducible] def sp_counts_table (a_NoBattle a_NoAlike : Addr) : Sp := fun vs H Q E => ∃ (b l : Addr) (xs : List V) (a c : Int) (ds : List PyData), vs = [.ref b] ∧ BatD H b l xs a c ds ∧ RB a_NoBattle a_NoAlike H a c ds E
theorem counts_tableD_rd {a_NoBattle a_NoAlike : Addr} {H : Hp} {b l : Addr} {xs : List V} {a c : Int} {ds : List PyData} {Q : VK} {E : XK} (B : BatD H b l xs a c ds) (q : RB a_NoBattle a_NoAlike H a c ds E) : sp_counts_table a_NoBattle a_NoAlike [.ref b] H Q E := by unfold sp_counts_table; exact ⟨b, l, xs, a, c, ds, rfl, B, q⟩
theorem ok_counts_table {f : Addr} {fd : FuncData} (F : Fun K "counts_table" "counts_table" s_counts_table f fd) (N : Nm mg) (D_all_counts : Def P w K mg base CX0 1 "all_counts" ["hosts", "fields"] sp_all_counts) (D_look_alike : Def P w K mg base (CXR P w) 8 "look_alike" ["battle"] (sp_look_alike a_NoBattle a_NoAlike)) (D_together_table : Def P w K mg base CX0 1 "together_table" ["field", "ones", "others"] sp_together_table) : FnOk P w K mg base (CXR P w) 9 f fd ["battle"] (sp_counts_table a_NoBattle a_NoAlike) := by
  refine F.okR sc_counts_table (fun vs H Q E h => by unfold sp_counts_table at h; obtain ⟨_, _, _, _, _, _, rfl, _⟩ := h; rfl) (fun cdv A outer s H vs Q E hr hX h => ?_)
  unfold sp_counts_table at h
  obtain ⟨b, l, xs, a, c, ds, rfl, B, q, qe⟩ := h
  have hu := hu40 hr
  refine ⟨_, (pss_cons (ps_expr (pD D_look_alike hr (passR hX) (pa_cons (pq 0) pa_nil)))
      (pss_cons (psS (i := 1) sc_counts_table.nd (pB (cLenK (K := K) rfl) N.len_ bt_len (pa_cons (peIxK (K := K) rfl (pq 0) pe_int) pa_nil)))
      (pss_one (ps_ret (pD D_together_table hr pass0 (pa_cons (peIxK (K := K) rfl (peIxK (K := K) rfl (pq 0) pe_int) pe_int) (pa_cons (pD D_all_counts hr pass0 (pa_cons (peIxK (K := K) rfl (pq 0) pe_int) (pa_cons (pq 1) pa_nil))) (pa_cons (pD D_all_counts hr pass0 (pa_cons (peIxK (K := K) rfl (pq 0) pe_int) (pa_cons (pq 1) pa_nil))) pa_nil)))))))), ?_⟩
  refine look_alikeD_rd B (fun du ea H1 s1 => ?_) (fun du ea => (q du).2) qe
  have := (q du).1
  rw [ea] at this
  cases this
@[irreducible] def sp_counts_worth (a_NoBattle a_NoAlike : Addr) : Sp := fun vs H Q E => ∃ (b l : Addr) (xs : List V) (a c : Int) (ds : List PyData), vs = [.ref b] ∧ BatD H b l xs a c ds ∧ RB a_NoBattle a_NoAlike H a c ds E
theorem counts_worthD_rd {a_NoBattle a_NoAlike : Addr} {H : Hp} {b l : Addr} {xs : List V} {a c : Int} {ds : List PyData} {Q : VK} {E : XK} (B : BatD H b l xs a c ds) (q : RB a_NoBattle a_NoAlike H a c ds E) : sp_counts_worth a_NoBattle a_NoAlike [.ref b] H Q E := by unfold sp_counts_worth; exact ⟨b, l, xs, a, c, ds, rfl, B, q⟩
theorem ok_counts_worth {f : Addr} {fd : FuncData} (F : Fun K "counts_worth" "counts_worth" s_counts_worth f fd) (N : Nm mg) (D_counts_mix : Def P w K mg base CX0 1 "counts_mix" ["hosts", "fields", "weights"] sp_counts_mix) (D_counts_table : Def P w K mg base (CXR P w) 9 "counts_table" ["battle"] (sp_counts_table a_NoBattle a_NoAlike)) (D_table_worth : Def P w K mg base CX0 1 "table_worth" ["table"] sp_table_worth) (D_times : Def P w K mg base CX0 1 "times" ["one", "other"] sp_times) : FnOk P w K mg base (CXR P w) 10 f fd ["battle"] (sp_counts_worth a_NoBattle a_NoAlike) := by
  refine F.okR sc_counts_worth (fun vs H Q E h => by unfold sp_counts_worth at h; obtain ⟨_, _, _, _, _, _, rfl, _⟩ := h; rfl) (fun cdv A outer s H vs Q E hr hX h => ?_)
  unfold sp_counts_worth at h
  obtain ⟨b, l, xs, a, c, ds, rfl, B, q⟩ := h
  have hu := hu40 hr
  refine ⟨_, (pss_cons (psS (i := 1) sc_counts_worth.nd (pD D_table_worth hr pass0 (pa_cons (pD D_counts_table hr (passR hX) (pa_cons (pq 0) pa_nil)) pa_nil)))
      (pss_cons (psS (i := 2) sc_counts_worth.nd (pB (cLenK (K := K) rfl) N.len_ bt_len (pa_cons (peIxK (K := K) rfl (pq 0) pe_int) pa_nil)))
      (pss_cons (psS (i := 3) sc_counts_worth.nd (pD D_counts_mix hr pass0 (pa_cons (peIxK (K := K) rfl (pq 0) pe_int) (pa_cons (pq 2) (pa_cons (peIxK (K := K) rfl (pq 1) pe_int) pa_nil)))))
      (pss_cons (psS (i := 4) sc_counts_worth.nd (pD D_counts_mix hr pass0 (pa_cons (peIxK (K := K) rfl (pq 0) pe_int) (pa_cons (pq 2) (pa_cons (peIxK (K := K) rfl (pq 1) pe_int) pa_nil)))))
      (pss_one (ps_ret (peTup (pa_cons (pD D_times hr pass0 (pa_cons (peIxK (K := K) rfl (pq 1) pe_int) (pa_cons (peTup (pa_cons pe_int (pa_cons (pq 2) pa_nil))) pa_nil))) (pa_cons (pq 3) (pa_cons (pq 4) pa_nil)))))))))), ?_⟩
  walk_at "wh"
  exact counts_tableD_rd B q
-- @@split
/-! ### more of the closed words -/
theorem st_Constant {c j p} {es : List Expr} {env : Env} : starEach (.Constant c j p :: es) env = (false, eval (.Constant c j p) env) :: starEach es env := rfl
theorem st_UnaryOp {c j p} {es : List Expr} {env : Env} : starEach (.UnaryOp c j p :: es) env = (false, eval (.UnaryOp c j p) env) :: starEach es env := rfl
theorem st_Tuple {c j p} {es : List Expr} {env : Env} : starEach (.Tuple c j p :: es) env = (false, eval (.Tuple c j p) env) :: starEach es env := rfl
theorem st_List {c p} {es : List Expr} {env : Env} : starEach (.List c p :: es) env = (false, eval (.List c p) env) :: starEach es env := rfl
theorem peI_int {X : Cx} {i j pos} : PEI X (.Constant (.int i) j pos) (tC (.int i)) := by unfold PEI; exact pe_int
theorem peI_un {X : Cx} {op : UnaryOp} {r : V → Hp → VK → Prop} {a : Expr} {ta : TE} {pos : Pos} (ho : UnR X (unaryOp op) r) (ha : PEI X a ta) : PEI X (.UnaryOp op a pos) (tUn r ta) := by unfold PEI at *; exact pe_un ho ha
theorem peITup {X : Cx} {es : List Expr} {x1} {t : TA} {pos : Pos} (h : PAI X es t) : PEI X (.Tuple es x1 pos) (qTup t) := by unfold PEI PAI at *; exact peTup h
theorem psIfI {X : Cx} {c : Expr} {a b : List Stmt} {tc : TT} {t u : TS} {pos : Pos} (hc : PT X c tc) (ha : PSsI X a t) (hb : PSsI X b u) : PS X (.If c a b pos) (qIfS tc t u) := by unfold PSsI at ha hb; exact psIf hc ha hb
theorem psI_ret {X : Cx} {e : Expr} {te : TE} {pos : Pos} (he : PEI X e te) : PSI X (.Return (some e) pos) (tRet te) := by unfold PEI at he; unfold PSI; exact ps_ret he
theorem psI_asg {X : Cx} {tg e : Expr} {te : TE} {g : TG} {pos : Pos} (he : PEI X e te) (hg : PG X tg g) (hs : swapsWithSole [tg] e pos.line X.env = pure false := by rfl) (hw : swappedStores [tg] e X.env = pure none := by rfl) (h1 : (assignEach [tg] X.env).map (·.2) = [assign tg X.env] := by rfl) : PSI X (.Assign [tg] e pos) (tAsg te g) := by unfold PEI at he; unfold PSI; exact ps_asg he hg hs hw h1
theorem peI_ixK {X : Cx} {K : PySem.W.Frag} {a b : Expr} {ta tb : TE} {pos : Pos} (hK : X.K = K) (ha : PEI X a ta) (hb : PEI X b tb) (hs : PlainIx b := by exact fun _ _ => rfl) : PEI X (.Subscript a b pos) (tOp (rIxM K) ta tb) := by unfold PEI at *; exact peIxK hK ha hb hs
theorem peI_op {X : Cx} {op : Operator} {r : R2} {a b : Expr} {ta tb : TE} {pos : Pos} (ho : OpR X (binaryOp op) r) (ha : PEI X a ta) (hb : PEI X b tb) : PEI X (.BinOp a op b pos) (tOp r ta tb) := by unfold PEI at *; exact pe_op ho ha hb
/-! ### fields bent: they stay things that begin with a word -/
theorem okD.int (i : Int) (n : Nat) : okD n (.int i) := ⟨rfl, rfl, Nat.zero_le _⟩
theorem shl_take {H : Hp} {xs : List V} {ds : List PyData} (l : ShL H xs ds) (k : Nat) : ShL H (xs.take k) (ds.take k) := ShL.idx (by rw [List.length_take, List.length_take, l.len]) fun i x d h1 h2 => by
  rw [List.getElem?_take] at h1 h2
  split at h1
  · rename_i hk
    rw [if_pos hk] at h2
    obtain ⟨d', e', hd'⟩ := l.get i x h1
    rw [h2] at e'
    cases e'
    exact hd'
  · cases h1
theorem shl_drop {H : Hp} {xs : List V} {ds : List PyData} (l : ShL H xs ds) (k : Nat) : ShL H (xs.drop k) (ds.drop k) := ShL.idx (by rw [List.length_drop, List.length_drop, l.len]) fun i x d h1 h2 => by
  rw [List.getElem?_drop] at h1 h2
  obtain ⟨d', e', hd'⟩ := l.get _ x h1
  rw [h2] at e'
  cases e'
  exact hd'
def Bd (B : Nat) (ds : List PyData) : Prop := ∀ es, PyData.list es ∈ ds → es.length ≤ B ∧ ∀ fs, PyData.list fs ∈ es → fs.length ≤ B
def FR (H : Hp) (v : V) (k B : Nat) : Prop := ∃ (w : Str) (ds : List PyData), ShV H v (.tuple (.str w :: ds)) ∧ okD 5 (.tuple (.str w :: ds)) ∧ k ≤ ds.length ∧ ds.length ≤ B ∧ Bd B ds
theorem FR.same {H H' : Hp} {v : V} {k B : Nat} (h : FR H v k B) (s : Same H H') : FR H' v k B := by obtain ⟨w, ds, h1, h2⟩ := h; exact ⟨w, ds, h1.same s, h2⟩
theorem FR.up {H : Hp} {v : V} {k B k' B' : Nat} (h : FR H v k B) (l : k' ≤ k) (m : B ≤ B') : FR H v k' B' := by
  obtain ⟨w, ds, h1, h2, h3, h5, h4⟩ := h
  exact ⟨w, ds, h1, h2, by walk_at "om", by walk_at "om", fun es he => ⟨Nat.le_trans (h4 es he).1 m, fun fs hf => Nat.le_trans ((h4 es he).2 fs hf) m⟩⟩
theorem FR.mk {H : Hp} {p : Addr} {w : Str} {xs : List V} {ds : List PyData} {B : Nat} (e : H p = some (.tup (.str w :: xs))) (l : ShL H xs ds) (hw : PyData.strOk w = true) (ho : ∀ d ∈ ds, okD 4 d) (hl : ds.length ≤ B) (hB : Bd B ds) (h9 : B ≤ 900) : FR H (.ref p) ds.length B :=
  ⟨w, ds, .tup e (.cons (.str w) l), okD.tuple (n := 4) (by rw [List.length_cons]; omega) (fun d hd => by
    rcases List.mem_cons.mp hd with rfl | hd
    · exact ⟨rfl, hw, Nat.zero_le _⟩
    · exact ho d hd), Nat.le_refl _, hl, hB⟩
theorem FR.tab {H : Hp} {p q : Addr} {xs : List V} {es : List PyData} {B : Nat} (e : H p = some (.tup [.str "table", .ref q])) (eq : H q = some (.lst xs)) (l : ShL H xs es) (ho : ∀ d ∈ es, okD 3 d) (hl : es.length ≤ B) (hr : ∀ fs, PyData.list fs ∈ es → fs.length ≤ B) (hB : B ≤ 900) (h1 : 1 ≤ B) : FR H (.ref p) 1 B :=
  FR.mk (ds := [.list es]) e (.cons (.lst eq l) .nil) (by decide +kernel) (fun d hd => by rw [List.mem_singleton.mp hd]; exact okD.list (n := 3) (by walk_at "om") ho) h1 (fun fs hf => by
    cases List.mem_singleton.mp hf
    exact ⟨hl, hr⟩) hB
-- @@split
/-! ### fields and battles -/
inductive Fd where
  | more (w t : Int)
  | lead (w l : Int)
  | tab (g : Nat → Nat → Int)
def Fd.Ok : Fd → Prop
  | .more w t => 1 ≤ w ∧ -w ≤ t ∧ t ≤ w
  | .lead w _ => 1 ≤ w
  | .tab _ => True
def FdAt (H : Hp) (p : Addr) (a c : Nat) : Fd → Prop
  | .more w t => H p = some (.tup [.str "more", .int w, .int t])
  | .lead w l => H p = some (.tup [.str "lead", .int w, .int l])
  | .tab g => ∃ q ps, H p = some (.tup [.str "table", .ref q]) ∧ GridAt H q ps (a + 1) (c + 1) g
theorem FdAt.same {H H' : Hp} {p : Addr} {a c : Nat} {f : Fd} (F : FdAt H p a c f) (s : Same H H') : FdAt H' p a c f := by
  cases f with
  | more w t => exact s _ _ F
  | lead w l => exact s _ _ F
  | tab g =>
    obtain ⟨q, ps, h1, h2⟩ := F
    exact ⟨q, ps, s _ _ h1, h2.same s⟩
theorem FdAt.some {H : Hp} {p : Addr} {a c : Nat} {f : Fd} (F : FdAt H p a c f) : ∃ xs, H p = some (.tup xs) := by
  cases f with
  | more w t => exact ⟨_, F⟩
  | lead w l => exact ⟨_, F⟩
  | tab g =>
    obtain ⟨q, ps, h1, h2⟩ := F
    exact ⟨_, h1⟩
structure BatAt (H : Hp) (b l : Addr) (ps : List Addr) (a c : Nat) (fs : List Fd) : Prop where
  out : H b = some (.tup [.int a, .int c, .ref l])
  lst : H l = some (.lst (ps.map V.ref))
  len : ps.length = fs.length
  fld : ∀ (i : Nat) p f, ps[i]? = some p → fs[i]? = some f → FdAt H p a c f ∧ f.Ok
theorem BatAt.same {H H' : Hp} {b l : Addr} {ps : List Addr} {a c : Nat} {fs : List Fd} (B : BatAt H b l ps a c fs) (s : Same H H') : BatAt H' b l ps a c fs := ⟨s _ _ B.out, s _ _ B.lst, B.len, fun i p f h1 h2 => ⟨(B.fld i p f h1 h2).1.same s, (B.fld i p f h1 h2).2⟩⟩
/-! ### fields as data -/
def fdDat (n m : Nat) : Fd → PyData
  | .more w t => .tuple [.str "more", .int w, .int t]
  | .lead w t => .tuple [.str "lead", .int w, .int t]
  | .tab g => .tuple [.str "table", .list ((List.range (n + 1)).map fun x => .list ((List.range (m + 1)).map fun y => .int (g x y)))]
theorem rowV_sh {H : Hp} {p : Addr} {k : Nat} {r : Nat → Int} (h : H p = some (.lst (rowV k r))) : ShV H (.ref p) (.list ((List.range k).map fun y => .int (r y))) := by
  unfold rowV at h
  refine .lst h (ShL.idx (by rw [List.length_map, List.length_map]) fun i x d g1 g2 => ?_)
  rw [List.getElem?_map] at g1 g2
  obtain ⟨t, et, rfl⟩ := Option.map_eq_some_iff.mp g1
  rw [et] at g2
  cases g2
  exact .int _
theorem grid_sh {H : Hp} {q : Addr} {ps : List Addr} {n m : Nat} {g : Nat → Nat → Int} (G : GridAt H q ps n m g) : ShV H (.ref q) (.list ((List.range n).map fun x => .list ((List.range m).map fun y => .int (g x y)))) := by
  refine .lst G.out (ShL.idx (by rw [List.length_map, List.length_map, List.length_range, G.len]) fun i x d e1 e2 => ?_)
  rw [List.getElem?_map] at e1 e2
  obtain ⟨r, er, rfl⟩ := Option.map_eq_some_iff.mp e1
  obtain ⟨j, ej, rfl⟩ := Option.map_eq_some_iff.mp e2
  obtain ⟨hj1, hj2⟩ := List.getElem?_eq_some_iff.mp ej
  rw [List.getElem_range] at hj2
  subst hj2
  exact rowV_sh (G.row i r er)
theorem FdAt.dat {H : Hp} {p : Addr} {n m : Nat} {f : Fd} (F : FdAt H p n m f) : ShV H (.ref p) (fdDat n m f) := by
  cases f with
  | more w t => exact .tup F (.cons (.str _) (.cons (.int _) (.cons (.int _) .nil)))
  | lead w t => exact .tup F (.cons (.str _) (.cons (.int _) (.cons (.int _) .nil)))
  | tab g =>
    obtain ⟨q, ps, h1, G⟩ := F
    exact .tup h1 (.cons (.str _) (.cons (grid_sh G) .nil))
theorem fdDat_S (n m : Nat) (f : Fd) : FldS (fdDat n m f) := by
  cases f with
  | more w t => exact ⟨_, _, rfl⟩
  | lead w t => exact ⟨_, _, rfl⟩
  | tab g => exact ⟨_, _, rfl⟩
theorem fdDat_ok {n m : Nat} (hn : n ≤ 100) (hm : m ≤ 100) (f : Fd) : okD 5 (fdDat n m f) := by
  have two : ∀ (w : Str) (i j : Int), PyData.strOk w = true → okD 5 (.tuple [.str w, .int i, .int j]) := fun w i j hw => okD.tuple (n := 4) (by simp) fun d hd => by
    simp only [List.mem_cons, List.not_mem_nil, or_false] at hd
    rcases hd with rfl | rfl | rfl
    · exact ⟨rfl, hw, Nat.zero_le _⟩
    · exact okD.int _ _
    · exact okD.int _ _
  cases f with
  | more w t => exact two _ _ _ (by decide +kernel)
  | lead w t => exact two _ _ _ (by decide +kernel)
  | tab g =>
    refine okD.tuple (n := 4) (by simp) fun d hd => ?_
    simp only [List.mem_cons, List.not_mem_nil, or_false] at hd
    rcases hd with rfl | rfl
    · exact ⟨rfl, by decide +kernel, Nat.zero_le _⟩
    · refine okD.list (n := 3) (by rw [List.length_map, List.length_range]; omega) fun d hd => ?_
      obtain ⟨x, _, rfl⟩ := List.mem_map.mp hd
      refine okD.list (n := 2) (by rw [List.length_map, List.length_range]; omega) fun d hd => ?_
      obtain ⟨y, _, rfl⟩ := List.mem_map.mp hd
      exact okD.int _ _
theorem fdDat_is {n m : Nat} {f : Fd} (h : f.Ok) : fieldD n m (fdDat n m f) = true := by
  cases f with
  | more w t =>
    obtain ⟨h1, h2, h3⟩ := h
    show ((decide (("more" : Str) = "more") && (decide ((1 : Int) ≤ w) && decide (-w ≤ t ∧ t ≤ w))) || (decide (("more" : Str) = "lead") && (decide ((1 : Int) ≤ w) && true))) = true
    rw [decide_eq_true h1, decide_eq_true (show -w ≤ t ∧ t ≤ w from ⟨h2, h3⟩)]; rfl
  | lead w t =>
    have h : (1 : Int) ≤ w := h
    show ((decide (("lead" : Str) = "more") && (decide ((1 : Int) ≤ w) && decide (-w ≤ t ∧ t ≤ w))) || (decide (("lead" : Str) = "lead") && (decide ((1 : Int) ≤ w) && true))) = true
    rw [decide_eq_true h, decide_eq_true (show ("lead" : Str) = "lead" from rfl)]
    simp
  | tab g =>
    show (decide (("table" : Str) = "table") && tabD ((n : Int) + 1) ((m : Int) + 1) (.list ((List.range (n + 1)).map fun x => .list ((List.range (m + 1)).map fun y => .int (g x y))))) = true
    rw [decide_eq_true rfl, Bool.true_and]
    show (decide ((((List.range (n + 1)).map fun x => PyData.list ((List.range (m + 1)).map fun y => .int (g x y))).length : Int) = (n : Int) + 1) && ((List.range (n + 1)).map fun x => PyData.list ((List.range (m + 1)).map fun y => .int (g x y))).all (tabRowD ((m : Int) + 1))) = true
    rw [Bool.and_eq_true]
    refine ⟨decide_eq_true (by rw [List.length_map, List.length_range]; omega), List.all_eq_true.mpr fun d hd => ?_⟩
    obtain ⟨x, _, rfl⟩ := List.mem_map.mp hd
    show (decide ((((List.range (m + 1)).map fun y => PyData.int (g x y)).length : Int) = (m : Int) + 1) && ((List.range (m + 1)).map fun y => PyData.int (g x y)).all isW) = true
    rw [Bool.and_eq_true]
    refine ⟨decide_eq_true (by rw [List.length_map, List.length_range]; omega), List.all_eq_true.mpr fun d hd => ?_⟩
    obtain ⟨y, _, rfl⟩ := List.mem_map.mp hd
    rfl
/-! == of fields: only what is the same -/
theorem eqvAll_ints {g h : Nat → Int} : ∀ {ks : List Nat}, PyData.eqvAll (ks.map fun y => .int (g y)) (ks.map fun y => .int (h y)) = true → ∀ y ∈ ks, g y = h y
  | [], _, y, hy => by cases hy
  | k :: ks, e, y, hy => by
    have e : ((g k == h k) && PyData.eqvAll (ks.map fun y => PyData.int (g y)) (ks.map fun y => .int (h y))) = true := e
    rw [Bool.and_eq_true] at e
    rcases List.mem_cons.mp hy with rfl | hy
    · simpa using e.1
    · exact eqvAll_ints e.2 y hy
theorem eqvAll_rows {g h : Nat → Nat → Int} {ls : List Nat} : ∀ {ks : List Nat}, PyData.eqvAll (ks.map fun x => .list (ls.map fun y => .int (g x y))) (ks.map fun x => .list (ls.map fun y => .int (h x y))) = true → ∀ x ∈ ks, ∀ y ∈ ls, g x y = h x y
  | [], _, x, hx, _, _ => by cases hx
  | k :: ks, e, x, hx, y, hy => by
    have e : (PyData.eqvAll (ls.map fun y => .int (g k y)) (ls.map fun y => .int (h k y)) && PyData.eqvAll (ks.map fun x => PyData.list (ls.map fun y => .int (g x y))) (ks.map fun x => .list (ls.map fun y => .int (h x y)))) = true := e
    rw [Bool.and_eq_true] at e
    rcases List.mem_cons.mp hx with rfl | hx
    · exact eqvAll_ints e.1 y hy
    · exact eqvAll_rows e.2 x hx y hy
-- @@split
/-! ### draws out of a purse: the list of cells, and the turn -/
def PurseAt (H : Hp) (p c : Addr) (b : Int) : Prop := ∃ (t : Int) (ns : List Int), c ≠ p ∧ H p = some (.lst [.ref c, .int t]) ∧ H c = some (.lst (ns.map V.int)) ∧ 0 < ns.length ∧ ns.length ≤ 63 ∧ 0 ≤ t ∧ t ≤ b
theorem PurseAt.same {H H' : Hp} {p c : Addr} {b : Int} (h : PurseAt H p c b) (s : Same H H') : PurseAt H' p c b := by
  obtain ⟨t, ns, n, e1, e2, r⟩ := h
  exact ⟨t, ns, n, s _ _ e1, s _ _ e2, r⟩
theorem PurseAt.up {H : Hp} {p c : Addr} {b d : Int} (h : PurseAt H p c b) (l : b ≤ d) : PurseAt H p c d := by
  obtain ⟨t, ns, n, e1, e2, e3, e4, e5, e6⟩ := h
  exact ⟨t, ns, n, e1, e2, e3, e4, e5, by walk_at "om"⟩
theorem PurseAt.neP {H : Hp} {p c q : Addr} {b : Int} (h : PurseAt H p c b) (f : H q = none) : q ≠ p := by
  obtain ⟨t, ns, n, e1, e2, r⟩ := h
  exact Ne.symm (ne_of_none e1 f)
theorem PurseAt.neC {H : Hp} {p c q : Addr} {b : Int} (h : PurseAt H p c b) (f : H q = none) : q ≠ c := by
  obtain ⟨t, ns, n, e1, e2, r⟩ := h
  exact Ne.symm (ne_of_none e2 f)
local macro_rules | `(tactic| walk_at "pu") => `(tactic| first | assumption | (refine PurseAt.same (H := ?H) ?l ?s; (case s => assumption); (case l => walk_at "pu")) | fail "pu")
local macro_rules | `(tactic| walk_at "ne") => `(tactic| first | assumption | (apply Ne.symm; assumption) | (refine PurseAt.neP (H := ?H) (c := ?c) (b := ?b) ?l ?f; (case f => assumption); (case l => walk_at "pu")) | (refine PurseAt.neC (H := ?H) (p := ?p) (b := ?b) ?l ?f; (case f => assumption); (case l => walk_at "pu")) | fail "ne")
local macro_rules | `(tactic| walk_at "hp") => `(tactic| first | assumption | (refine Same.at (H := ?H) ?s ?e; (case s => assumption); (case e => walk_at "hp")) | (refine Chg.at (a := ?a) (H := ?H) ?c ?e ?n; (case c => assumption); (case n => walk_at "ne"); (case e => walk_at "hp")) | (refine Chg2.at (a := ?a) (c := ?c) (H := ?H) ?x ?e ?n1 ?n2; (case x => assumption); (case n1 => walk_at "ne"); (case n2 => walk_at "ne"); (case e => walk_at "hp")) | fail "hp")
@[irreducible] def sp__law_purse (K : PySem.W.Frag) : Sp := fun vs H Q _ => ∃ (a : Addr) (ns : List Int), vs = [.ref a] ∧ SqL K H a (ns.map V.int) ∧ ns.length ≤ 63 ∧ ∀ p c H', H p = none → H c = none → Same H H' → PurseAt H' p c 0 → Q (.ref p) H'
theorem purse_rd {H : Hp} {a : Addr} {ns : List Int} {Q : VK} {E : XK} {K : PySem.W.Frag} (h1 : SqL K H a (ns.map V.int)) (h2 : ns.length ≤ 63) (q : ∀ p c H', H p = none → H c = none → Same H H' → PurseAt H' p c 0 → Q (.ref p) H') : sp__law_purse K [.ref a] H Q E := by
  unfold sp__law_purse; exact ⟨a, ns, rfl, h1, h2, q⟩
theorem cut_ints {ns : List Int} {lo hi : Option Int} : ∃ ms : List Int, cutV (ns.map V.int) lo hi = ms.map V.int ∧ ms.length ≤ ns.length := by
  refine ⟨(ns.drop (HT.sIx ns.length 0 lo)).take (HT.sIx ns.length ns.length hi - HT.sIx ns.length 0 lo), ?_, ?_⟩
  · unfold cutV
    rw [List.length_map, List.map_take, List.map_drop]
  · rw [List.length_take, List.length_drop]; omega
theorem ok__law_purse {f : Addr} {fd : FuncData} (F : Fun K "_law_purse" "_law_purse" s__law_purse f fd) (N : Nm mg) : FnOk P w K mg base CX0 1 f fd ["_law_script"] (sp__law_purse K) := by
  refine F.ok sc__law_purse (fun vs H Q E h => by unfold sp__law_purse at h; obtain ⟨n, k, rfl, _⟩ := h; rfl) (fun cdv A outer s H vs Q E hr h => ?_)
  unfold sp__law_purse at h
  obtain ⟨a, ns, rfl, hS, hl, q⟩ := h
  have hu := hu40 hr
  refine ⟨_, (pss_cons (psS (i := 1) sc__law_purse.nd (pe_slice (slXK (K := K) rfl) (pq 0) po_none (poSome pe_int)))
      (pss_cons (psCut (psIf (ptC (oEqXK (K := K) rfl (by exact hu)) (pq 1) (peLst pa_nil)) (pss_one (psS (i := 1) sc__law_purse.nd (peLst (pa_cons pe_int pa_nil)))) pss_nil))
      (pss_one (ps_ret (peLst (pa_cons (pq 1) (pa_cons pe_int pa_nil))))))), ?_⟩
  refine slL_rd hS (fun p1 H1 hf1 hs1 ha1 => ?_)
  obtain ⟨ms, em, lm⟩ := cut_ints (ns := ns) (lo := none) (hi := some 63)
  rw [em] at ha1
  refine cut_rd (fun σ H4 => ∃ (c : Addr) (ks : List Int), σ = [some (.ref a), some (.ref c)] ∧ H c = none ∧ Same H H4 ∧ H4 c = some (.lst (ks.map V.int)) ∧ 0 < ks.length ∧ ks.length ≤ 63) ?_ ?_
  · walk_at "wh"
    refine newL_rd (fun p2 H2 hf2 hs2 ha2 => ?_)
    refine eqX_rd (n := 1) (EqR.nilR (hs2 _ _ ha1) ha2) ?_
    refine br_dec (fun h => ?_) (fun h => ?_)
    · walk_at "wh"
      refine newL_rd (fun p3 H3 hf3 hs3 ha3 => ?_)
      exact ⟨p3, [0], rfl, (hs1.trans hs2).free hf3, (hs1.trans hs2).trans hs3, ha3, by decide, by decide⟩
    · walk_at "wh"
      rw [List.length_map] at h
      exact ⟨p1, ms, rfl, hf1, hs1.trans hs2, hs2 _ _ ha1, by walk_at "om", by walk_at "om"⟩
  · rintro σ H4 ⟨c, ks, rfl, hc, hs4, h4, k1, k2⟩
    refine newL_rd (fun p5 H5 hf5 hs5 ha5 => ?_)
    walk_at "wh"
    exact q p5 c H5 (hs4.free hf5) hc (hs4.trans hs5) ⟨0, ks, ne_of_none h4 hf5, ha5, hs5 _ _ h4, k1, k2, by decide, by decide⟩
@[irreducible] def sp__law_draw : Sp := fun vs H Q _ => ∃ (p c : Addr) (m b : Int), vs = [.ref p, .int m] ∧ PurseAt H p c b ∧ b ≤ 1000000 ∧ 0 < m ∧ m < 10 ^ 60 ∧ ∀ (d : Int) H', 0 ≤ d → d < m → Chg2 p c H H' → PurseAt H' p c (b + 1) → Q (.int d) H'
theorem draw_rd {H : Hp} {p c : Addr} {m b : Int} {Q : VK} {E : XK} (hL : PurseAt H p c b) (hb : b ≤ 1000000) (h0 : 0 < m) (h1 : m < 10 ^ 60) (q : ∀ (d : Int) H', 0 ≤ d → d < m → Chg2 p c H H' → PurseAt H' p c (b + 1) → Q (.int d) H') : sp__law_draw [.ref p, .int m] H Q E := by
  unfold sp__law_draw; exact ⟨p, c, m, b, rfl, hL, hb, h0, h1, q⟩
theorem map_set {ns : List Int} {j : Nat} {v : Int} : (ns.map V.int).set j (V.int v) = (ns.set j v).map V.int := by rw [List.map_set]
theorem ok__law_draw {f : Addr} {fd : FuncData} (F : Fun K "_law_draw" "_law_draw" s__law_draw f fd) (N : Nm mg) : FnOk P w K mg base CX0 1 f fd ["_law_purse_here", "_law_out_of"] sp__law_draw := by
  refine F.ok sc__law_draw (fun vs H Q E h => by unfold sp__law_draw at h; obtain ⟨p, c, m, b, rfl, _⟩ := h; rfl) (fun cdv A outer s H vs Q E hr h => ?_)
  unfold sp__law_draw at h
  obtain ⟨p, c, m, b, rfl, ⟨t, ns, hne, hp, hcl, l0, l1, t0, t1⟩, hb, hm0, hm1, q⟩ := h
  refine ⟨_, (pss_cons (ps_asg (pq 0) (pgAnyK (K := K) (n := 2) rfl rfl (pgsCons (pg_name (i := 2) sc__law_draw.nd rfl (by first | exact Or.inl rfl | exact Or.inr rfl)) (pgsCons (pg_name (i := 3) sc__law_draw.nd rfl (by first | exact Or.inl rfl | exact Or.inr rfl)) pgsNil))))
      (pss_cons (psS (i := 4) sc__law_draw.nd (pe_op oMod (pq 3) (pB (cLenK (K := K) rfl) N.len_ bt_len (pa_cons (pq 2) pa_nil))))
      (pss_cons (psS (i := 5) sc__law_draw.nd (peIxK (K := K) rfl (pq 2) (pq 4)))
      (pss_cons (ps_asg (pe_op oAdd (pq 3) pe_int) (pg_sub (pq 0) pe_int setM))
      (pss_cons (psIf (ptC oGe (pq 5) (pe_op oPow pe_int pe_int)) (pss_cons (ps_asg (pe_op oDiv (pq 5) (pq 1)) (pg_sub (pq 2) (pq 4) setM))
      (pss_one (ps_ret (pe_op oMod (pq 5) (pq 1))))) pss_nil)
      (pss_cons (psS (i := 6) sc__law_draw.nd (pe_op oMod (pe_op oAdd (pe_op oAdd (pe_op oMul (pe_op oMod (pq 5) pe_int) pe_int) (pe_op oMul (pe_op oMul (pq 3) (pq 3)) pe_int)) pe_int) pe_int))
      (pss_cons (psS (i := 6) sc__law_draw.nd (pe_op oMod (pe_op oMul (pq 6) (pq 6)) pe_int))
      (pss_cons (psS (i := 6) sc__law_draw.nd (pe_op oMod (pe_op oMul (pq 6) (pq 6)) pe_int))
      (pss_cons (psCut (psIf (ptC oGt (pq 1) (pe_op oPow pe_int pe_int)) (pss_cons (psS (i := 7) sc__law_draw.nd (pe_op oMod (pe_op oAdd (pe_op oAdd (pe_op oMul (pq 6) pe_int) (pe_op oMul (pq 3) pe_int)) pe_int) pe_int))
      (pss_one (psS (i := 6) sc__law_draw.nd (pe_op oMul (pq 6) (pe_op oAdd (pe_op oPow (pq 7) pe_int) pe_int))))) pss_nil))
      (pss_one (ps_ret (pe_op oMod (pq 6) (pq 1))))))))))))), ?_⟩
  refine unpL_rd hp ?_
  walk_at "st"
  rw [List.length_map]
  refine mod_rd (by walk_at "om") ?_
  have r0 := Int.emod_nonneg t (show (ns.length : Int) ≠ 0 by walk_at "om")
  have r1 := Int.emod_lt_of_pos t (show 0 < (ns.length : Int) by walk_at "om")
  generalize t % (ns.length : Int) = r at r0 r1
  have hr' : r.toNat < ns.length := by walk_at "om"
  have er : ((r.toNat : Nat) : Int) = r := by walk_at "om"
  refine ixL_rd (v := .int ns[r.toNat]) hcl ?_ ?_
  · have := atI_nat (xs := ns.map V.int) (j := r.toNat) (v := .int ns[r.toNat]) (by simp [hr'])
    rw [er] at this
    exact this
  generalize ns[r.toNat] = cell
  refine set_rd hp (by rfl) (fun H1 hc1 h1 => ?_)
  have hcl1 : H1 c = some (.lst (ns.map V.int)) := hc1 _ _ hne hcl
  walk_at "st"
  refine br_dec (fun h => ?_) (fun h => ?_)
  · walk_at "st"
    refine set_rd (j := r.toNat) hcl1 ?_ (fun H2 hc2 h2 => ?_)
    · unfold ixN
      rw [if_pos (by walk_at "om"), if_pos (by rw [List.length_map]; omega)]
    rw [map_set] at h2
    walk_at "st"
    walk_at "wh"
    exact q _ _ (by assumption) (by assumption) (hc1.toL.trans hc2.toR) ⟨t + 1, _, hne, hc2 _ _ (Ne.symm hne) h1, h2, by rw [List.length_set]; exact l0, by rw [List.length_set]; exact l1, by walk_at "om", by walk_at "om"⟩
  · repeat walk_at "st"
    walk_at "wh"
    rename_i z z0 z1
    refine cut_rd (fun σ H2 => ∃ (nn : Int) (x : Option V), σ = [some (.ref p), some (.int m), some (.ref c), some (.int t), some (.int r), some (.int cell), some (.int nn), x] ∧ H2 = H1) ?_ ?_
    · walk_at "st"
      refine br_dec (fun h => ?_) (fun h => ?_)
      · walk_at "st"
        walk_at "st"
        walk_at "st"
        walk_at "wh"
        rename_i y y0 y1
        refine pow_rd ⟨by decide, by decide, by walk_at "om"⟩ ?_
        refine mulL_rd (by walk_at "om") (by walk_at "om") ?_
        walk_at "wh"
        exact ⟨_, _, rfl, rfl⟩
      · walk_at "wh"
        exact ⟨_, _, rfl, rfl⟩
    · rintro σ H2 ⟨nn, x, rfl, rfl⟩
      walk_at "st"
      walk_at "wh"
      exact q _ _ (by assumption) (by assumption) hc1.toL ⟨t + 1, _, hne, h1, hcl1, l0, l1, by walk_at "om", by walk_at "om"⟩
-- @@split
/-! ### a heap without two things -/
def rr (p c : Addr) (H : Hp) : Hp := rm p (rm c H)
theorem rr_at {p c b : Addr} {H : Hp} {o : HO} (n1 : b ≠ p) (n2 : b ≠ c) (h : H b = some o) : rr p c H b = some o := rm_at n1 (rm_at n2 h)
theorem rr_of {p c b : Addr} {H : Hp} {o : HO} (h : rr p c H b = some o) : b ≠ p ∧ b ≠ c ∧ H b = some o := ⟨(rm_of h).1, (rm_of (rm_of h).2).1, (rm_of (rm_of h).2).2⟩
theorem rr_same (p c : Addr) (H : Hp) : Same (rr p c H) H := fun b o h => (rr_of h).2.2
theorem Same.rr {p c : Addr} {H H' : Hp} (s : Same H H') : Same (rr p c H) (G.rr p c H') := fun b o h => rr_at (rr_of h).1 (rr_of h).2.1 (s _ _ (rr_of h).2.2)
theorem Chg2.rr {p c : Addr} {H H' : Hp} (s : Chg2 p c H H') : Same (rr p c H) (G.rr p c H') := fun b o h => rr_at (rr_of h).1 (rr_of h).2.1 (s _ _ (rr_of h).1 (rr_of h).2.1 (rr_of h).2.2)
/-- numbers that can be written -/
def Fd.Sm : Fd → Nat → Nat → Prop
  | .more w t, _, _ => (-(10 ^ 40) ≤ w ∧ w ≤ 10 ^ 40) ∧ -(10 ^ 40) ≤ t ∧ t ≤ 10 ^ 40
  | .lead w t, _, _ => (-(10 ^ 40) ≤ w ∧ w ≤ 10 ^ 40) ∧ -(10 ^ 40) ≤ t ∧ t ≤ 10 ^ 40
  | .tab g, n, m => ∀ x y, x ≤ n → y ≤ m → -(10 ^ 40) ≤ g x y ∧ g x y ≤ 10 ^ 40
theorem PurseAt.chg1 {H H' : Hp} {p c a : Addr} {b : Int} (h : PurseAt H p c b) (s : Chg a H H') (n1 : p ≠ a) (n2 : c ≠ a) : PurseAt H' p c b := by
  obtain ⟨t, ns, n, e1, e2, r⟩ := h
  exact ⟨t, ns, n, s _ _ n1 e1, s _ _ n2 e2, r⟩
theorem Chg2.free' {a c l : Addr} {H H' : Hp} (x : Chg2 a c H H') (h : H' l = none) (n1 : l ≠ a) (n2 : l ≠ c) : H l = none := by
  cases e : H l with
  | none => rfl
  | some o =>
    have := x l o n1 n2 e
    rw [h] at this
    cases this
theorem all_snoc {P : Int → Prop} {z : List Int} {d : Int} (h : ∀ u ∈ z, P u) (hd : P d) : ∀ u ∈ z ++ [d], P u := fun u hu => by
  rcases List.mem_append.mp hu with hu | hu
  · exact h u hu
  · have : u = d := by simpa using hu
    rw [this]; exact hd
theorem rowV_of {z : List Int} {n : Nat} (h : z.length = n) : z.map V.int = rowV n fun y => z.getD y 0 := by
  subst h
  apply List.ext_getElem?
  intro i
  by_cases hi : i < z.length
  · rw [rowV_get hi, List.getElem?_map, List.getElem?_eq_getElem hi, List.getD_eq_getElem?_getD, List.getElem?_eq_getElem hi]
    rfl
  · rw [List.getElem?_eq_none (by simp; omega), List.getElem?_eq_none (by rw [rowV_len]; omega)]
@[irreducible] def sp__law_field : Sp := fun vs H Q _ => ∃ (p c : Addr) (b : Int) (n m : Nat), vs = [.ref p, .int n, .int m] ∧ PurseAt H p c b ∧ b ≤ 100000 ∧ n ≤ 10 ∧ m ≤ 10 ∧ ∀ r f H', Chg2 p c H H' → PurseAt H' p c (b + 1000) → FdAt (nw H H') r n m f → f.Ok → f.Sm n m → Q (.ref r) H'
theorem law_field_rd {H : Hp} {p c : Addr} {b : Int} {n m : Nat} {Q : VK} {E : XK} (hP : PurseAt H p c b) (hb : b ≤ 100000) (h1 : n ≤ 10) (h2 : m ≤ 10) (q : ∀ r f H', Chg2 p c H H' → PurseAt H' p c (b + 1000) → FdAt (nw H H') r n m f → f.Ok → f.Sm n m → Q (.ref r) H') : sp__law_field [.ref p, .int n, .int m] H Q E := by unfold sp__law_field; exact ⟨p, c, b, n, m, rfl, hP, hb, h1, h2, q⟩
theorem ok__law_field {f : Addr} {fd : FuncData} (F : Fun K "_law_field" "_law_field" s__law_field f fd) (N : Nm mg) (D__law_draw : Def P w K mg base CX0 1 "_law_draw" ["_law_purse_here", "_law_out_of"] sp__law_draw) : FnOk P w K mg base CX0 2 f fd ["_law_purse_here", "_law_first", "_law_second"] sp__law_field := by
  refine F.ok sc__law_field (fun vs H Q E h => by unfold sp__law_field at h; obtain ⟨_, _, _, _, _, rfl, _⟩ := h; rfl) (fun cdv A outer s H vs Q E hr h => ?_)
  unfold sp__law_field at h
  obtain ⟨p, c, b, n, m, rfl, hP, hb, h1, h2, q⟩ := h
  have hu := hu40 hr
  refine ⟨_, (pss_cons (psS (i := 3) sc__law_field.nd (pD D__law_draw hr pass0 (pa_cons (pq 0) (pa_cons pe_int pa_nil))))
      (pss_cons (psS (i := 4) sc__law_field.nd (pe_op oAdd pe_int (pD D__law_draw hr pass0 (pa_cons (pq 0) (pa_cons (peIxK (K := K) rfl (peLst (pa_cons pe_int (pa_cons (pe_op oPow pe_int pe_int) pa_nil))) (pD D__law_draw hr pass0 (pa_cons (pq 0) (pa_cons pe_int pa_nil)))) pa_nil)))))
      (pss_cons (psIf (ptC (oEqXK (K := K) rfl (by exact hu)) (pq 3) pe_int) (pss_cons (psS (i := 5) sc__law_field.nd (peIxK (K := K) rfl (peLst (pa_cons pe_int (pa_cons (pq 4) (pa_cons (pe_op oSub pe_int (pq 4)) (pa_cons (pe_op oSub (pD D__law_draw hr pass0 (pa_cons (pq 0) (pa_cons (pe_op oAdd (pe_op oMul pe_int (pq 4)) pe_int) pa_nil))) (pq 4)) pa_nil))))) (pD D__law_draw hr pass0 (pa_cons (pq 0) (pa_cons pe_int pa_nil)))))
      (pss_one (ps_ret (peTup (pa_cons pe_str (pa_cons (pq 4) (pa_cons (pq 5) pa_nil))))))) pss_nil)
      (pss_cons (psIf (ptC (oEqXK (K := K) rfl (by exact hu)) (pq 3) pe_int) (pss_cons (psS (i := 6) sc__law_field.nd (pe_op oSub (pe_op oSub (pD D__law_draw hr pass0 (pa_cons (pq 0) (pa_cons (pe_op oAdd (pe_op oAdd (pq 1) (pq 2)) pe_int) pa_nil))) (pq 2)) pe_int))
      (pss_one (ps_ret (peTup (pa_cons pe_str (pa_cons (pq 4) (pa_cons (peIxK (K := K) rfl (peLst (pa_cons (pq 6) (pa_cons (pe_op oSub (pD D__law_draw hr pass0 (pa_cons (pq 0) (pa_cons (pe_op oMul pe_int (pe_op oPow pe_int pe_int)) pa_nil))) (pe_op oPow pe_int pe_int)) pa_nil))) (pe_op oDiv (pD D__law_draw hr pass0 (pa_cons (pq 0) (pa_cons pe_int pa_nil))) pe_int)) pa_nil))))))) pss_nil)
      (pss_cons (psS (i := 7) sc__law_field.nd (peLst pa_nil))
      (pss_cons (psS (i := 8) sc__law_field.nd (peIxK (K := K) rfl (peLst (pa_cons pe_int (pa_cons pe_int (pa_cons (pe_op oMul pe_int (pe_op oPow pe_int pe_int)) pa_nil)))) (pD D__law_draw hr pass0 (pa_cons (pq 0) (pa_cons pe_int pa_nil)))))
      (pss_cons (psFor PassesOwn.never rfl (piRng1 N.range_ (pa_cons (pe_op oAdd (pq 1) pe_int) pa_nil)) (pg_name (i := 9) sc__law_field.nd rfl (by first | exact Or.inl rfl | exact Or.inr rfl)) (pss_one (ps_expr (peM_append (pq 7) (pa_cons (peComp (N := ["_law_y", "_law_purse_here", "_law_top"]) (ks := [none, some 0, some 8]) (piRng1 N.range_ (pa_cons (pe_op oAdd (pq 2) pe_int) pa_nil)) (fun cl C s3 H3 fp => (pg_name (i := 0) nb_4 rfl (by first | exact Or.inl rfl | exact Or.inr rfl))) (fun cl C s3 H3 fp => pts_nil) (fun cl C s3 H3 fp => (pe_op oSub (pD D__law_draw hr pass0 (pa_cons (pq 1) (pa_cons (pq 2) pa_nil))) (pe_op oDiv (pq 2) pe_int))) (.skip (.take rfl rfl (by first | exact Or.inl rfl | exact Or.inr rfl) (.take rfl rfl (by first | exact Or.inl rfl | exact Or.inr rfl) .nil)))) pa_nil)))))
      (pss_one (ps_ret (peTup (pa_cons pe_str (pa_cons (pq 7) pa_nil)))))))))))), ?_⟩
  refine draw_rd hP (by walk_at "om") (by walk_at "om") (by walk_at "om") (fun kd H1 k0 k1 c1 P1 => ?_)
  walk_at "st"
  refine newL_rd (fun q1 H2 f2 s2 h2' => ?_)
  refine draw_rd (P1.same s2) (by walk_at "om") (by walk_at "om") (by walk_at "om") (fun d3 H3 d30 d31 c3 P3 => ?_)
  have h23 := c3 _ _ (P1.neP f2) (P1.neC f2) h2'
  refine ixAny_rd h23 (by walk_at "om") (by simp only [List.length_cons, List.length_nil]; omega) ?_
  intro v hv
  obtain ⟨tp, rfl, tp1, tp2⟩ : ∃ t : Int, v = .int t ∧ 1 ≤ t ∧ t ≤ 10 ^ 29 := by
    simp only [List.mem_cons, List.not_mem_nil, or_false] at hv
    rcases hv with rfl | rfl <;> exact ⟨_, rfl, by walk_at "om", by walk_at "om"⟩
  clear hv h23 h2'
  refine draw_rd P3 (by walk_at "om") (by walk_at "om") (by walk_at "om") (fun d4 H4 d40 d41 c4 P4 => ?_)
  have c04 : Chg2 p c H H4 := ((c1.same s2).trans c3).trans c4
  obtain ⟨wt, ewt, w0, w1⟩ : ∃ wt : Int, 1 + d4 = wt ∧ 1 ≤ wt ∧ wt ≤ 10 ^ 29 := ⟨_, rfl, by walk_at "om", by walk_at "om"⟩
  walk_at "wh"
  rw [ewt]
  refine br_dec (fun e0 => ?_) (fun e0 => ?_)
  · walk_at "st"
    refine draw_rd P4 (by walk_at "om") (by walk_at "om") (by walk_at "om") (fun d5 H5 d50 d51 c5 P5 => ?_)
    refine newL_rd (fun q6 H6 f6 s6 h6 => ?_)
    refine draw_rd (P5.same s6) (by walk_at "om") (by walk_at "om") (by walk_at "om") (fun d7 H7 d70 d71 c7 P7 => ?_)
    have h67 := c7 _ _ (P5.neP f6) (P5.neC f6) h6
    refine ixAny_rd h67 (by walk_at "om") (by simp only [List.length_cons, List.length_nil]; omega) ?_
    intro v hv
    obtain ⟨t, rfl, t1, t2⟩ : ∃ t : Int, v = .int t ∧ -wt ≤ t ∧ t ≤ wt := by
      simp only [List.mem_cons, List.not_mem_nil, or_false] at hv
      rcases hv with rfl | rfl | rfl | rfl <;> exact ⟨_, rfl, by walk_at "om", by walk_at "om"⟩
    clear hv
    refine newT_rd (fun q8 H8 f8 s8 h8 => ?_)
    walk_at "wh"
    have c07 : Chg2 p c H H7 := (((c04.trans c5).same s6).trans c7)
    exact q q8 (.more wt t) H8 (c07.same s8) ((P7.same s8).up (by walk_at "om")) (nw_at (Chg2.free' c07 f8 (P7.neP f8) (P7.neC f8)) h8) ⟨w0, t1, t2⟩ ⟨⟨by walk_at "om", by walk_at "om"⟩, by walk_at "om", by walk_at "om"⟩
  refine br_dec (fun e1 => ?_) (fun e1 => ?_)
  · walk_at "wh"
    refine draw_rd P4 (by walk_at "om") (by walk_at "om") (by walk_at "om") (fun d5 H5 d50 d51 c5 P5 => ?_)
    walk_at "st"
    walk_at "st"
    refine draw_rd P5 (by walk_at "om") (by walk_at "om") (by walk_at "om") (fun d6 H6 d60 d61 c6 P6 => ?_)
    walk_at "st"
    refine newL_rd (fun q7 H7 f7 s7 h7 => ?_)
    refine draw_rd (P6.same s7) (by walk_at "om") (by walk_at "om") (by walk_at "om") (fun d8 H8 d80 d81 c8 P8 => ?_)
    have h78 := c8 _ _ (P6.neP f7) (P6.neC f7) h7
    walk_at "st"
    refine ixAny_rd h78 (by walk_at "om") (by simp only [List.length_cons, List.length_nil]; omega) ?_
    intro v hv
    obtain ⟨t, rfl, tl1, tl2⟩ : ∃ t : Int, v = .int t ∧ -(10 ^ 40) ≤ t ∧ t ≤ 10 ^ 40 := by
      simp only [List.mem_cons, List.not_mem_nil, or_false] at hv
      rcases hv with rfl | rfl <;> exact ⟨_, rfl, by walk_at "om", by walk_at "om"⟩
    clear hv
    refine newT_rd (fun q9 H9 f9 s9 h9 => ?_)
    walk_at "wh"
    have c08 : Chg2 p c H H8 := ((((c04.trans c5).trans c6).same s7).trans c8)
    exact q q9 (.lead wt t) H9 (c08.same s9) ((P8.same s9).up (by walk_at "om")) (nw_at (Chg2.free' c08 f9 (P8.neP f9) (P8.neC f9)) h9) w0 ⟨⟨by walk_at "om", by walk_at "om"⟩, tl1, tl2⟩
  refine newL_rd (fun r H5 f5 s5 h5 => ?_)
  have nrp : r ≠ p := P4.neP f5
  have nrc : r ≠ c := P4.neC f5
  have fr : H r = none := Chg2.free' c04 f5 nrp nrc
  walk_at "st"
  walk_at "st"
  refine newL_rd (fun q6 H6 f6 s6 h6 => ?_)
  refine draw_rd ((P4.same s5).same s6) (by walk_at "om") (by walk_at "om") (by walk_at "om") (fun d7 H7 d70 d71 c7 P7 => ?_)
  have h67 := c7 _ _ ((P4.same s5).neP f6) ((P4.same s5).neC f6) h6
  have h57 : H7 r = some (.lst []) := c7 _ _ nrp nrc (s6 _ _ h5)
  refine ixAny_rd h67 (by walk_at "om") (by simp only [List.length_cons, List.length_nil]; omega) ?_
  intro v hv
  obtain ⟨top, rfl, top1, top2⟩ : ∃ t : Int, v = .int t ∧ 1 ≤ t ∧ t ≤ 2 * 10 ^ 29 := by
    simp only [List.mem_cons, List.not_mem_nil, or_false] at hv
    rcases hv with rfl | rfl | rfl <;> exact ⟨_, rfl, by walk_at "om", by walk_at "om"⟩
  clear hv h67 h6
  have c07 : Chg2 p c H H7 := ((c04.same s5).same s6).trans c7
  refine range_rd (by decide) (by decide) (by walk_at "om") (by walk_at "om") ?_
  rw [show ((n : Int) + 1 - 0).toNat = n + 1 by walk_at "om"]
  refine loop_range (fun i σ H8 => ∃ (x : Option V) (t1 t2 : Option V) (qs : List Addr) (zs : List (List Int)), σ = [some (.ref p), some (.int n), some (.int m), some (.int kd), some (.int wt), t1, t2, some (.ref r), some (.int top), x] ∧ Chg2 p c H H8 ∧ PurseAt H8 p c (b + 20 + 50 * i) ∧ H8 r = some (.lst (qs.map V.ref)) ∧ qs.length = i ∧ zs.length = i ∧ ∀ (k : Nat) q z, qs[k]? = some q → zs[k]? = some z → H q = none ∧ q ≠ r ∧ q ≠ p ∧ q ≠ c ∧ H8 q = some (.lst (z.map V.int)) ∧ z.length = m + 1 ∧ ∀ u ∈ z, -(10 ^ 40) ≤ u ∧ u ≤ 10 ^ 40) ?_ ?_ ?_
  · exact ⟨_, _, _, [], [], rfl, c07, P7.up (by walk_at "om"), h57, rfl, rfl, fun k q z e => by simp at e⟩
  · rintro i σ H8 hi ⟨x0, t1, t2, qs, zs, rfl, c8, P8, h8, ql, zl, pr⟩
    have hi : i < n + 1 := hi
    refine lst_is h8 ?_
    refine range_rd (by decide) (by decide) (by walk_at "om") (by walk_at "om") ?_
    rw [show ((m : Int) + 1 - 0).toNat = m + 1 by walk_at "om"]
    refine comp_rangeV (by rw [sizeLine_eq]; omega) (fun acc H9 f9 s9 h9 => ?_)
    have nap : acc ≠ p := P8.neP f9
    have nac : acc ≠ c := P8.neC f9
    have nra : r ≠ acc := ne_of_none h8 f9
    refine ⟨fun j ys σ Ha => ∃ (t : Option V) (z : List Int), σ = [t, some (.ref p), some (.int top)] ∧ ys = z.map V.int ∧ z.length = j ∧ (∀ u ∈ z, -(10 ^ 40) ≤ u ∧ u ≤ 10 ^ 40) ∧ PurseAt Ha p c (b + 20 + 50 * i + 4 * j) ∧ ∀ x o, x ≠ p → x ≠ c → x ≠ acc → H8 x = some o → Ha x = some o, ?_, ?_, ?_⟩
    · exact ⟨none, [], rfl, rfl, rfl, by simp, (P8.same s9).up (by walk_at "om"), fun x o _ _ _ e => s9 _ _ e⟩
    · rintro j m' ys σ Ha hj hm hl ha ⟨t, z, rfl, rfl, lz, zb, Pa, ka⟩
      have hj : j < m + 1 := hj
      refine br_T ?_
      refine draw_rd Pa (by walk_at "om") (by walk_at "om") (by walk_at "om") (fun d Hb d0 d1 cb Pb => ?_)
      walk_at "st"
      refine cputV_rd hj hm hl (cb _ _ nap nac ha) (fun Hc cc hc => ?_)
      exact ⟨_, z ++ [d - top / 2], rfl, by rw [List.map_append]; rfl, by rw [List.length_append, lz]; rfl, all_snoc zb ⟨by walk_at "om", by walk_at "om"⟩, (Pb.chg1 cc (Ne.symm nap) (Ne.symm nac)).up (by walk_at "om"), fun x o n1 n2 n3 e => cc _ _ n3 (cb _ _ n1 n2 (ka x o n1 n2 n3 e))⟩
    · rintro ys σ Ha ha ⟨t, z, rfl, rfl, lz, zb, Pa, ka⟩
      walk_at "wh"
      have h8r : Ha r = some (.lst (qs.map V.ref)) := ka _ _ nrp nrc nra h8
      refine app_rd h8r (by rw [List.length_map, sizeLine_eq]; omega) (fun Hb cb hb => ?_)
      walk_at "wh"
      have facc : H acc = none := Chg2.free' c8 f9 nap nac
      refine ⟨_, _, _, qs ++ [acc], zs ++ [z], rfl, fun x o z1 z2 e => cb _ _ (ne_of_none e fr) (ka _ _ z1 z2 (ne_of_none e facc) (c8 _ _ z1 z2 e)), (Pa.chg1 cb (Ne.symm nrp) (Ne.symm nrc)).up (by walk_at "om"), by rw [hb, List.map_append]; rfl, by rw [List.length_append, ql]; rfl, by rw [List.length_append, zl]; rfl, fun k q z' g1 g2 => ?_⟩
      by_cases hk : k < qs.length
      · rw [List.getElem?_append_left hk] at g1
        rw [List.getElem?_append_left (by walk_at "om")] at g2
        obtain ⟨y1, y2, y3, y4, y5, y6⟩ := pr k q z' g1 g2
        exact ⟨y1, y2, y3, y4, cb _ _ y2 (ka _ _ y3 y4 (ne_of_none y5 f9) y5), y6⟩
      · rw [List.getElem?_append_right (by walk_at "om")] at g1 g2
        have k0 : k - qs.length = 0 := by
          have := (List.getElem?_eq_some_iff.mp g1).1
          simp at this; omega
        rw [k0] at g1
        rw [show k - zs.length = 0 by walk_at "om"] at g2
        cases g1
        cases g2
        exact ⟨facc, Ne.symm nra, nap, nac, cb _ _ (Ne.symm nra) ha, lz, zb⟩
  · rintro σ H8 ⟨x0, t1, t2, qs, zs, rfl, c8, P8, h8, ql, zl, pr⟩
    refine newT_rd (fun p9 H9 f9 s9 h9 => ?_)
    walk_at "wh"
    refine q p9 (.tab fun x y => (zs.getD x []).getD y 0) H9 (c8.same s9) ((P8.same s9).up (by walk_at "om")) ⟨r, qs, nw_at (Chg2.free' c8 f9 (P8.neP f9) (P8.neC f9)) h9, nw_at fr (s9 _ _ h8), ql, fun i p' e => ?_⟩ trivial (fun x y hx hy => ?_)
    case refine_2 =>
      obtain ⟨z, ez⟩ : ∃ z, zs[x]? = some z := ⟨_, List.getElem?_eq_getElem (by walk_at "om")⟩
      obtain ⟨q', eq'⟩ : ∃ z, qs[x]? = some z := ⟨_, List.getElem?_eq_getElem (by walk_at "om")⟩
      obtain ⟨y1, y2, y3, y4, y5, y6, y7⟩ := pr x q' z eq' ez
      show -(10 ^ 40) ≤ (zs.getD x []).getD y 0 ∧ (zs.getD x []).getD y 0 ≤ 10 ^ 40
      have eg : zs.getD x [] = z := by rw [List.getD_eq_getElem?_getD, ez]; rfl
      rw [eg, List.getD_eq_getElem?_getD, List.getElem?_eq_getElem (by walk_at "om")]
      exact y7 _ (List.getElem_mem _)
    obtain ⟨z, ez⟩ : ∃ z, zs[i]? = some z := ⟨_, List.getElem?_eq_getElem (by have := (List.getElem?_eq_some_iff.mp e).1; omega)⟩
    obtain ⟨y1, y2, y3, y4, y5, y6, y7⟩ := pr i p' z e ez
    have eg : zs.getD i [] = z := by rw [List.getD_eq_getElem?_getD, ez]; rfl
    show nw H H9 p' = some (.lst (rowV (m + 1) fun y => (zs.getD i []).getD y 0))
    rw [eg, ← rowV_of y6]
    exact nw_at y1 (s9 _ _ y5)
-- @@split
/-! ### a copy of a field; a field changed by the least -/
theorem grid_of_fresh {H H' : Hp} {acc : Addr} {ps : List Addr} {n m : Nat} {g : Nat → Nat → Int} (F : FreshL H H' acc ps n fun i => .lst (rowV m (g i))) : GridAt (nw H H') acc ps n m g :=
  ⟨nw_at F.facc F.out, F.len, fun i p e => nw_at (F.row i p e).1 (F.row i p e).2⟩
@[irreducible] def sp__law_copy : Sp := fun vs H Q _ => ∃ (q : Addr) (n m : Nat) (f : Fd), vs = [.ref q] ∧ FdAt H q n m f ∧ (n ≤ 10 ∧ m ≤ 10) ∧ ∀ r H', Same H H' → (r = q ∨ FdAt (nw H H') r n m f) → Q (.ref r) H'
theorem copy_rd {H : Hp} {q : Addr} {n m : Nat} {f : Fd} {Q : VK} {E : XK} (F : FdAt H q n m f) (hn : n ≤ 10) (hm : m ≤ 10) (k : ∀ r H', Same H H' → (r = q ∨ FdAt (nw H H') r n m f) → Q (.ref r) H') : sp__law_copy [.ref q] H Q E := by unfold sp__law_copy; exact ⟨q, n, m, f, rfl, F, ⟨hn, hm⟩, k⟩
theorem ok__law_copy {f : Addr} {fd : FuncData} (F : Fun K "_law_copy" "_law_copy" s__law_copy f fd) (N : Nm mg) : FnOk P w K mg base CX0 1 f fd ["_law_field_here"] sp__law_copy := by
  refine F.ok sc__law_copy (fun vs H Q E h => by unfold sp__law_copy at h; obtain ⟨_, _, _, _, rfl, _⟩ := h; rfl) (fun cdv A outer s H vs Q E hr h => ?_)
  unfold sp__law_copy at h
  obtain ⟨q, n, m, f, rfl, F, ⟨hn, hm⟩, k⟩ := h
  have hu := hu40 hr
  refine ⟨_, (pss_cons (psIf (ptC (oEqXK (K := K) rfl (by exact hu)) (peIxK (K := K) rfl (pq 0) pe_int) pe_str) (pss_one (ps_ret (peTup (pa_cons pe_str (pa_cons (peComp (N := ["_law_row"]) (ks := [none]) (piSeqK (K := K) rfl (peIxK (K := K) rfl (pq 0) pe_int)) (fun cl C s3 H3 fp => (pg_name (i := 0) nb_5 rfl (by first | exact Or.inl rfl | exact Or.inr rfl))) (fun cl C s3 H3 fp => pts_nil) (fun cl C s3 H3 fp => (pT (cListK (K := K) rfl) N.list_ bt_list (pa_cons (pq 0) pa_nil))) (.skip .nil)) pa_nil))))) pss_nil)
      (pss_one (ps_ret (pq 0)))), ?_⟩
  cases f with
  | more w t =>
    have F : H q = some (.tup [.str "more", .int w, .int t]) := F
    refine ixT_rd (v := .str "more") F rfl ?_
    refine br_dF (by decide) ?_
    walk_at "wh"
    exact k q H (Same.refl _) (.inl rfl)
  | lead w t =>
    have F : H q = some (.tup [.str "lead", .int w, .int t]) := F
    refine ixT_rd (v := .str "lead") F rfl ?_
    refine br_dF (by decide) ?_
    walk_at "wh"
    exact k q H (Same.refl _) (.inl rfl)
  | tab g =>
    obtain ⟨q1, ps, e, G⟩ := F
    have gl := G.len
    refine ixT_rd (v := .str "table") e rfl ?_
    refine br_dT rfl ?_
    refine ixT_rd (v := .ref q1) e rfl ?_
    refine iterL_rd G.out ?_
    refine comp_F (Wk.list (SqL.of G.out)) (by rw [List.length_map, sizeLine_eq]; omega) (fun i => .lst (rowV (m + 1) (g i))) (fun j σ => ∃ t : Option V, σ = [t]) ⟨none, rfl⟩ ?_ ?_
    · rintro i x σ I R S hi s1 hx ⟨t, rfl⟩ kk
      rw [List.getElem?_map] at hx
      obtain ⟨p, ep, rfl⟩ := Option.map_eq_some_iff.mp hx
      refine br_T ?_
      refine listL_rd (SqL.of (s1 _ _ (G.row i p ep))) (fun p1 I1 f1 s2 h1 => ?_)
      walk_at "wh"
      exact kk _ _ _ f1 s2 h1 ⟨_, rfl⟩
    intro ac qs H1 F1
    rw [List.length_map, gl] at F1
    refine newT_rd (fun p2 H2 f2 s2 h2 => ?_)
    walk_at "wh"
    refine k p2 H2 (F1.same.trans s2) (.inr ⟨ac, qs, nw_at (F1.same.free f2) h2, (grid_of_fresh F1).same (nw_up s2)⟩)
def Unl (n m : Nat) (f f' : Fd) : Prop := (fdDat n m f).eqv (fdDat n m f') = false ∧ (fdDat n m f').eqv (fdDat n m f) = false
theorem not_true {b : Bool} (h : b = true → False) : b = false := by
  cases b
  · rfl
  · exact (h rfl).elim
theorem eqv_two {u v : Str} {a b c d : Int} (h : (PyData.tuple [.str u, .int a, .int b]).eqv (.tuple [.str v, .int c, .int d]) = true) : u = v ∧ a = c ∧ b = d := by
  have h : ((u == v) && ((a == c) && ((b == d) && true))) = true := h
  simp only [Bool.and_eq_true, Bool.and_true, beq_iff_eq] at h
  exact ⟨h.1, h.2.1, h.2.2⟩
theorem unl_two {n m : Nat} {f f' : Fd} {u v : Str} {a b c d : Int} (e1 : fdDat n m f = .tuple [.str u, .int a, .int b]) (e2 : fdDat n m f' = .tuple [.str v, .int c, .int d]) (h : ¬ (u = v ∧ a = c ∧ b = d)) : Unl n m f f' := by
  unfold Unl
  rw [e1, e2]
  exact ⟨not_true fun z => h (eqv_two z), not_true fun z => h (by obtain ⟨x, y, w⟩ := eqv_two z; exact ⟨x.symm, y.symm, w.symm⟩)⟩
theorem unl_tab {n m : Nat} {g g' : Nat → Nat → Int} {x y : Nat} (hx : x ≤ n) (hy : y ≤ m) (h : g x y ≠ g' x y) : Unl n m (.tab g) (.tab g') := by
  have one : ∀ {g g' : Nat → Nat → Int}, (fdDat n m (.tab g)).eqv (fdDat n m (.tab g')) = true → g x y = g' x y := fun {g g'} z => by
    have z : ((("table" : Str) == "table") && (PyData.eqvAll ((List.range (n + 1)).map fun x => .list ((List.range (m + 1)).map fun y => .int (g x y))) ((List.range (n + 1)).map fun x => .list ((List.range (m + 1)).map fun y => .int (g' x y))) && true)) = true := z
    rw [Bool.and_eq_true, Bool.and_true] at z
    exact eqvAll_rows z.2 x (List.mem_range.mpr (by walk_at "om")) y (List.mem_range.mpr (by walk_at "om"))
  exact ⟨not_true fun z => h (one z), not_true fun z => h (one z).symm⟩
/-- numbers that can be written, by one more -/
def Fd.Sq : Fd → Nat → Nat → Prop
  | .more w t, _, _ => (-(10 ^ 40 + 1) ≤ w ∧ w ≤ 10 ^ 40 + 1) ∧ -(10 ^ 40 + 1) ≤ t ∧ t ≤ 10 ^ 40 + 1
  | .lead w t, _, _ => (-(10 ^ 40 + 1) ≤ w ∧ w ≤ 10 ^ 40 + 1) ∧ -(10 ^ 40 + 1) ≤ t ∧ t ≤ 10 ^ 40 + 1
  | .tab g, n, m => ∀ x y, x ≤ n → y ≤ m → -(10 ^ 40 + 1) ≤ g x y ∧ g x y ≤ 10 ^ 40 + 1
theorem sq_of {f : Fd} {n m : Nat} (h : f.Sm n m) : f.Sq n m := by
  cases f with
  | more w t => obtain ⟨⟨a, b⟩, c, d⟩ : (-(10 ^ 40) ≤ w ∧ w ≤ 10 ^ 40) ∧ -(10 ^ 40) ≤ t ∧ t ≤ 10 ^ 40 := h; exact ⟨⟨by walk_at "om", by walk_at "om"⟩, by walk_at "om", by walk_at "om"⟩
  | lead w t => obtain ⟨⟨a, b⟩, c, d⟩ : (-(10 ^ 40) ≤ w ∧ w ≤ 10 ^ 40) ∧ -(10 ^ 40) ≤ t ∧ t ≤ 10 ^ 40 := h; exact ⟨⟨by walk_at "om", by walk_at "om"⟩, by walk_at "om", by walk_at "om"⟩
  | tab g => exact fun x y hx hy => by have : -(10 ^ 40) ≤ g x y ∧ g x y ≤ 10 ^ 40 := h x y hx hy; omega
-- @@split
def bumpG (g : Nat → Nat → Int) (x y : Nat) (k : Int) : Nat → Nat → Int := fun i j => if i = x ∧ j = y then g i j + k else g i j
theorem Chg2.one {p c a : Addr} {H H' : Hp} (x : Chg a H H') (f : H a = none) : Chg2 p c H H' := fun b o _ _ e => x b o (ne_of_none e f) e
@[irreducible] def sp__law_changed : Sp := fun vs H Q _ => ∃ (p c q : Addr) (b : Int) (n m : Nat) (f : Fd), vs = [.ref p, .ref q, .int n, .int m] ∧ PurseAt H p c b ∧ b ≤ 100000 ∧ FdAt (rr p c H) q n m f ∧ (n ≤ 10 ∧ m ≤ 10) ∧ f.Ok ∧ f.Sm n m ∧ ∀ r f' H', Chg2 p c H H' → PurseAt H' p c (b + 10) → FdAt (rr p c H') r n m f' → f'.Ok → Unl n m f f' → f'.Sq n m → Q (.ref r) H'
theorem changed_rd {H : Hp} {p c q : Addr} {b : Int} {n m : Nat} {f : Fd} {Q : VK} {E : XK} (hP : PurseAt H p c b) (hb : b ≤ 100000) (F : FdAt (rr p c H) q n m f) (hn : n ≤ 10) (hm : m ≤ 10) (ok : f.Ok) (sm : f.Sm n m) (k : ∀ r f' H', Chg2 p c H H' → PurseAt H' p c (b + 10) → FdAt (rr p c H') r n m f' → f'.Ok → Unl n m f f' → f'.Sq n m → Q (.ref r) H') : sp__law_changed [.ref p, .ref q, .int n, .int m] H Q E := by unfold sp__law_changed; exact ⟨p, c, q, b, n, m, f, rfl, hP, hb, F, ⟨hn, hm⟩, ok, sm, k⟩
set_option maxHeartbeats 0 in
theorem ok__law_changed {f : Addr} {fd : FuncData} (F : Fun K "_law_changed" "_law_changed" s__law_changed f fd) (N : Nm mg) (D__law_draw : Def P w K mg base CX0 1 "_law_draw" ["_law_purse_here", "_law_out_of"] sp__law_draw) : FnOk P w K mg base CX0 2 f fd ["_law_purse_here", "_law_field_here", "_law_first", "_law_second"] sp__law_changed := by
  refine F.ok sc__law_changed (fun vs H Q E h => by unfold sp__law_changed at h; obtain ⟨_, _, _, _, _, _, _, rfl, _⟩ := h; rfl) (fun cdv A outer s H vs Q E hr h => ?_)
  unfold sp__law_changed at h
  obtain ⟨p, c, q, b, n, m, f, rfl, hP, hb, F0, ⟨hn, hm⟩, ok, sm, k⟩ := h
  have hu := hu40 hr
  refine ⟨_, (pss_cons (psS (i := 4) sc__law_changed.nd (peIxK (K := K) rfl (peLst (pa_cons pe_int (pa_cons (pe_un uNeg pe_int) pa_nil))) (pD D__law_draw hr pass0 (pa_cons (pq 0) (pa_cons pe_int pa_nil)))))
      (pss_cons (psIfI (ptC (oEqXK (K := K) rfl (by exact hu)) (peIxK (K := K) rfl (pq 1) pe_int) pe_str) (pssI_cons (psOf (psC (i := 5) (N := ["_law_row"]) (ks := [none]) sc__law_changed.nd (piSeqK (K := K) rfl (peIxK (K := K) rfl (pq 1) pe_int)) (fun cl C s3 H3 fp => (pg_name (i := 0) nb_6 rfl (by first | exact Or.inl rfl | exact Or.inr rfl))) (fun cl C s3 H3 fp => pts_nil) (fun cl C s3 H3 fp => (pT (cListK (K := K) rfl) N.list_ bt_list (pa_cons (pq 0) pa_nil))) (.skip .nil)))
      (pssI_cons (psOf (psS (i := 6) sc__law_changed.nd (pD D__law_draw hr pass0 (pa_cons (pq 0) (pa_cons (pe_op oAdd (pq 2) pe_int) pa_nil)))))
      (pssI_cons (psOf (psS (i := 7) sc__law_changed.nd (pD D__law_draw hr pass0 (pa_cons (pq 0) (pa_cons (pe_op oAdd (pq 3) pe_int) pa_nil)))))
      (pssI_cons (psI_asg (peI_op oAdd (peI_ixK (K := K) rfl (peI_ixK (K := K) rfl (peI_of (pq 5)) (peI_of (pq 6))) (peI_of (pq 7))) (peI_of (pq 4))) (pg_sub (peIxK (K := K) rfl (pq 5) (pq 6)) (pq 7) setM))
      (pssI_one (psI_ret (peITup (paI_cons peI_str (paI_cons (peI_of (pq 5)) paI_nil) st_Constant)))))))) pssI_nil)
      (pss_cons (psIfI (ptC (oEqXK (K := K) rfl (by exact hu)) (peIxK (K := K) rfl (pq 1) pe_int) pe_str) (pssI_one (psI_ret (peI_ixK (K := K) rfl (peILst (paI_cons (peITup (paI_cons peI_str (paI_cons (peI_op oAdd (peI_ixK (K := K) rfl (peI_of (pq 1)) peI_int) peI_int) (paI_cons (peI_ixK (K := K) rfl (peI_of (pq 1)) peI_int) paI_nil)) st_Constant)) (paI_cons (peITup (paI_cons peI_str (paI_cons (peI_ixK (K := K) rfl (peI_of (pq 1)) peI_int) (paI_cons (peI_op oAdd (peI_ixK (K := K) rfl (peI_of (pq 1)) peI_int) (peI_of (pq 4))) paI_nil)) st_Constant)) paI_nil st_Tuple) st_Tuple)) (peI_of (pD D__law_draw hr pass0 (pa_cons (pq 0) (pa_cons pe_int pa_nil))))))) pssI_nil)
      (pss_cons (psIfI (ptC (oEqXK (K := K) rfl (by exact hu)) (peIxK (K := K) rfl (pq 1) pe_int) (peIxK (K := K) rfl (pq 1) pe_int)) (pssI_one (psI_ret (peI_ixK (K := K) rfl (peILst (paI_cons (peITup (paI_cons peI_str (paI_cons (peI_ixK (K := K) rfl (peI_of (pq 1)) peI_int) (paI_cons peI_int paI_nil st_Constant)) st_Constant)) (paI_cons (peITup (paI_cons peI_str (paI_cons (peI_ixK (K := K) rfl (peI_of (pq 1)) peI_int) (paI_cons (peI_op oSub (peI_ixK (K := K) rfl (peI_of (pq 1)) peI_int) peI_int) paI_nil)) st_Constant)) paI_nil st_Tuple) st_Tuple)) (peI_of (pD D__law_draw hr pass0 (pa_cons (pq 0) (pa_cons pe_int pa_nil))))))) pssI_nil)
      (pss_one (ps_ret (peIxK (K := K) rfl (peLst (pa_cons (peTup (pa_cons pe_str (pa_cons (pe_op oAdd (peIxK (K := K) rfl (pq 1) pe_int) pe_int) (pa_cons (peIxK (K := K) rfl (pq 1) pe_int) pa_nil)))) (pa_cons (peTup (pa_cons pe_str (pa_cons (peIxK (K := K) rfl (pq 1) pe_int) (pa_cons (pe_op oAdd (peIxK (K := K) rfl (pq 1) pe_int) pe_int) pa_nil)))) pa_nil))) (pD D__law_draw hr pass0 (pa_cons (pq 0) (pa_cons pe_int pa_nil)))))))))), ?_⟩
  refine newL_rd (fun p1 H1 f1 s1 h1 => ?_)
  refine draw_rd (hP.same s1) (by walk_at "om") (by walk_at "om") (by walk_at "om") (fun d2 H2 d20 d21 c2 P2 => ?_)
  have h12 := c2 _ _ (hP.neP f1) (hP.neC f1) h1
  refine ixAny_rd h12 (by walk_at "om") (by simp only [List.length_cons, List.length_nil]; omega) ?_
  intro sv hsv
  obtain ⟨st, rfl, hst⟩ : ∃ i : Int, sv = .int i ∧ (i = 1 ∨ i = -1) := by
    simp only [List.mem_cons, List.not_mem_nil, or_false] at hsv
    rcases hsv with rfl | rfl
    · exact ⟨1, rfl, .inl rfl⟩
    · exact ⟨-1, rfl, .inr rfl⟩
  clear hsv h12 h1
  have c02 : Chg2 p c H H2 := s1.to2.trans c2
  have F2 : FdAt (rr p c H2) q n m f := F0.same (Chg2.rr c02)
  cases f with
  | tab g =>
    obtain ⟨q1, ps, e0, G0⟩ := F2
    have e := (rr_of e0).2.2
    have G := G0.same (rr_same _ _ _)
    have gl := G.len
    refine ixT_rd (v := .str "table") e rfl ?_
    refine br_dT rfl ?_
    refine ixT_rd (v := .ref q1) e rfl ?_
    refine iterL_rd G.out ?_
    refine comp_F (Wk.list (SqL.of G.out)) (by rw [List.length_map, sizeLine_eq]; omega) (fun i => .lst (rowV (m + 1) (g i))) (fun j σ => ∃ t : Option V, σ = [t]) ⟨none, rfl⟩ ?_ ?_
    · rintro i x σ I R S hi s1 hx ⟨t, rfl⟩ kk
      rw [List.getElem?_map] at hx
      obtain ⟨p, ep, rfl⟩ := Option.map_eq_some_iff.mp hx
      refine br_T ?_
      refine listL_rd (SqL.of (s1 _ _ (G.row i p ep))) (fun p1 I1 f1 s2 h1 => ?_)
      walk_at "wh"
      exact kk _ _ _ f1 s2 h1 ⟨_, rfl⟩
    intro ac qs H3 F3
    rw [List.length_map, gl] at F3
    have P3 := P2.same F3.same
    refine draw_rd P3 (by walk_at "om") (by walk_at "om") (by walk_at "om") (fun dx H4 dx0 dx1 c4 P4 => ?_)
    obtain ⟨x, rfl⟩ : ∃ x : Nat, dx = x := ⟨dx.toNat, by walk_at "om"⟩
    refine draw_rd P4 (by walk_at "om") (by walk_at "om") (by walk_at "om") (fun dy H5 dy0 dy1 c5 P5 => ?_)
    obtain ⟨y, rfl⟩ : ∃ x : Nat, dy = x := ⟨dy.toNat, by walk_at "om"⟩
    have c35 := c4.trans c5
    have nac : ac ≠ p ∧ ac ≠ c := ⟨P2.neP F3.facc, P2.neC F3.facc⟩
    have nqs : ∀ r ∈ qs, r ≠ p ∧ r ≠ c := fun r hr => ⟨P2.neP (F3.free hr), P2.neC (F3.free hr)⟩
    have out5 := c35 _ _ nac.1 nac.2 F3.out
    have row5 : ∀ (i : Nat) r, qs[i]? = some r → H5 r = some (.lst (rowV (m + 1) (g i))) := fun i r er => c35 _ _ (nqs r (List.mem_of_getElem? er)).1 (nqs r (List.mem_of_getElem? er)).2 (F3.row i r er).2
    obtain ⟨r, er⟩ : ∃ r, qs[x]? = some r := ⟨_, List.getElem?_eq_getElem (by rw [F3.len]; omega)⟩
    have atr : atI (qs.map V.ref) (x : Int) = some (.ref r) := atI_nat (by rw [List.getElem?_map, er]; rfl)
    have aty : atI (rowV (m + 1) (g x)) (y : Int) = some (.int (g x y)) := by
      have := rowV_at (n := m + 1) (r := g x) (i := (y : Int)) (by walk_at "om") (by walk_at "om")
      rw [Int.toNat_natCast] at this
      exact this
    refine ixL_rd (v := .ref r) out5 atr ?_
    refine ixL_rd (v := .int (g x y)) (row5 x r er) aty ?_
    refine ixL_rd (v := .ref r) out5 atr ?_
    refine set_rd (j := y) (row5 x r er) (by rw [rowV_len]; exact (ixN_in (by walk_at "om") (by walk_at "om")).trans (by congr 1)) (fun H6 c6 h6 => ?_)
    rw [rowV_set] at h6
    have rac : ac ≠ r := fun z => F3.nin (z ▸ List.mem_of_getElem? er)
    refine newT_rd (fun p7 H7 f7 s7 h7 => ?_)
    walk_at "wh"
    have nr := nqs r (List.mem_of_getElem? er)
    have fr2 : H2 r = none := F3.free (List.mem_of_getElem? er)
    have P6 : PurseAt H6 p c (b + 4) := (P5.chg1 c6 (Ne.symm nr.1) (Ne.symm nr.2)).up (by walk_at "om")
    have c07 : Chg2 p c H H7 := fun z o z1 z2 e => s7 _ _ (c6 _ _ (fun w => by have := c02 _ _ z1 z2 e; rw [w, fr2] at this; cases this) (c35 _ _ z1 z2 (F3.same _ _ (c02 _ _ z1 z2 e))))
    refine k p7 (.tab (bumpG g x y st)) H7 c07 ((P6.same s7).up (by walk_at "om")) ⟨ac, qs, rr_at (P6.neP f7) (P6.neC f7) h7, rr_at nac.1 nac.2 (s7 _ _ (c6 _ _ rac out5)), F3.len, fun i r' er' => ?_⟩ trivial (unl_tab (x := x) (y := y) (by walk_at "om") (by walk_at "om") (by unfold bumpG; rw [if_pos ⟨rfl, rfl⟩]; omega)) (fun x' y' hx' hy' => by
      have : -(10 ^ 40) ≤ g x' y' ∧ g x' y' ≤ 10 ^ 40 := sm x' y' hx' hy'
      unfold bumpG
      split <;> omega)
    have nr' := nqs r' (List.mem_of_getElem? er')
    refine rr_at nr'.1 nr'.2 (s7 _ _ ?_)
    by_cases hi : i = x
    · subst hi
      rw [er] at er'
      cases er'
      rw [h6]
      congr 2
      refine rowV_ext fun t ht => ?_
      unfold bumpG
      by_cases hy : t = y
      · rw [if_pos hy, if_pos ⟨rfl, hy⟩, hy]
      · rw [if_neg hy, if_neg fun z => hy z.2]
    · have ne : r' ≠ r := fun z => hi ((List.getElem?_inj (List.getElem?_eq_some_iff.mp er').1 F3.nd).mp (er'.trans (z ▸ er.symm)))
      rw [c6 _ _ ne (row5 i r' er')]
      congr 2
      refine rowV_ext fun t ht => ?_
      unfold bumpG
      rw [if_neg fun z => hi z.1]
  | lead w t =>
    have e0 : rr p c H2 q = some (.tup [.str "lead", .int w, .int t]) := F2
    have e := (rr_of e0).2.2
    have okw : 1 ≤ w := ok
    obtain ⟨⟨q1, q2⟩, q3, q4⟩ : (-(10 ^ 40) ≤ w ∧ w ≤ 10 ^ 40) ∧ -(10 ^ 40) ≤ t ∧ t ≤ 10 ^ 40 := sm
    refine ixT_rd (v := .str "lead") e rfl ?_
    refine br_dF (by decide) ?_
    refine ixT_rd (v := .str "lead") e rfl ?_
    refine br_dT rfl ?_
    refine ixT_rd (v := .int w) e rfl ?_
    refine ixT_rd (v := .int t) e rfl ?_
    refine newT_rd (fun p3 H3 f3 s3 h3 => ?_)
    have e3 := s3 _ _ e
    refine ixT_rd (v := .int w) e3 rfl ?_
    refine ixT_rd (v := .int t) e3 rfl ?_
    refine newT_rd (fun p4 H4 f4 s4 h4 => ?_)
    refine newL_rd (fun p5 H5 f5 s5 h5 => ?_)
    have s25 := (s3.trans s4).trans s5
    refine draw_rd (P2.same s25) (by walk_at "om") (by walk_at "om") (by walk_at "om") (fun d6 H6 d60 d61 c6 P6 => ?_)
    have n3 := P2.neP f3
    have m3 := P2.neC f3
    have n4 := (P2.same s3).neP f4
    have m4 := (P2.same s3).neC f4
    have n5 := (P2.same (s3.trans s4)).neP f5
    have m5 := (P2.same (s3.trans s4)).neC f5
    refine ixAny_rd (c6 _ _ n5 m5 h5) (by walk_at "om") (by simp only [List.length_cons, List.length_nil]; omega) ?_
    intro sv hsv
    walk_at "wh"
    have c06 : Chg2 p c H H6 := (c02.same s25).trans c6
    simp only [List.mem_cons, List.not_mem_nil, or_false] at hsv
    rcases hsv with rfl | rfl
    · exact k p3 (.lead (w + 1) t) H6 c06 (P6.up (by walk_at "om")) (rr_at n3 m3 (c6 _ _ n3 m3 ((s4.trans s5) _ _ h3))) (show (1 : Int) ≤ w + 1 by walk_at "om") (unl_two rfl rfl (fun z => by walk_at "om")) ⟨⟨by walk_at "om", by walk_at "om"⟩, by walk_at "om", by walk_at "om"⟩
    · exact k p4 (.lead w (t + st)) H6 c06 (P6.up (by walk_at "om")) (rr_at n4 m4 (c6 _ _ n4 m4 (s5 _ _ h4))) okw (unl_two rfl rfl (fun z => by walk_at "om")) ⟨⟨by walk_at "om", by walk_at "om"⟩, by walk_at "om", by walk_at "om"⟩
  | more w t =>
    have e0 : rr p c H2 q = some (.tup [.str "more", .int w, .int t]) := F2
    have e := (rr_of e0).2.2
    obtain ⟨ok1, ok2, ok3⟩ : 1 ≤ w ∧ -w ≤ t ∧ t ≤ w := ok
    obtain ⟨⟨q1, q2⟩, q3, q4⟩ : (-(10 ^ 40) ≤ w ∧ w ≤ 10 ^ 40) ∧ -(10 ^ 40) ≤ t ∧ t ≤ 10 ^ 40 := sm
    refine ixT_rd (v := .str "more") e rfl ?_
    refine br_dF (by decide) ?_
    refine ixT_rd (v := .str "more") e rfl ?_
    refine br_dF (by decide) ?_
    refine ixT_rd (v := .int w) e rfl ?_
    refine ixT_rd (v := .int t) e rfl ?_
    refine br_dec (fun ew => ?_) (fun ew => ?_)
    · walk_at "wh"
      refine ixT_rd (v := .int w) e rfl ?_
      refine newT_rd (fun p3 H3 f3 s3 h3 => ?_)
      have e3 := s3 _ _ e
      refine ixT_rd (v := .int w) e3 rfl ?_
      refine ixT_rd (v := .int t) e3 rfl ?_
      refine newT_rd (fun p4 H4 f4 s4 h4 => ?_)
      refine newL_rd (fun p5 H5 f5 s5 h5 => ?_)
      have s25 := (s3.trans s4).trans s5
      refine draw_rd (P2.same s25) (by walk_at "om") (by walk_at "om") (by walk_at "om") (fun d6 H6 d60 d61 c6 P6 => ?_)
      have n3 := P2.neP f3
      have m3 := P2.neC f3
      have n4 := (P2.same s3).neP f4
      have m4 := (P2.same s3).neC f4
      have n5 := (P2.same (s3.trans s4)).neP f5
      have m5 := (P2.same (s3.trans s4)).neC f5
      refine ixAny_rd (c6 _ _ n5 m5 h5) (by walk_at "om") (by simp only [List.length_cons, List.length_nil]; omega) ?_
      intro sv hsv
      walk_at "wh"
      have c06 : Chg2 p c H H6 := (c02.same s25).trans c6
      simp only [List.mem_cons, List.not_mem_nil, or_false] at hsv
      rcases hsv with rfl | rfl
      · exact k p3 (.lead w 0) H6 c06 (P6.up (by walk_at "om")) (rr_at n3 m3 (c6 _ _ n3 m3 ((s4.trans s5) _ _ h3))) ok1 (unl_two rfl rfl (fun z => absurd z.1 (by decide))) ⟨⟨by walk_at "om", by walk_at "om"⟩, by walk_at "om", by walk_at "om"⟩
      · exact k p4 (.more w (t - 1)) H6 c06 (P6.up (by walk_at "om")) (rr_at n4 m4 (c6 _ _ n4 m4 (s5 _ _ h4))) ⟨ok1, by walk_at "om", by walk_at "om"⟩ (unl_two rfl rfl (fun z => by walk_at "om")) ⟨⟨by walk_at "om", by walk_at "om"⟩, by walk_at "om", by walk_at "om"⟩
    · walk_at "wh"
      refine ixT_rd (v := .int w) e rfl ?_
      refine ixT_rd (v := .int t) e rfl ?_
      refine newT_rd (fun p3 H3 f3 s3 h3 => ?_)
      have e3 := s3 _ _ e
      refine ixT_rd (v := .int w) e3 rfl ?_
      refine ixT_rd (v := .int t) e3 rfl ?_
      refine newT_rd (fun p4 H4 f4 s4 h4 => ?_)
      refine newL_rd (fun p5 H5 f5 s5 h5 => ?_)
      have s25 := (s3.trans s4).trans s5
      refine draw_rd (P2.same s25) (by walk_at "om") (by walk_at "om") (by walk_at "om") (fun d6 H6 d60 d61 c6 P6 => ?_)
      have n3 := P2.neP f3
      have m3 := P2.neC f3
      have n4 := (P2.same s3).neP f4
      have m4 := (P2.same s3).neC f4
      have n5 := (P2.same (s3.trans s4)).neP f5
      have m5 := (P2.same (s3.trans s4)).neC f5
      refine ixAny_rd (c6 _ _ n5 m5 h5) (by walk_at "om") (by simp only [List.length_cons, List.length_nil]; omega) ?_
      intro sv hsv
      walk_at "wh"
      have c06 : Chg2 p c H H6 := (c02.same s25).trans c6
      simp only [List.mem_cons, List.not_mem_nil, or_false] at hsv
      rcases hsv with rfl | rfl
      · exact k p3 (.more (w + 1) t) H6 c06 (P6.up (by walk_at "om")) (rr_at n3 m3 (c6 _ _ n3 m3 ((s4.trans s5) _ _ h3))) ⟨by walk_at "om", by walk_at "om", by walk_at "om"⟩ (unl_two rfl rfl (fun z => by walk_at "om")) ⟨⟨by walk_at "om", by walk_at "om"⟩, by walk_at "om", by walk_at "om"⟩
      · exact k p4 (.more w (t + 1)) H6 c06 (P6.up (by walk_at "om")) (rr_at n4 m4 (c6 _ _ n4 m4 (s5 _ _ h4))) ⟨ok1, by walk_at "om", by walk_at "om"⟩ (unl_two rfl rfl (fun z => by walk_at "om")) ⟨⟨by walk_at "om", by walk_at "om"⟩, by walk_at "om", by walk_at "om"⟩
-- @@split
section
open PySem.Spec PyProof.Rows
/-! ### text.upper() -/
def qUp (to : TE) : TE := fun σ H Q => to σ H fun x H1 => match x with
  | .str x => x.length ≤ 100 ∧ Q (.str (Txt.upper x)) H1
  | _ => False
theorem peUpper {X : Cx} {o : Expr} {to : TE} {apos cpos : Pos} (ho : PE X o to) (hbase : attributeBase o "upper" X.env (eval o X.env) = eval o X.env := by rfl) (hline : (apos.endLine == cpos.line) = true := by rfl) :
    PE X (.Call (.Attribute o "upper" apos) [] [] cpos) (qUp to) := by
  intro pins s σ H Q I h
  refine wpAny_Call_method0_late hbase hline (thn (ho pins s σ H _ I h) fun v s1 ⟨x, H1, I1, r1, q1⟩ => ?_)
  dsimp only at q1
  split at q1
  · rename_i x
    obtain ⟨hl, q1⟩ := q1
    obtain ⟨t, rfl⟩ := (show ∃ t, v = Value.str x t from r1)
    exact ⟨"str", _, PySem.F.plainAttrs_str, PySem.F.slot_str_upper, PySem.F.type_str_upper, (tyV_is (T := "str") I1 r1 rfl).1, (tyV_is (T := "str") I1 r1 rfl).2, Calls.callWith_builtin rfl (PySem.evalArgs_none (SCL.upper (by walk_at "om") fun _ => ⟨.str (Txt.upper x), H1, I1.tok _, ⟨_, rfl⟩, q1⟩))⟩
  · exact q1.elim
end
/-! ### fields that are none -/
theorem Shows.three {a b c : PyData} {k m1 m2 m3 : Nat} (h1 : Shows a k m1) (h2 : Shows b k m2) (h3 : Shows c k m3) : Shows (.tuple [a, b, c]) (k + 1) (m1 + m2 + m3 + 10) := by
  have up : ∀ d ∈ [a, b, c], Shows d k (m1 + m2 + m3) := fun d hd => by
    simp only [List.mem_cons, List.not_mem_nil, or_false] at hd
    rcases hd with rfl | rfl | rfl
    · exact h1.up (Nat.le_refl _) (by walk_at "om")
    · exact h2.up (Nat.le_refl _) (by walk_at "om")
    · exact h3.up (Nat.le_refl _) (by walk_at "om")
  have big := Shows.tuple up
  refine ⟨big.ok, big.nd, big.dp, ?_⟩
  have p : piled (PyData.shownAll [a, b, c]) ≤ m1 + m2 + m3 + 6 := by
    have l1 := h1.ln
    have l2 := h2.ln
    have l3 := h3.ln
    simp only [PyData.shownAll, piled_cons]
    have : piled [] = 0 := rfl
    omega
  have e1 : ((("(" : String) : Str)).length = 1 := rfl
  have e3 : ((if (PyData.shownAll [a, b, c]).length == 1 then ",)" else ")" : String) : Str).length ≤ 2 := by split <;> decide
  have e4 : (Str.join ", " (PyData.shownAll [a, b, c])).length ≤ piled (PyData.shownAll [a, b, c]) := by
    have := join_length_add (PyData.shownAll [a, b, c]) (fun z => by cases z)
    omega
  simp only [PyData.shown, tupleText, strLen_append]
  omega
abbrev Sml (i : Int) : Prop := -(10 ^ 40 + 1) ≤ i ∧ i ≤ 10 ^ 40 + 1
theorem shows_i {i : Int} (h : -(10 ^ 41) ≤ i ∧ i ≤ 10 ^ 41) (k : Nat) : Shows (.int i) k 1921 := (Shows.int (by walk_at "om") (by walk_at "om")).up (Nat.zero_le _) (Nat.le_refl _)
/-- what a bad field is -/
structure BadF (n m : Nat) (H : Hp) (v : V) (d : PyData) : Prop where
  sh : ShV H v d
  ok : okD 5 d
  fs : FldS d
  no : fieldD n m d = false
  sw : Shows d 3 600000
theorem badTwo {n m : Nat} {H : Hp} {r : Addr} {w : Str} {i j : Int} (e : H r = some (.tup [.str w, .int i, .int j])) (hw : PyData.strOk w = true) (hr : (reprText w).length ≤ 100) (hi : -(10 ^ 41) ≤ i ∧ i ≤ 10 ^ 41) (hj : -(10 ^ 41) ≤ j ∧ j ≤ 10 ^ 41) (no : fieldL n m w [.int i, .int j] = false) : BadF n m H (.ref r) (.tuple [.str w, .int i, .int j]) :=
  ⟨.tup e (.cons (.str _) (.cons (.int _) (.cons (.int _) .nil))), okD.tuple (n := 4) (by simp) (fun d hd => by
    simp only [List.mem_cons, List.not_mem_nil, or_false] at hd
    rcases hd with rfl | rfl | rfl
    · exact ⟨rfl, hw, Nat.zero_le _⟩
    · exact okD.int _ _
    · exact okD.int _ _), ⟨_, _, rfl⟩, no, (Shows.three ((Shows.str hr).up (k' := 2) (m' := 100) (by walk_at "om") (Nat.le_refl _)) (shows_i hi 2) (shows_i hj 2)).up (by walk_at "om") (by walk_at "om")⟩
theorem badTab {n m : Nat} {H : Hp} {r q : Addr} {w : Str} {us : List V} {es : List PyData} (e : H r = some (.tup [.str w, .ref q])) (eq : H q = some (.lst us)) (l : ShL H us es) (hw : PyData.strOk w = true) (hr : (reprText w).length ≤ 100) (hl : es.length ≤ 12) (ho : ∀ d ∈ es, okD 3 d ∧ Shows d 1 23100) (no : fieldL n m w [.list es] = false) : BadF n m H (.ref r) (.tuple [.str w, .list es]) :=
  ⟨.tup e (.cons (.str _) (.cons (.lst eq l) .nil)), okD.tuple (n := 4) (by simp) (fun d hd => by
    simp only [List.mem_cons, List.not_mem_nil, or_false] at hd
    rcases hd with rfl | rfl
    · exact ⟨rfl, hw, Nat.zero_le _⟩
    · exact okD.list (n := 3) (by walk_at "om") fun d hd => (ho d hd).1), ⟨_, _, rfl⟩, no, (Shows.tuple (k := 2) (m := 280000) (fun d hd => by
    simp only [List.mem_cons, List.not_mem_nil, or_false] at hd
    rcases hd with rfl | rfl
    · exact (Shows.str hr).up (by walk_at "om") (by walk_at "om")
    · exact (Shows.list fun d hd => (ho d hd).2).up (by walk_at "om") (by walk_at "om"))).up (by walk_at "om") (by simp)⟩
theorem rowOk {zs : List Int} (hl : zs.length ≤ 12) (hb : ∀ z ∈ zs, Sml z) : okD 3 (.list (zs.map PyData.int)) ∧ Shows (.list (zs.map PyData.int)) 1 23100 := by
  refine ⟨okD.list (n := 2) (by rw [List.length_map]; omega) fun d hd => ?_, (Shows.list (k := 0) (m := 1921) fun d hd => ?_).up (by walk_at "om") (by rw [List.length_map]; omega)⟩
  · obtain ⟨z, _, rfl⟩ := List.mem_map.mp hd
    exact okD.int _ _
  · obtain ⟨z, hz, rfl⟩ := List.mem_map.mp hd
    have := hb z hz
    exact shows_i (by walk_at "om") 0
-- @@split
def rowI (m : Nat) (g : Nat → Nat → Int) (i : Nat) : List Int := (List.range (m + 1)).map (g i)
theorem rowI_V (m : Nat) (g : Nat → Nat → Int) (i : Nat) : rowV (m + 1) (g i) = (rowI m g i).map V.int := rowV_ints _ _
theorem intsS {H : Hp} {p : Addr} {ns : List Int} (h : H p = some (.lst (ns.map V.int))) : ShV H (.ref p) (.list (ns.map PyData.int)) := .lst h (ShL.idx (by rw [List.length_map, List.length_map]) fun i x d h1 h2 => by
  rw [List.getElem?_map] at h1 h2
  obtain ⟨n, en, rfl⟩ := Option.map_eq_some_iff.mp h1
  rw [en] at h2
  cases h2
  exact .int n)
theorem tab_len {n m : Nat} {es : List PyData} (h : es.length ≠ n + 1) : fieldL n m "table" [.list es] = false := by
  show (decide (("table" : Str) = "table") && (decide ((es.length : Int) = (n : Int) + 1) && es.all (tabRowD ((m : Int) + 1)))) = false
  rw [decide_eq_false (show ¬ ((es.length : Int) = (n : Int) + 1) by walk_at "om"), Bool.false_and, Bool.and_false]
theorem tab_row {n m : Nat} {es : List PyData} {zs : List Int} (hm : PyData.list (zs.map PyData.int) ∈ es) (h : zs.length ≠ m + 1) : fieldL n m "table" [.list es] = false := by
  show (decide (("table" : Str) = "table") && (decide ((es.length : Int) = (n : Int) + 1) && es.all (tabRowD ((m : Int) + 1)))) = false
  have : es.all (tabRowD ((m : Int) + 1)) = false := not_true fun z => by
    have z := List.all_eq_true.mp z _ hm
    have z : (decide (((zs.map PyData.int).length : Int) = (m : Int) + 1) && (zs.map PyData.int).all isW) = true := z
    rw [Bool.and_eq_true, decide_eq_true_iff, List.length_map] at z
    omega
  rw [this, Bool.and_false, Bool.and_false]
@[irreducible] def sp__law_no_field : Sp := fun vs H Q _ => ∃ (p c q : Addr) (b : Int) (n m : Nat) (f : Fd), vs = [.ref p, .ref q] ∧ PurseAt H p c b ∧ b ≤ 100000 ∧ FdAt (rr p c H) q n m f ∧ (n ≤ 10 ∧ m ≤ 10) ∧ f.Ok ∧ f.Sq n m ∧ ∀ v d H', Chg2 p c H H' → PurseAt H' p c (b + 5) → BadF n m (rr p c H') v d → Q v H'
theorem no_field_rd {H : Hp} {p c q : Addr} {b : Int} {n m : Nat} {f : Fd} {Q : VK} {E : XK} (hP : PurseAt H p c b) (hb : b ≤ 100000) (F : FdAt (rr p c H) q n m f) (hn : n ≤ 10) (hm : m ≤ 10) (ok : f.Ok) (sm : f.Sq n m) (k : ∀ v d H', Chg2 p c H H' → PurseAt H' p c (b + 5) → BadF n m (rr p c H') v d → Q v H') : sp__law_no_field [.ref p, .ref q] H Q E := by unfold sp__law_no_field; exact ⟨p, c, q, b, n, m, f, rfl, hP, hb, F, ⟨hn, hm⟩, ok, sm, k⟩
set_option maxHeartbeats 0 in
theorem ok__law_no_field {f : Addr} {fd : FuncData} (F : Fun K "_law_no_field" "_law_no_field" s__law_no_field f fd) (N : Nm mg) (D__law_draw : Def P w K mg base CX0 1 "_law_draw" ["_law_purse_here", "_law_out_of"] sp__law_draw) : FnOk P w K mg base CX0 2 f fd ["_law_purse_here", "_law_field_here"] sp__law_no_field := by
  refine F.ok sc__law_no_field (fun vs H Q E h => by unfold sp__law_no_field at h; obtain ⟨_, _, _, _, _, _, _, rfl, _⟩ := h; rfl) (fun cdv A outer s H vs Q E hr h => ?_)
  unfold sp__law_no_field at h
  obtain ⟨p, c, q, b, n, m, f, rfl, hP, hb, F0, ⟨hn, hm⟩, ok, sm, k⟩ := h
  have hu := hu40 hr
  refine ⟨_, (pss_cons (psS (i := 2) sc__law_no_field.nd (pD D__law_draw hr pass0 (pa_cons (pq 0) (pa_cons pe_int pa_nil))))
      (pss_cons (psIfI (ptC (oEqXK (K := K) rfl (by exact hu)) (peIxK (K := K) rfl (pq 1) pe_int) pe_str) (pssI_cons (psOf (psC (i := 3) (N := ["_law_row"]) (ks := [none]) sc__law_no_field.nd (piSeqK (K := K) rfl (peIxK (K := K) rfl (pq 1) pe_int)) (fun cl C s3 H3 fp => (pg_name (i := 0) nb_7 rfl (by first | exact Or.inl rfl | exact Or.inr rfl))) (fun cl C s3 H3 fp => pts_nil) (fun cl C s3 H3 fp => (pT (cListK (K := K) rfl) N.list_ bt_list (pa_cons (pq 0) pa_nil))) (.skip .nil)))
      (pssI_cons (psOf (psC (i := 4) (N := ["_law_row"]) (ks := [none]) sc__law_no_field.nd (piSeqK (K := K) rfl (pq 3)) (fun cl C s3 H3 fp => (pg_name (i := 0) nb_7 rfl (by first | exact Or.inl rfl | exact Or.inr rfl))) (fun cl C s3 H3 fp => pts_nil) (fun cl C s3 H3 fp => (pe_slice (slXK (K := K) rfl) (pq 0) (poSome pe_int) po_none)) (.skip .nil)))
      (pssI_cons (psOf (psS (i := 5) sc__law_no_field.nd (pe_op oAdd (pe_slice (slXK (K := K) rfl) (pq 3) po_none (poSome (pe_un uNeg pe_int))) (peLst (pa_cons (pe_op oAdd (peIxK (K := K) rfl (pq 3) (pe_un uNeg pe_int)) (peLst (pa_cons pe_int pa_nil))) pa_nil)))))
      (pssI_cons (psIS (i := 6) sc__law_no_field.nd (peILst (paI_cons (peITup (paI_cons peI_str (paI_cons (peI_of (pe_slice (slXK (K := K) rfl) (pq 3) (poSome pe_int) po_none)) paI_nil) st_Constant)) (paI_cons (peITup (paI_cons peI_str (paI_cons (peI_op oAdd (peI_of (pq 3)) (peI_of (pe_slice (slXK (K := K) rfl) (pq 3) po_none (poSome pe_int)))) paI_nil) st_Constant)) (paI_cons (peITup (paI_cons peI_str (paI_cons (peI_of (pq 4)) paI_nil) st_Constant)) (paI_cons (peITup (paI_cons peI_str (paI_cons (peI_of (pq 5)) paI_nil) st_Constant)) paI_nil st_Tuple) st_Tuple) st_Tuple) st_Tuple)))
      (pssI_one (psI_ret (peI_ixK (K := K) rfl (peI_op oAdd (peI_of (pq 6)) (peILst (paI_cons (peITup (paI_cons peI_str (paI_cons (peI_of (pq 3)) paI_nil) st_Constant)) paI_nil st_Tuple))) (peI_of (pq 2))))))))) pssI_nil)
      (pss_cons (ps_asg (pq 1) (pgAnyK (K := K) (n := 3) rfl rfl (pgsCons (pg_name (i := 7) sc__law_no_field.nd rfl (by first | exact Or.inl rfl | exact Or.inr rfl)) (pgsCons (pg_name (i := 8) sc__law_no_field.nd rfl (by first | exact Or.inl rfl | exact Or.inr rfl)) (pgsCons (pg_name (i := 9) sc__law_no_field.nd rfl (by first | exact Or.inl rfl | exact Or.inr rfl)) pgsNil)))))
      (pss_cons (psS (i := 10) sc__law_no_field.nd (peLst (pa_cons (peTup (pa_cons (pq 7) (pa_cons pe_int (pa_cons pe_int pa_nil)))) (pa_cons (peTup (pa_cons (pq 7) (pa_cons (pe_op oSub pe_int (pq 8)) (pa_cons pe_int pa_nil)))) (pa_cons (peTup (pa_cons pe_str (pa_cons (pq 8) (pa_cons (pe_op oAdd (pq 8) pe_int) pa_nil)))) (pa_cons (peTup (pa_cons pe_str (pa_cons (pq 8) (pa_cons (pe_op oSub (pe_un uNeg pe_int) (pq 8)) pa_nil)))) pa_nil))))))
      (pss_one (ps_ret (peIxK (K := K) rfl (pe_op oAdd (pq 10) (peLst (pa_cons (peTup (pa_cons (peUpper (pq 7)) (pa_cons (pq 8) (pa_cons (pq 9) pa_nil)))) pa_nil))) (pq 2)))))))), ?_⟩
  refine draw_rd hP (by walk_at "om") (by walk_at "om") (by walk_at "om") (fun wy H1 w0 w1 c1 P1 => ?_)
  have F1 : FdAt (rr p c H1) q n m f := F0.same (Chg2.rr c1)
  have P1 : PurseAt H1 p c (b + 5) := P1.up (by walk_at "om")
  have done : ∀ {J : Hp} {v : V} {d : PyData}, Same H1 J → BadF n m (rr p c J) v d → Q v J := fun s B => k _ _ _ (c1.same s) (P1.same s) B
  cases f with
  | tab g =>
    obtain ⟨q1, ps, e0, G0⟩ := F1
    have e := (rr_of e0).2.2
    have G := G0.same (rr_same _ _ _)
    have gl := G.len
    have sm : ∀ x y, x ≤ n → y ≤ m → Sml (g x y) := sm
    refine ixT_rd (v := .str "table") e rfl ?_
    refine br_dT rfl ?_
    refine ixT_rd (v := .ref q1) e rfl ?_
    refine iterL_rd G.out ?_
    refine comp_F (Wk.list (SqL.of G.out)) (by rw [List.length_map, sizeLine_eq]; omega) (fun i => .lst ((rowI m g i).map V.int)) (fun j σ => ∃ t : Option V, σ = [t]) ⟨none, rfl⟩ ?_ ?_
    · rintro i x σ I R S hi s1 hx ⟨t, rfl⟩ kk
      rw [List.getElem?_map] at hx
      obtain ⟨p, ep, rfl⟩ := Option.map_eq_some_iff.mp hx
      refine br_T ?_
      refine listL_rd (SqL.of (s1 _ _ (G.row i p ep))) (fun p1 I1 f1 s2 h1 => ?_)
      rw [rowI_V] at h1
      walk_at "wh"
      exact kk _ _ _ f1 s2 h1 ⟨_, rfl⟩
    intro ac qs H2 F2
    rw [List.length_map, gl] at F2
    have ql := F2.len
    refine iterL_rd F2.out ?_
    refine comp_F (Wk.list (SqL.of F2.out)) (by rw [List.length_map, sizeLine_eq]; omega) (fun i => .lst (((rowI m g i).drop 1).map V.int)) (fun j σ => ∃ t : Option V, σ = [t]) ⟨none, rfl⟩ ?_ ?_
    · rintro i x σ I R S hi s1 hx ⟨t, rfl⟩ kk
      rw [List.getElem?_map] at hx
      obtain ⟨p, ep, rfl⟩ := Option.map_eq_some_iff.mp hx
      refine br_T ?_
      refine slL_rd (SqL.of (s1 _ _ (F2.row i p ep).2)) (fun p1 I1 f1 s2 h1 => ?_)
      rw [cut_drop (by decide), ← List.map_drop] at h1
      walk_at "wh"
      exact kk _ _ _ f1 s2 h1 ⟨_, rfl⟩
    intro sh ss H3 F3
    rw [List.length_map, ql] at F3
    have sl := F3.len
    have s13 := F2.same.trans F3.same
    have o3 := F3.same _ _ F2.out
    refine slL_rd (SqL.of o3) (fun z4 H4 f4 s4 h4 => ?_)
    rw [cut_init, List.length_map, ql, show n + 1 - 1 = n by walk_at "om"] at h4
    have o4 := s4 _ _ o3
    obtain ⟨r, er⟩ : ∃ r, qs[n]? = some r := ⟨_, List.getElem?_eq_getElem (by walk_at "om")⟩
    refine ixL_rd (v := .ref r) o4 (at_last (n := n) (by rw [List.length_map, ql]) (by rw [List.getElem?_map, er]; rfl)) ?_
    have hr3 := F3.same _ _ (F2.row n r er).2
    refine newL_rd (fun z5 H5 f5 s5 h5 => ?_)
    have rl : (rowI m g n).length = m + 1 := by unfold rowI; rw [List.length_map, List.length_range]
    have rl' : ∀ i, (rowI m g i).length = m + 1 := fun i => by unfold rowI; rw [List.length_map, List.length_range]
    refine cat_rd (s5 _ _ (s4 _ _ hr3)) h5 (by rw [List.length_map, rl, List.length_singleton, sizeLine_eq]; omega) (fun z6 H6 f6 s6 h6 => ?_)
    have h6 : H6 z6 = some (.lst ((rowI m g n ++ [0]).map V.int)) := by rw [h6, List.map_append]; rfl
    refine newL_rd (fun z7 H7 f7 s7 h7 => ?_)
    have s47 := (s5.trans s6).trans s7
    refine cat_rd (s47 _ _ h4) h7 (by rw [List.length_take, List.length_map, ql, List.length_singleton, sizeLine_eq]; omega) (fun lo H8 f8 s8 h8 => ?_)
    have s38 := s4.trans (s47.trans s8)
    have o8 := s38 _ _ o3
    refine slL_rd (SqL.of o8) (fun z9 H9 f9 s9 h9 => ?_)
    rw [cut_drop (by decide)] at h9
    refine newT_rd (fun t1 Ha fa sa ha => ?_)
    have o10 := sa _ _ (s9 _ _ o8)
    refine slL_rd (SqL.of o10) (fun zb Hb fb sb hb' => ?_)
    rw [cut_takeV (by decide)] at hb'
    refine cat_rd (sb _ _ o10) hb' (by rw [List.length_map, List.length_take, List.length_map, ql, sizeLine_eq]; omega) (fun zc Hc fc sc hc => ?_)
    refine newT_rd (fun t2 Hd fd' sd hd => ?_)
    refine newT_rd (fun t3 He fe se he => ?_)
    refine newT_rd (fun t4 Hf ff sf hf => ?_)
    refine newL_rd (fun bd Hg fg sg hg => ?_)
    refine newT_rd (fun t5 Hh fh sh' hh => ?_)
    refine newL_rd (fun z10 Hi fi si hi => ?_)
    refine cat_rd (si _ _ (sh' _ _ hg)) hi (by rw [sizeLine_eq]; simp) (fun z11 Hj fj sj hj => ?_)
    have yI := si.trans sj
    have yH := sh'.trans yI
    have yG := sg.trans yH
    have yF := sf.trans yG
    have yE := se.trans yF
    have yD := sd.trans yE
    have yC := sc.trans yD
    have yB := sb.trans yC
    have yA := sa.trans yB
    have y9 := s9.trans yA
    have y8 := s8.trans y9
    have y3 : Same H3 Hj := s38.trans y9
    have s1j : Same H1 Hj := s13.trans y3
    refine ixAny_rd hj (by walk_at "om") (by simp only [List.length_append, List.length_cons, List.length_nil]; omega) ?_
    intro sv hsv
    walk_at "wh"
    -- nothing of it is the purse
    have nP : ∀ {J : Hp} {z : Addr}, Same H1 J → J z = none → z ≠ p ∧ z ≠ c := fun s f => ⟨(P1.same s).neP f, (P1.same s).neC f⟩
    have bI : ∀ i, i ≤ n → ∀ z ∈ rowI m g i, Sml z := fun i hi z hz => by
      obtain ⟨y, hy, rfl⟩ := List.mem_map.mp hz
      exact sm i y hi (by have := List.mem_range.mp hy; omega)
    let es : List PyData := (List.range (n + 1)).map fun i => .list ((rowI m g i).map PyData.int)
    have esl : es.length = n + 1 := by show ((List.range (n + 1)).map _).length = _; rw [List.length_map, List.length_range]
    have esok : ∀ d ∈ es, okD 3 d ∧ Shows d 1 23100 := fun d hd => by
      obtain ⟨i, hi, rfl⟩ := List.mem_map.mp hd
      exact rowOk (by rw [rl']; omega) (bI i (by have := List.mem_range.mp hi; omega))
    have lR : ShL (rr p c Hj) (qs.map V.ref) es := ShL.idx (by rw [List.length_map, ql, esl]) fun i x d g1 g2 => by
      rw [List.getElem?_map] at g1
      obtain ⟨r', er', rfl⟩ := Option.map_eq_some_iff.mp g1
      have hi : i < n + 1 := by have := (List.getElem?_eq_some_iff.mp er').1; omega
      have g2 : ((List.range (n + 1)).map fun i => PyData.list ((rowI m g i).map PyData.int))[i]? = some d := g2
      rw [List.getElem?_map, List.getElem?_range hi] at g2
      cases g2
      obtain ⟨x1, x2⟩ := F2.row i r' er'
      exact intsS (rr_at (nP (Same.refl _) x1).1 (nP (Same.refl _) x1).2 (y3 _ _ (F3.same _ _ x2)))
    have nac := nP (Same.refl _) F2.facc
    have wT : PyData.strOk ("table" : Str) = true := by decide +kernel
    have wTr : (reprText ("table" : Str)).length ≤ 100 := by decide +kernel
    simp only [List.mem_append, List.mem_cons, List.not_mem_nil, or_false] at hsv
    rcases hsv with (rfl | rfl | rfl | rfl) | rfl
    · have n1 := nP (s13.trans (s38.trans s9)) fa
      have n2 := nP (s13.trans s38) f9
      exact done s1j (badTab (rr_at n1.1 n1.2 (yB _ _ ha)) (rr_at n2.1 n2.2 (yA _ _ h9)) (shl_drop lR 1) wT wTr (by rw [List.length_drop]; omega) (fun d hd => esok d (List.mem_of_mem_drop hd)) (tab_len (by rw [List.length_drop]; omega)))
    · have u1 := s13.trans (s38.trans (s9.trans (sa.trans sb)))
      have n1 := nP (u1.trans sc) fd'
      have n2 := nP u1 fc
      exact done s1j (badTab (es := es ++ es.take 1) (rr_at n1.1 n1.2 (yE _ _ hd)) (rr_at n2.1 n2.2 (yD _ _ hc)) (shl_app lR (shl_take lR 1)) wT wTr (by rw [List.length_append, List.length_take]; omega) (fun d hd => by
        rcases List.mem_append.mp hd with hd | hd
        · exact esok d hd
        · exact esok d (List.mem_of_mem_take hd)) (tab_len (by rw [List.length_append, List.length_take]; omega)))
    · have u1 := s13.trans (s38.trans (s9.trans (sa.trans (sb.trans (sc.trans sd)))))
      have n1 := nP u1 fe
      have n2 := nP F2.same F3.facc
      refine done s1j (badTab (es := (List.range (n + 1)).map fun i => .list (((rowI m g i).drop 1).map PyData.int)) (rr_at n1.1 n1.2 (yF _ _ he)) (rr_at n2.1 n2.2 (y3 _ _ F3.out)) (ShL.idx (by rw [List.length_map, List.length_map, List.length_range, sl]) fun i x d g1 g2 => ?_) wT wTr (by rw [List.length_map, List.length_range]; omega) (fun d hd => ?_) (tab_row (zs := (rowI m g 0).drop 1) (List.mem_map.mpr ⟨0, List.mem_range.mpr (by walk_at "om"), rfl⟩) (by rw [List.length_drop, rl']; omega)))
      · rw [List.getElem?_map] at g1 g2
        obtain ⟨r', er', rfl⟩ := Option.map_eq_some_iff.mp g1
        have hi : i < n + 1 := by have := (List.getElem?_eq_some_iff.mp er').1; omega
        rw [List.getElem?_range hi] at g2
        cases g2
        obtain ⟨x1, x2⟩ := F3.row i r' er'
        have nn := nP F2.same x1
        exact intsS (rr_at nn.1 nn.2 (y3 _ _ x2))
      · obtain ⟨i, hi, rfl⟩ := List.mem_map.mp hd
        exact rowOk (by rw [List.length_drop, rl']; omega) fun z hz => bI i (by have := List.mem_range.mp hi; omega) z (List.mem_of_mem_drop hz)
    · have u1 := s13.trans (s38.trans (s9.trans (sa.trans (sb.trans (sc.trans (sd.trans se))))))
      have n1 := nP u1 ff
      have n2 := nP (s13.trans (s4.trans s47)) f8
      have n6 := nP (s13.trans (s4.trans s5)) f6
      have y6 : Same H6 Hj := s7.trans y8
      refine done s1j (badTab (es := es.take n ++ [.list ((rowI m g n ++ [0]).map PyData.int)]) (rr_at n1.1 n1.2 (yG _ _ hf)) (rr_at n2.1 n2.2 (y9 _ _ h8)) (shl_app (shl_take lR n) (.cons (intsS (rr_at n6.1 n6.2 (y6 _ _ h6))) .nil)) wT wTr (by rw [List.length_append, List.length_take, List.length_singleton]; omega) (fun d hd => ?_) (tab_row (zs := rowI m g n ++ [0]) (List.mem_append_right _ (.head _)) (by rw [List.length_append, rl, List.length_singleton]; omega)))
      rcases List.mem_append.mp hd with hd | hd
      · exact esok d (List.mem_of_mem_take hd)
      · rw [List.mem_singleton.mp hd]
        refine rowOk (by rw [List.length_append, rl, List.length_singleton]; omega) fun z hz => ?_
        rcases List.mem_append.mp hz with hz | hz
        · exact bI n (Nat.le_refl _) z hz
        · rw [List.mem_singleton.mp hz]; exact ⟨by decide, by decide⟩
    · have u1 := s13.trans (s38.trans (s9.trans (sa.trans (sb.trans (sc.trans (sd.trans (se.trans (sf.trans sg))))))))
      have n1 := nP u1 fh
      exact done s1j (badTab (w := "odd") (es := es) (rr_at n1.1 n1.2 (yI _ _ hh)) (rr_at nac.1 nac.2 (y3 _ _ o3)) lR (by decide +kernel) (by decide +kernel) (by rw [esl]; omega) esok (by
        show (decide (("odd" : Str) = "table") && tabD ((n : Int) + 1) ((m : Int) + 1) (.list es)) = false
        rw [decide_eq_false (by decide)]; rfl))
  | lead w t =>
    have e := (rr_of (show rr p c H1 q = some (.tup [.str "lead", .int w, .int t]) from F1)).2.2
    have okw : 1 ≤ w := ok
    obtain ⟨sw, st⟩ : Sml w ∧ Sml t := sm
    refine ixT_rd (v := .str "lead") e rfl ?_
    refine br_dF (by decide) ?_
    refine unpT_rd e ?_
    refine newT_rd (fun t1 Ha fa sa ha => ?_)
    refine newT_rd (fun t2 Hb fb sb hb' => ?_)
    refine newT_rd (fun t3 Hc fc sc hc => ?_)
    refine newT_rd (fun t4 Hd fd' sd hd => ?_)
    refine newL_rd (fun bd He fe se he => ?_)
    walk_at "wh"
    refine ⟨by decide +kernel, ?_⟩
    refine newT_rd (fun t5 Hf ff sf hf => ?_)
    refine newL_rd (fun z6 Hg fg sg hg => ?_)
    refine cat_rd (sg _ _ (sf _ _ he)) hg (by rw [sizeLine_eq]; simp) (fun z7 Hh fh sh hh => ?_)
    have yG := sg.trans sh
    have yF := sf.trans yG
    have yE := se.trans yF
    have yD := sd.trans yE
    have yC := sc.trans yD
    have yB := sb.trans yC
    have yA := sa.trans yB
    refine ixAny_rd hh (by walk_at "om") (by simp only [List.length_append, List.length_cons, List.length_nil]; omega) ?_
    intro sv hsv
    walk_at "wh"
    have nP : ∀ {J : Hp} {z : Addr}, Same H1 J → J z = none → z ≠ p ∧ z ≠ c := fun s f => ⟨(P1.same s).neP f, (P1.same s).neC f⟩
    have wm : PyData.strOk ("more" : Str) = true ∧ (reprText ("more" : Str)).length ≤ 100 := ⟨by decide +kernel, by decide +kernel⟩
    have ww : PyData.strOk ("lead" : Str) = true ∧ (reprText ("lead" : Str)).length ≤ 100 := ⟨by decide +kernel, by decide +kernel⟩
    have no0 : ∀ {x : Str} {i j : Int}, i < 1 → fieldL n m x [.int i, .int j] = false := fun {x i j} hi => by
      show ((decide (x = "more") && (decide ((1 : Int) ≤ i) && decide (-i ≤ j ∧ j ≤ i))) || (decide (x = "lead") && (decide ((1 : Int) ≤ i) && true))) = false
      rw [decide_eq_false (show ¬ (1 : Int) ≤ i by walk_at "om")]; simp
    have noM : ∀ {i j : Int}, ¬ (-i ≤ j ∧ j ≤ i) → fieldL n m "more" [.int i, .int j] = false := fun {i j} hi => by
      show ((decide (("more" : Str) = "more") && (decide ((1 : Int) ≤ i) && decide (-i ≤ j ∧ j ≤ i))) || (decide (("more" : Str) = "lead") && (decide ((1 : Int) ≤ i) && true))) = false
      rw [decide_eq_false hi, decide_eq_false (show ¬ ("more" : Str) = "lead" by decide)]; simp
    have noU : ∀ {i j : Int}, fieldL n m (Txt.upper "lead") [.int i, .int j] = false := fun {i j} => by
      show ((decide ((Txt.upper "lead") = "more") && (decide ((1 : Int) ≤ i) && decide (-i ≤ j ∧ j ≤ i))) || (decide ((Txt.upper "lead") = "lead") && (decide ((1 : Int) ≤ i) && true))) = false
      rw [decide_eq_false (show ¬ (Txt.upper "lead") = "more" by decide +kernel), decide_eq_false (show ¬ (Txt.upper "lead") = "lead" by decide +kernel)]; rfl
    simp only [List.mem_append, List.mem_cons, List.not_mem_nil, or_false] at hsv
    rcases hsv with (rfl | rfl | rfl | rfl) | rfl
    · have n1 := nP (Same.refl _) fa
      exact done yA (badTwo (rr_at n1.1 n1.2 (yB _ _ ha)) ww.1 ww.2 (by walk_at "om") (by walk_at "om") (no0 (by walk_at "om")))
    · have n1 := nP sa fb
      exact done yA (badTwo (rr_at n1.1 n1.2 (yC _ _ hb')) ww.1 ww.2 (by walk_at "om") (by walk_at "om") (no0 (by walk_at "om")))
    · have n1 := nP (sa.trans sb) fc
      exact done yA (badTwo (rr_at n1.1 n1.2 (yD _ _ hc)) wm.1 wm.2 (by walk_at "om") (by walk_at "om") (noM (by walk_at "om")))
    · have n1 := nP (sa.trans (sb.trans sc)) fd'
      exact done yA (badTwo (rr_at n1.1 n1.2 (yE _ _ hd)) wm.1 wm.2 (by walk_at "om") (by walk_at "om") (noM (by walk_at "om")))
    · have n1 := nP (sa.trans (sb.trans (sc.trans (sd.trans se)))) ff
      exact done yA (badTwo (rr_at n1.1 n1.2 (yG _ _ hf)) (by decide +kernel) (by decide +kernel) (by walk_at "om") (by walk_at "om") noU)
  | more w t =>
    have e := (rr_of (show rr p c H1 q = some (.tup [.str "more", .int w, .int t]) from F1)).2.2
    obtain ⟨okw, ok2, ok3⟩ : 1 ≤ w ∧ -w ≤ t ∧ t ≤ w := ok
    obtain ⟨sw, st⟩ : Sml w ∧ Sml t := sm
    refine ixT_rd (v := .str "more") e rfl ?_
    refine br_dF (by decide) ?_
    refine unpT_rd e ?_
    refine newT_rd (fun t1 Ha fa sa ha => ?_)
    refine newT_rd (fun t2 Hb fb sb hb' => ?_)
    refine newT_rd (fun t3 Hc fc sc hc => ?_)
    refine newT_rd (fun t4 Hd fd' sd hd => ?_)
    refine newL_rd (fun bd He fe se he => ?_)
    walk_at "wh"
    refine ⟨by decide +kernel, ?_⟩
    refine newT_rd (fun t5 Hf ff sf hf => ?_)
    refine newL_rd (fun z6 Hg fg sg hg => ?_)
    refine cat_rd (sg _ _ (sf _ _ he)) hg (by rw [sizeLine_eq]; simp) (fun z7 Hh fh sh hh => ?_)
    have yG := sg.trans sh
    have yF := sf.trans yG
    have yE := se.trans yF
    have yD := sd.trans yE
    have yC := sc.trans yD
    have yB := sb.trans yC
    have yA := sa.trans yB
    refine ixAny_rd hh (by walk_at "om") (by simp only [List.length_append, List.length_cons, List.length_nil]; omega) ?_
    intro sv hsv
    walk_at "wh"
    have nP : ∀ {J : Hp} {z : Addr}, Same H1 J → J z = none → z ≠ p ∧ z ≠ c := fun s f => ⟨(P1.same s).neP f, (P1.same s).neC f⟩
    have wm : PyData.strOk ("more" : Str) = true ∧ (reprText ("more" : Str)).length ≤ 100 := ⟨by decide +kernel, by decide +kernel⟩
    have ww : PyData.strOk ("more" : Str) = true ∧ (reprText ("more" : Str)).length ≤ 100 := ⟨by decide +kernel, by decide +kernel⟩
    have no0 : ∀ {x : Str} {i j : Int}, i < 1 → fieldL n m x [.int i, .int j] = false := fun {x i j} hi => by
      show ((decide (x = "more") && (decide ((1 : Int) ≤ i) && decide (-i ≤ j ∧ j ≤ i))) || (decide (x = "lead") && (decide ((1 : Int) ≤ i) && true))) = false
      rw [decide_eq_false (show ¬ (1 : Int) ≤ i by walk_at "om")]; simp
    have noM : ∀ {i j : Int}, ¬ (-i ≤ j ∧ j ≤ i) → fieldL n m "more" [.int i, .int j] = false := fun {i j} hi => by
      show ((decide (("more" : Str) = "more") && (decide ((1 : Int) ≤ i) && decide (-i ≤ j ∧ j ≤ i))) || (decide (("more" : Str) = "lead") && (decide ((1 : Int) ≤ i) && true))) = false
      rw [decide_eq_false hi, decide_eq_false (show ¬ ("more" : Str) = "lead" by decide)]; simp
    have noU : ∀ {i j : Int}, fieldL n m (Txt.upper "more") [.int i, .int j] = false := fun {i j} => by
      show ((decide ((Txt.upper "more") = "more") && (decide ((1 : Int) ≤ i) && decide (-i ≤ j ∧ j ≤ i))) || (decide ((Txt.upper "more") = "lead") && (decide ((1 : Int) ≤ i) && true))) = false
      rw [decide_eq_false (show ¬ (Txt.upper "more") = "more" by decide +kernel), decide_eq_false (show ¬ (Txt.upper "more") = "lead" by decide +kernel)]; rfl
    simp only [List.mem_append, List.mem_cons, List.not_mem_nil, or_false] at hsv
    rcases hsv with (rfl | rfl | rfl | rfl) | rfl
    · have n1 := nP (Same.refl _) fa
      exact done yA (badTwo (rr_at n1.1 n1.2 (yB _ _ ha)) ww.1 ww.2 (by walk_at "om") (by walk_at "om") (no0 (by walk_at "om")))
    · have n1 := nP sa fb
      exact done yA (badTwo (rr_at n1.1 n1.2 (yC _ _ hb')) ww.1 ww.2 (by walk_at "om") (by walk_at "om") (no0 (by walk_at "om")))
    · have n1 := nP (sa.trans sb) fc
      exact done yA (badTwo (rr_at n1.1 n1.2 (yD _ _ hc)) wm.1 wm.2 (by walk_at "om") (by walk_at "om") (noM (by walk_at "om")))
    · have n1 := nP (sa.trans (sb.trans sc)) fd'
      exact done yA (badTwo (rr_at n1.1 n1.2 (yE _ _ hd)) wm.1 wm.2 (by walk_at "om") (by walk_at "om") (noM (by walk_at "om")))
    · have n1 := nP (sa.trans (sb.trans (sc.trans (sd.trans se)))) ff
      exact done yA (badTwo (rr_at n1.1 n1.2 (yG _ _ hf)) (by decide +kernel) (by decide +kernel) (by walk_at "om") (by walk_at "om") noU)
-- @@split
/-! ### battles that are none -/
structure BfAt (H : Hp) (b l : Addr) (ps : List Addr) (n m : Nat) (fs : List Fd) : Prop where
  out : H b = some (.tup [.int n, .int m, .ref l])
  lst : H l = some (.lst (ps.map V.ref))
  len : ps.length = fs.length
  fld : ∀ (i : Nat) p f, ps[i]? = some p → fs[i]? = some f → FdAt H p n m f
  ok : ∀ f ∈ fs, f.Ok ∧ f.Sq n m
theorem BfAt.same {H H' : Hp} {b l : Addr} {ps : List Addr} {n m : Nat} {fs : List Fd} (B : BfAt H b l ps n m fs) (s : Same H H') : BfAt H' b l ps n m fs := ⟨s _ _ B.out, s _ _ B.lst, B.len, fun i p f e1 e2 => (B.fld i p f e1 e2).same s, B.ok⟩
theorem fdDat_sw {n m : Nat} (hn : n ≤ 10) (hm : m ≤ 10) {f : Fd} (h : f.Sq n m) : Shows (fdDat n m f) 3 465520 := by
  cases f with
  | more w t =>
    obtain ⟨h1, h2⟩ : Sml w ∧ Sml t := h
    exact (Shows.three ((Shows.str (x := "more") (m := 100) (by decide +kernel)).up (k' := 2) (by walk_at "om") (Nat.le_refl _)) (shows_i (by walk_at "om") 2) (shows_i (by walk_at "om") 2)).up (by walk_at "om") (by walk_at "om")
  | lead w t =>
    obtain ⟨h1, h2⟩ : Sml w ∧ Sml t := h
    exact (Shows.three ((Shows.str (x := "lead") (m := 100) (by decide +kernel)).up (k' := 2) (by walk_at "om") (Nat.le_refl _)) (shows_i (by walk_at "om") 2) (shows_i (by walk_at "om") 2)).up (by walk_at "om") (by walk_at "om")
  | tab g =>
    have h : ∀ x y, x ≤ n → y ≤ m → Sml (g x y) := h
    refine (Shows.tuple (k := 2) (m := 232755) fun d hd => ?_).up (by walk_at "om") (by simp)
    simp only [List.mem_cons, List.not_mem_nil, or_false] at hd
    rcases hd with rfl | rfl
    · exact (Shows.str (x := "table") (m := 100) (by decide +kernel)).up (by walk_at "om") (by walk_at "om")
    · refine (Shows.list (k := 1) (m := 21157) fun d hd => ?_).up (by walk_at "om") (by rw [List.length_map, List.length_range]; omega)
      obtain ⟨x, hx, rfl⟩ := List.mem_map.mp hd
      have hx := List.mem_range.mp hx
      refine (Shows.list (k := 0) (m := 1921) fun d hd => ?_).up (by walk_at "om") (by rw [List.length_map, List.length_range]; omega)
      obtain ⟨y, hy, rfl⟩ := List.mem_map.mp hd
      have hy := List.mem_range.mp hy
      have := h x y (by walk_at "om") (by walk_at "om")
      exact shows_i (by walk_at "om") 0
/-- a battle that is none, and where -/
structure NoB (H : Hp) (v : V) (k : Int) : Prop where
  ex : ∃ (b l : Addr) (xs : List V) (a c : Int) (ds : List PyData), v = .ref b ∧ BatD H b l xs a c ds ∧ dueD a c ds = some k ∧ Shows (.tuple [.int a, .int c, .list ds]) 20 16000000
theorem NoB.same {H H' : Hp} {v : V} {k : Int} (h : NoB H v k) (s : Same H H') : NoB H' v k := by
  obtain ⟨b, l, xs, a, c, ds, e, B, d, w⟩ := h.ex
  exact ⟨⟨b, l, xs, a, c, ds, e, B.same s, d, w⟩⟩
theorem fl_shl {H : Hp} {ps : List Addr} {n m : Nat} {fs : List Fd} (hl : ps.length = fs.length) (h : ∀ (i : Nat) p f, ps[i]? = some p → fs[i]? = some f → FdAt H p n m f) : ShL H (ps.map V.ref) (fs.map (fdDat n m)) := ShL.idx (by rw [List.length_map, List.length_map, hl]) fun i x d e1 e2 => by
  rw [List.getElem?_map] at e1 e2
  obtain ⟨p, ep, rfl⟩ := Option.map_eq_some_iff.mp e1
  obtain ⟨f, ef, rfl⟩ := Option.map_eq_some_iff.mp e2
  exact (h i p f ep ef).dat
theorem due_size {a c : Int} {ds : List PyData} (h : ¬ Sz a c ds.length) : dueD a c ds = some (-1) := by unfold dueD; rw [if_neg h]
theorem due_at {a c : Int} {ds : List PyData} {j : Nat} {d : PyData} (sz : Sz a c ds.length) (e : ds[j]? = some d) (bad : fieldD a c d = false) (good : ∀ x ∈ ds.take j, fieldD a c x = true) : dueD a c ds = some (j : Int) := by
  unfold dueD
  rw [if_pos sz, fstBad_at e bad good, Nat.zero_add]; rfl
theorem bat_sw {a c : Int} {ds : List PyData} (ha : -(10 ^ 41) ≤ a ∧ a ≤ 10 ^ 41) (hc : -(10 ^ 41) ≤ c ∧ c ≤ 10 ^ 41) (hl : ds.length ≤ 30) (h : ∀ d ∈ ds, Shows d 3 465520) : Shows (.tuple [.int a, .int c, .list ds]) 20 16000000 :=
  (Shows.three (shows_i ha 4) (shows_i hc 4) (Shows.list h)).up (by walk_at "om") (by walk_at "om")
theorem bat_sw6 {a c : Int} {ds : List PyData} (ha : -(10 ^ 41) ≤ a ∧ a ≤ 10 ^ 41) (hc : -(10 ^ 41) ≤ c ∧ c ≤ 10 ^ 41) (hl : ds.length ≤ 6) (h : ∀ d ∈ ds, Shows d 3 600000) : Shows (.tuple [.int a, .int c, .list ds]) 20 16000000 :=
  (Shows.three (shows_i ha 4) (shows_i hc 4) (Shows.list h)).up (by walk_at "om") (by walk_at "om")
theorem rep_mem {n : Nat} {xs : List V} {x : V} (h : x ∈ (List.replicate n xs).flatten) : x ∈ xs := by
  obtain ⟨l, hl, hx⟩ := List.mem_flatten.mp h
  rw [List.eq_of_mem_replicate hl] at hx
  exact hx
theorem rep_len (n : Nat) (xs : List V) : (List.replicate n xs).flatten.length = n * xs.length := by
  induction n with
  | zero => simp
  | succ n ih => rw [List.replicate_succ, List.flatten_cons, List.length_append, ih, Nat.succ_mul]; omega
@[irreducible] def sp__law_no_battle : Sp := fun vs H Q _ => ∃ (p c b l : Addr) (k : Int) (ps : List Addr) (n m : Nat) (fs : List Fd), vs = [.ref p, .ref b] ∧ PurseAt H p c k ∧ k ≤ 90000 ∧ BfAt (rr p c H) b l ps n m fs ∧ (n ≤ 10 ∧ m ≤ 10) ∧ (1 ≤ fs.length ∧ fs.length ≤ 5) ∧ ∀ t v j H', Chg2 p c H H' → PurseAt H' p c (k + 10) → H' t = some (.tup [v, .int j]) → NoB (rr p c H') v j → Q (.ref t) H'
theorem no_battle_rd {H : Hp} {p c b l : Addr} {k : Int} {ps : List Addr} {n m : Nat} {fs : List Fd} {Q : VK} {E : XK} (hP : PurseAt H p c k) (hk : k ≤ 90000) (B : BfAt (rr p c H) b l ps n m fs) (hn : n ≤ 10) (hm : m ≤ 10) (hl : 1 ≤ fs.length ∧ fs.length ≤ 5) (q : ∀ t v j H', Chg2 p c H H' → PurseAt H' p c (k + 10) → H' t = some (.tup [v, .int j]) → NoB (rr p c H') v j → Q (.ref t) H') : sp__law_no_battle [.ref p, .ref b] H Q E := by unfold sp__law_no_battle; exact ⟨p, c, b, l, k, ps, n, m, fs, rfl, hP, hk, B, ⟨hn, hm⟩, hl, q⟩
set_option maxHeartbeats 0 in
theorem ok__law_no_battle {f : Addr} {fd : FuncData} (F : Fun K "_law_no_battle" "_law_no_battle" s__law_no_battle f fd) (N : Nm mg) (D__law_draw : Def P w K mg base CX0 1 "_law_draw" ["_law_purse_here", "_law_out_of"] sp__law_draw) (D__law_no_field : Def P w K mg base CX0 2 "_law_no_field" ["_law_purse_here", "_law_field_here"] sp__law_no_field) : FnOk P w K mg base CX0 3 f fd ["_law_purse_here", "_law_battle"] sp__law_no_battle := by
  refine F.ok sc__law_no_battle (fun vs H Q E h => by unfold sp__law_no_battle at h; obtain ⟨_, _, _, _, _, _, _, _, _, rfl, _⟩ := h; rfl) (fun cdv A outer s H vs Q E hr h => ?_)
  unfold sp__law_no_battle at h
  obtain ⟨p, c, b, l, k, ps, n, m, fs, rfl, hP, hk, B0, ⟨hn, hm⟩, ⟨fl1, fl2⟩, q⟩ := h
  have hu := hu40 hr
  have bl := B0.len
  refine ⟨_, (pss_cons (ps_asg (pq 1) (pgAnyK (K := K) (n := 3) rfl rfl (pgsCons (pg_name (i := 2) sc__law_no_battle.nd rfl (by first | exact Or.inl rfl | exact Or.inr rfl)) (pgsCons (pg_name (i := 3) sc__law_no_battle.nd rfl (by first | exact Or.inl rfl | exact Or.inr rfl)) (pgsCons (pg_name (i := 4) sc__law_no_battle.nd rfl (by first | exact Or.inl rfl | exact Or.inr rfl)) pgsNil)))))
      (pss_cons (psS (i := 5) sc__law_no_battle.nd (pD D__law_draw hr pass0 (pa_cons (pq 0) (pa_cons pe_int pa_nil))))
      (pss_cons (psIfI (ptC (oLtX (by exact hu)) (pq 5) pe_int) (pssI_one (psI_ret (peITup (paI_cons (peI_ixK (K := K) rfl (peILst (paI_cons (peITup (paI_cons (peI_un uNeg peI_int) (paI_cons (peI_of (pq 3)) (paI_cons (peI_of (pq 4)) paI_nil)) st_UnaryOp)) (paI_cons (peITup (paI_cons peI_int (paI_cons (peI_of (pq 3)) (paI_cons (peI_of (pq 4)) paI_nil)) st_Constant)) (paI_cons (peITup (paI_cons (peI_of (pq 2)) (paI_cons (peI_un uNeg peI_int) (paI_cons (peI_of (pq 4)) paI_nil) st_UnaryOp))) (paI_cons (peITup (paI_cons (peI_of (pq 2)) (paI_cons peI_int (paI_cons (peI_of (pq 4)) paI_nil) st_Constant))) paI_nil st_Tuple) st_Tuple) st_Tuple) st_Tuple)) (peI_of (pq 5))) (paI_cons (peI_un uNeg peI_int) paI_nil st_UnaryOp))))) pssI_nil)
      (pss_cons (psIfI (ptC (oLtX (by exact hu)) (pq 5) pe_int) (pssI_one (psI_ret (peITup (paI_cons (peITup (paI_cons (peI_of (pq 2)) (paI_cons (peI_of (pq 3)) (paI_cons (peI_ixK (K := K) rfl (peILst (paI_cons (peILst paI_nil) (paI_cons (peI_op oMul (peI_of (pq 4)) peI_int) paI_nil) st_List)) (peI_op oSub (peI_of (pq 5)) peI_int)) paI_nil)))) (paI_cons (peI_un uNeg peI_int) paI_nil st_UnaryOp) st_Tuple)))) pssI_nil)
      (pss_cons (psS (i := 6) sc__law_no_battle.nd (pD D__law_draw hr pass0 (pa_cons (pq 0) (pa_cons (pB (cLenK (K := K) rfl) N.len_ bt_len (pa_cons (pq 4) pa_nil)) pa_nil))))
      (pss_one (ps_ret (peTup (pa_cons (peTup (pa_cons (pq 2) (pa_cons (pq 3) (pa_cons (pe_op oAdd (pe_op oAdd (pe_slice (slXK (K := K) rfl) (pq 4) po_none (poSome (pq 6))) (peLst (pa_cons (pD D__law_no_field hr pass0 (pa_cons (pq 0) (pa_cons (peIxK (K := K) rfl (pq 4) (pq 6)) pa_nil))) pa_nil))) (pe_slice (slXK (K := K) rfl) (pq 4) (poSome (pe_op oAdd (pq 6) pe_int)) po_none)) pa_nil)))) (pa_cons (pq 6) pa_nil)))))))))), ?_⟩
  refine unpT_rd (rr_of B0.out).2.2 ?_
  refine draw_rd hP (by walk_at "om") (by walk_at "om") (by walk_at "om") (fun wy H1 w0 w1 c1 P1 => ?_)
  have B1 := B0.same (Chg2.rr c1)
  have nb := (rr_of B1.out)
  have nl := (rr_of B1.lst)
  have okF : ∀ f ∈ fs, okD 5 (fdDat n m f) := fun f _ => fdDat_ok (by walk_at "om") (by walk_at "om") f
  have dsok : ∀ d ∈ fs.map (fdDat n m), FldS d ∧ okD 5 d := fun d hd => by
    obtain ⟨f, hf, rfl⟩ := List.mem_map.mp hd
    exact ⟨fdDat_S n m f, okF f hf⟩
  have dssw : ∀ d ∈ fs.map (fdDat n m), Shows d 3 465520 := fun d hd => by
    obtain ⟨f, hf, rfl⟩ := List.mem_map.mp hd
    exact fdDat_sw hn hm (B1.ok f hf).2
  refine br_dec (fun g0 => ?_) (fun g0 => ?_)
  · walk_at "wh"
    refine newT_rd (fun t1 Ha fa sa ha => ?_)
    refine newT_rd (fun t2 Hb fb sb hb' => ?_)
    refine newT_rd (fun t3 Hc fc sc hc => ?_)
    refine newT_rd (fun t4 Hd fd' sd hd => ?_)
    refine newL_rd (fun z5 He fe se he => ?_)
    refine ixAny_rd he (by walk_at "om") (by simp only [List.length_cons, List.length_nil]; omega) ?_
    intro sv hsv
    refine newT_rd (fun t6 Hf ff sf hf => ?_)
    walk_at "wh"
    have yE := se.trans sf
    have yD := sd.trans yE
    have yC := sc.trans yD
    have yB := sb.trans yC
    have yA := sa.trans yB
    have P6 := P1.same yA
    have one : ∀ {r : Addr} {x y : Int}, (r ≠ p ∧ r ≠ c) → Hf r = some (.tup [.int x, .int y, .ref l]) → ((-(10 ^ 41) ≤ x ∧ x ≤ 10 ^ 41) ∧ -(10 ^ 41) ≤ y ∧ y ≤ 10 ^ 41) → ¬ ((0 ≤ x ∧ x ≤ 10) ∧ 0 ≤ y ∧ y ≤ 10) → NoB (rr p c Hf) (.ref r) (-1) := fun {r x y} nr er hxy bad => ⟨⟨r, l, _, x, y, _, rfl, ⟨rr_at nr.1 nr.2 er, (B1.same (Same.rr yA)).lst, fl_shl bl ((B1.same (Same.rr yA)).fld), dsok, by rw [List.length_map]; omega⟩, due_size (fun z => bad z.1), bat_sw hxy.1 hxy.2 (by rw [List.length_map]; omega) dssw⟩⟩
    have nP : ∀ {J : Hp} {z : Addr}, Same H1 J → J z = none → z ≠ p ∧ z ≠ c := fun s f => ⟨(P1.same s).neP f, (P1.same s).neC f⟩
    refine q t6 sv (-1) Hf (c1.same yA) (P6.up (by walk_at "om")) hf ?_
    simp only [List.mem_cons, List.not_mem_nil, or_false] at hsv
    rcases hsv with rfl | rfl | rfl | rfl
    · exact one (nP (Same.refl _) fa) (yB _ _ ha) (by walk_at "om") (by walk_at "om")
    · exact one (nP sa fb) (yC _ _ hb') (by walk_at "om") (by walk_at "om")
    · exact one (nP (sa.trans sb) fc) (yD _ _ hc) (by walk_at "om") (by walk_at "om")
    · exact one (nP (sa.trans (sb.trans sc)) fd') (yE _ _ hd) (by walk_at "om") (by walk_at "om")
  refine br_dec (fun g1 => ?_) (fun g1 => ?_)
  · walk_at "wh"
    refine newL_rd (fun z2 Ha fa sa ha => ?_)
    refine rep_rd (sa _ _ nl.2.2) (by decide) (by decide) (by rw [List.length_map, sizeLine_eq, show (6 : Int).toNat = 6 from rfl]; omega) (fun z3 Hb fb sb hb' => ?_)
    refine newL_rd (fun z4 Hc fc sc hc => ?_)
    refine ixAny_rd hc (by walk_at "om") (by simp only [List.length_cons, List.length_nil]; omega) ?_
    intro sv hsv
    refine newT_rd (fun t5 Hd fd' sd hd => ?_)
    refine newT_rd (fun t6 He fe se he => ?_)
    walk_at "wh"
    have yD := sd.trans se
    have yC := sc.trans yD
    have yB := sb.trans yC
    have yA := sa.trans yB
    have P6 := P1.same yA
    have nP : ∀ {J : Hp} {z : Addr}, Same H1 J → J z = none → z ≠ p ∧ z ≠ c := fun s f => ⟨(P1.same s).neP f, (P1.same s).neC f⟩
    have n5 := nP (sa.trans (sb.trans sc)) fd'
    have B6 := B1.same (Same.rr yA)
    have n2 := nP (Same.refl _) fa
    have n3 := nP sa fb
    refine q t6 (.ref t5) (-1) He (c1.same yA) (P6.up (by walk_at "om")) he ?_
    simp only [List.mem_cons, List.not_mem_nil, or_false] at hsv
    rcases hsv with rfl | rfl
    · exact ⟨⟨t5, z2, [], n, m, [], rfl, ⟨rr_at n5.1 n5.2 (se _ _ hd), rr_at n2.1 n2.2 (yB _ _ ha), .nil, (fun d hd => by (cases hd)), by simp⟩, due_size (fun z => by have := z.2.1; simp at this), bat_sw (by walk_at "om") (by walk_at "om") (by simp) (fun d hd => by (cases hd))⟩⟩
    · obtain ⟨ds, l1, l2⟩ := ShL.ex (H := rr p c He) (P := fun d => (FldS d ∧ okD 5 d) ∧ Shows d 3 465520) (xs := (List.replicate (6 : Int).toNat (ps.map V.ref)).flatten) fun x hx => by
        obtain ⟨i, ei⟩ := List.getElem?_of_mem (rep_mem hx)
        rw [List.getElem?_map] at ei
        obtain ⟨r, er, rfl⟩ := Option.map_eq_some_iff.mp ei
        obtain ⟨f, ef⟩ : ∃ f, fs[i]? = some f := ⟨_, List.getElem?_eq_getElem (by have := (List.getElem?_eq_some_iff.mp er).1; omega)⟩
        have hf := List.mem_of_getElem? ef
        exact ⟨_, (B6.fld i r f er ef).dat, ⟨fdDat_S n m f, okF f hf⟩, fdDat_sw hn hm (B1.ok f hf).2⟩
      have dl : ds.length = 6 * fs.length := by rw [← l1.len, rep_len, List.length_map, bl]; rfl
      exact ⟨⟨t5, z3, _, n, m, ds, rfl, ⟨rr_at n5.1 n5.2 (se _ _ hd), rr_at n3.1 n3.2 (yC _ _ hb'), l1, fun d hd => (l2 d hd).1, by walk_at "om"⟩, due_size (fun z => by have := z.2.2; omega), bat_sw (by walk_at "om") (by walk_at "om") (by walk_at "om") (fun d hd => (l2 d hd).2)⟩⟩
  refine lenL_rd nl.2.2 ?_
  rw [List.length_map]
  refine draw_rd P1 (by walk_at "om") (by walk_at "om") (by walk_at "om") (fun at_ H2 a0 a1 c2 P2 => ?_)
  obtain ⟨i, rfl⟩ : ∃ i : Nat, at_ = i := ⟨at_.toNat, by walk_at "om"⟩
  have B2 := B1.same (Chg2.rr c2)
  have nl2 := rr_of B2.lst
  obtain ⟨r, er⟩ : ∃ r, ps[i]? = some r := ⟨_, List.getElem?_eq_getElem (by walk_at "om")⟩
  obtain ⟨f, ef⟩ : ∃ f, fs[i]? = some f := ⟨_, List.getElem?_eq_getElem (by walk_at "om")⟩
  refine slL_rd (SqL.of nl2.2.2) (fun z3 H3 f3 s3 h3 => ?_)
  rw [cut_takeV (by walk_at "om"), Int.toNat_natCast] at h3
  refine ixL_rd (v := .ref r) (s3 _ _ nl2.2.2) (atI_nat (by rw [List.getElem?_map, er]; rfl)) ?_
  refine no_field_rd (P2.same s3) (by walk_at "om") ((B2.fld i r f er ef).same (Same.rr s3)) hn hm (B1.ok f (List.mem_of_getElem? ef)).1 (B1.ok f (List.mem_of_getElem? ef)).2 (fun v d H4 c4 P4 bf => ?_)
  have n3 : z3 ≠ p ∧ z3 ≠ c := ⟨P2.neP f3, P2.neC f3⟩
  have c24 : Chg2 p c H2 H4 := s3.to2.trans c4
  have B4 := B2.same (Chg2.rr c24)
  have h34 := c4 _ _ n3.1 n3.2 h3
  refine newL_rd (fun z5 H5 f5 s5 h5 => ?_)
  refine cat_rd (s5 _ _ h34) h5 (by rw [List.length_take, List.length_map, List.length_singleton, sizeLine_eq]; omega) (fun z6 H6 f6 s6 h6 => ?_)
  refine slL_rd (SqL.of ((s5.trans s6) _ _ (rr_of B4.lst).2.2)) (fun z7 H7 f7 s7 h7 => ?_)
  rw [cut_drop (by walk_at "om"), show ((i : Int) + 1).toNat = i + 1 by walk_at "om"] at h7
  refine cat_rd (s7 _ _ h6) h7 (by rw [List.length_append, List.length_take, List.length_map, List.length_singleton, List.length_drop, List.length_map, sizeLine_eq]; omega) (fun z8 H8 f8 s8 h8 => ?_)
  refine newT_rd (fun t9 H9 f9 s9 h9 => ?_)
  refine newT_rd (fun t10 Ha fa sa ha => ?_)
  walk_at "wh"
  have s4a := ((((s5.trans s6).trans s7).trans s8).trans s9).trans sa
  have L8 := P4.same (((s5.trans s6).trans s7))
  have Ba := B4.same (Same.rr s4a)
  have bfa := bf.sh.same (Same.rr s4a)
  have lR := fl_shl bl Ba.fld
  have sl : ShL (rr p c Ha) ((ps.map V.ref).take i ++ [v] ++ (ps.map V.ref).drop (i + 1)) ((fs.map (fdDat n m)).take i ++ [d] ++ (fs.map (fdDat n m)).drop (i + 1)) := shl_app (shl_app (shl_take lR i) (.cons bfa .nil)) (shl_drop lR (i + 1))
  have mem : ∀ {X : PyData → Prop}, (∀ x ∈ fs.map (fdDat n m), X x) → X d → ∀ x ∈ (fs.map (fdDat n m)).take i ++ [d] ++ (fs.map (fdDat n m)).drop (i + 1), X x := fun {X} h1 h2 x hx => by
    rcases List.mem_append.mp hx with hx | hx
    · rcases List.mem_append.mp hx with hx | hx
      · exact h1 x (List.mem_of_mem_take hx)
      · rw [List.mem_singleton.mp hx]; exact h2
    · exact h1 x (List.mem_of_mem_drop hx)
  have dl : ((fs.map (fdDat n m)).take i ++ [d] ++ (fs.map (fdDat n m)).drop (i + 1)).length = fs.length := by
    rw [List.length_append, List.length_append, List.length_take, List.length_drop, List.length_map, List.length_singleton]
    have := (List.getElem?_eq_some_iff.mp ef).1
    omega
  have tl : ((fs.map (fdDat n m)).take i).length = i := by rw [List.length_take, List.length_map]; have := (List.getElem?_eq_some_iff.mp ef).1; omega
  have n8 : z8 ≠ p ∧ z8 ≠ c := ⟨L8.neP f8, L8.neC f8⟩
  have n9 : t9 ≠ p ∧ t9 ≠ c := ⟨(L8.same s8).neP f9, (L8.same s8).neC f9⟩
  refine q t10 (.ref t9) i Ha ((c1.trans (c2.trans c24)).same s4a) ((P4.same s4a).up (by walk_at "om")) ha ⟨⟨t9, z8, _, n, m, _, rfl, ⟨rr_at n9.1 n9.2 (sa _ _ h9), rr_at n8.1 n8.2 ((s9.trans sa) _ _ h8), sl, mem dsok ⟨bf.fs, bf.ok⟩, by rw [dl]; omega⟩, due_at (j := i) (d := d) (by rw [dl]; exact ⟨⟨⟨by walk_at "om", by walk_at "om"⟩, by walk_at "om", by walk_at "om"⟩, fl1, fl2⟩) ?_ bf.no (fun x hx => ?_), bat_sw6 (by walk_at "om") (by walk_at "om") (by rw [dl]; omega) (mem (fun x hx => (dssw x hx).up (by walk_at "om") (by walk_at "om")) bf.sw)⟩⟩
  · rw [List.append_assoc, List.getElem?_append_right (by rw [tl]; exact Nat.le_refl _), tl, Nat.sub_self]; rfl
  · rw [List.append_assoc, List.take_append_of_le_length (by rw [tl]; exact Nat.le_refl _)] at hx
    obtain ⟨f', hf', rfl⟩ := List.mem_map.mp (List.mem_of_mem_take (List.mem_of_mem_take hx))
    exact fdDat_is (B1.ok f' hf').1
-- @@split
/-! ### what was caught, marked -/
theorem isiM_rd {K : PySem.W.Frag} {H : Hp} {Q : VK} {e D C : Addr} {b : Bool} (x : ExA H e D) (h2 : ExcK K D) (h3 : (PySem.W.clsIn K D).isSome = true) (k : PySem.W.kitOne K (.ref D) (.ref C) = some b) (q : Q (.bl b) H) : rIsiD K (.ref e) (.ref C) H Q := by
  rcases x with x | ⟨d, fs, x, y⟩
  · exact isiD_of (isiE_rd x h2 h3 k q)
  · exact isiDE_rd x y h2 h3 k q
theorem isiMT_rd {K : PySem.W.Frag} {H : Hp} {Q : VK} {e D : Addr} {n : String} {b : Bool} (x : ExA H e D) (h2 : ExcK K D) (h3 : (PySem.W.clsIn K D).isSome = true) (k : PySem.W.kitOne K (.ref D) (.type n) = some b) (q : Q (.bl b) H) : rIsiD K (.ref e) (.ty n) H Q := by
  rcases x with x | ⟨d, fs, x, y⟩
  · exact isiD_of (isiET_rd x h2 h3 k q)
  · exact isiDT_rd x y h2 h3 k q
def wordsV : List V := [.str "alike", .str "battle", .str "even", .str "mix", .str "name", .str "number", .str "place", .str "plan", .str "row", .str "side", .str "stream", .str "text", .str "great"]
def someJ (j : Nat) : List V := [.bl (decide (0 = j)), .bl (decide (1 = j)), .bl (decide (2 = j)), .bl (decide (3 = j)), .bl (decide (4 = j)), .bl (decide (5 = j)), .bl (decide (6 = j)), .bl (decide (7 = j)), .bl (decide (8 = j)), .bl (decide (9 = j)), .bl (decide (10 = j)), .bl (decide (11 = j)), .bl (decide (12 = j))]
theorem someJ_at {i j : Nat} {y : V} (h : (someJ j)[i]? = some y) : y = .bl (decide (i = j)) := by
  have hj : i < 13 := (List.getElem?_eq_some_iff.mp h).1
  have : i = 0 ∨ i = 1 ∨ i = 2 ∨ i = 3 ∨ i = 4 ∨ i = 5 ∨ i = 6 ∨ i = 7 ∨ i = 8 ∨ i = 9 ∨ i = 10 ∨ i = 11 ∨ i = 12 := by walk_at "om"
  rcases this with rfl | rfl | rfl | rfl | rfl | rfl | rfl | rfl | rfl | rfl | rfl | rfl | rfl <;> (cases h; rfl)
@[irreducible] def sp__law_marks (a_NoBattle a_NoPlan a_NoAlike : Addr) : Sp := fun vs H Q _ => ∃ (e D : Addr) (j : Nat), vs = [.ref e] ∧ ExA H e D ∧ ((D = a_NoAlike ∧ j = 0) ∨ (D = a_NoBattle ∧ j = 1) ∨ (D = a_NoPlan ∧ j = 7)) ∧ ∀ p H', H p = none → Same H H' → H' p = some (.lst [(wordsV[j]?).getD .non]) → Q (.ref p) H'
theorem marks_rd {a_NoBattle a_NoPlan a_NoAlike : Addr} {H : Hp} {e D : Addr} {j : Nat} {Q : VK} {E : XK} (h : ExA H e D) (hD : (D = a_NoAlike ∧ j = 0) ∨ (D = a_NoBattle ∧ j = 1) ∨ (D = a_NoPlan ∧ j = 7)) (q : ∀ p H', H p = none → Same H H' → H' p = some (.lst [(wordsV[j]?).getD .non]) → Q (.ref p) H') : sp__law_marks a_NoBattle a_NoPlan a_NoAlike [.ref e] H Q E := by unfold sp__law_marks; exact ⟨e, D, j, rfl, h, hD, q⟩
theorem ok__law_marks {f : Addr} {fd : FuncData} (F : Fun K "_law_marks" "_law_marks" s__law_marks f fd) (N : Nm mg) (Z : Cz K mg base a_HostError a_NoBattle a_NoPlan a_NoMix a_NoStream a_NoSide a_NoAlike a_NoNumber a_TooGreat a_NoEven a_NoText a_NoRow a_NoName a_NoPlace a_Grid i_NoBattle) : FnOk P w K mg base CX0 1 f fd ["_law_caught_here"] (sp__law_marks a_NoBattle a_NoPlan a_NoAlike) := by
  refine F.ok sc__law_marks (fun vs H Q E h => by unfold sp__law_marks at h; obtain ⟨_, _, _, rfl, _⟩ := h; rfl) (fun cdv A outer s H vs Q E hr h => ?_)
  unfold sp__law_marks at h
  obtain ⟨e, D, j, rfl, he, hD, q⟩ := h
  have hu := hu40 hr
  obtain ⟨kK, kC, kV, k0, k1, k2, k3, k4, k5, k6, k7, k8, k9, k10, k11, k12, hj⟩ : ExcK K D ∧ (PySem.W.clsIn K D).isSome = true ∧ PySem.W.kitOne K (.ref D) (.type "ValueError") = some true ∧ PySem.W.kitOne K (.ref D) (.ref a_NoAlike) = some (decide (0 = j)) ∧ PySem.W.kitOne K (.ref D) (.ref a_NoBattle) = some (decide (1 = j)) ∧ PySem.W.kitOne K (.ref D) (.ref a_NoEven) = some (decide (2 = j)) ∧ PySem.W.kitOne K (.ref D) (.ref a_NoMix) = some (decide (3 = j)) ∧ PySem.W.kitOne K (.ref D) (.ref a_NoName) = some (decide (4 = j)) ∧ PySem.W.kitOne K (.ref D) (.ref a_NoNumber) = some (decide (5 = j)) ∧ PySem.W.kitOne K (.ref D) (.ref a_NoPlace) = some (decide (6 = j)) ∧ PySem.W.kitOne K (.ref D) (.ref a_NoPlan) = some (decide (7 = j)) ∧ PySem.W.kitOne K (.ref D) (.ref a_NoRow) = some (decide (8 = j)) ∧ PySem.W.kitOne K (.ref D) (.ref a_NoSide) = some (decide (9 = j)) ∧ PySem.W.kitOne K (.ref D) (.ref a_NoStream) = some (decide (10 = j)) ∧ PySem.W.kitOne K (.ref D) (.ref a_NoText) = some (decide (11 = j)) ∧ PySem.W.kitOne K (.ref D) (.ref a_TooGreat) = some (decide (12 = j)) ∧ ((List.range 13).filter fun i => decide (i = j)) = [j] := by
    rcases hD with ⟨rfl, rfl⟩ | ⟨rfl, rfl⟩ | ⟨rfl, rfl⟩
    · exact ⟨Z.k_NoAlike, Z.c_NoAlike, Z.v_NoAlike, Z.i_NoAlike_NoAlike, Z.i_NoAlike_NoBattle, Z.i_NoAlike_NoEven, Z.i_NoAlike_NoMix, Z.i_NoAlike_NoName, Z.i_NoAlike_NoNumber, Z.i_NoAlike_NoPlace, Z.i_NoAlike_NoPlan, Z.i_NoAlike_NoRow, Z.i_NoAlike_NoSide, Z.i_NoAlike_NoStream, Z.i_NoAlike_NoText, Z.i_NoAlike_TooGreat, by decide⟩
    · exact ⟨Z.k_NoBattle, Z.c_NoBattle, Z.v_NoBattle, Z.i_NoBattle_NoAlike, Z.i_NoBattle_NoBattle, Z.i_NoBattle_NoEven, Z.i_NoBattle_NoMix, Z.i_NoBattle_NoName, Z.i_NoBattle_NoNumber, Z.i_NoBattle_NoPlace, Z.i_NoBattle_NoPlan, Z.i_NoBattle_NoRow, Z.i_NoBattle_NoSide, Z.i_NoBattle_NoStream, Z.i_NoBattle_NoText, Z.i_NoBattle_TooGreat, by decide⟩
    · exact ⟨Z.k_NoPlan, Z.c_NoPlan, Z.v_NoPlan, Z.i_NoPlan_NoAlike, Z.i_NoPlan_NoBattle, Z.i_NoPlan_NoEven, Z.i_NoPlan_NoMix, Z.i_NoPlan_NoName, Z.i_NoPlan_NoNumber, Z.i_NoPlan_NoPlace, Z.i_NoPlan_NoPlan, Z.i_NoPlan_NoRow, Z.i_NoPlan_NoSide, Z.i_NoPlan_NoStream, Z.i_NoPlan_NoText, Z.i_NoPlan_TooGreat, by decide⟩
  refine ⟨_, (pssTo (pssI_cons (psOf (psS (i := 1) sc__law_marks.nd (peLst (pa_cons (pB (cIsiD (K := K) rfl) N.isinstance_ bt_isinstance (pa_cons (pq 0) (pa_cons (pe_glob (v := .ref a_NoAlike) rfl Z.g_NoAlike rfl) pa_nil))) (pa_cons (pB (cIsiD (K := K) rfl) N.isinstance_ bt_isinstance (pa_cons (pq 0) (pa_cons (pe_glob (v := .ref a_NoBattle) rfl Z.g_NoBattle rfl) pa_nil))) (pa_cons (pB (cIsiD (K := K) rfl) N.isinstance_ bt_isinstance (pa_cons (pq 0) (pa_cons (pe_glob (v := .ref a_NoEven) rfl Z.g_NoEven rfl) pa_nil))) pa_nil))))))
      (pssI_cons (psOf (psS (i := 1) sc__law_marks.nd (pe_op oAdd (pq 1) (peLst (pa_cons (pB (cIsiD (K := K) rfl) N.isinstance_ bt_isinstance (pa_cons (pq 0) (pa_cons (pe_glob (v := .ref a_NoMix) rfl Z.g_NoMix rfl) pa_nil))) (pa_cons (pB (cIsiD (K := K) rfl) N.isinstance_ bt_isinstance (pa_cons (pq 0) (pa_cons (pe_glob (v := .ref a_NoName) rfl Z.g_NoName rfl) pa_nil))) (pa_cons (pB (cIsiD (K := K) rfl) N.isinstance_ bt_isinstance (pa_cons (pq 0) (pa_cons (pe_glob (v := .ref a_NoNumber) rfl Z.g_NoNumber rfl) pa_nil))) pa_nil)))))))
      (pssI_cons (psOf (psS (i := 1) sc__law_marks.nd (pe_op oAdd (pq 1) (peLst (pa_cons (pB (cIsiD (K := K) rfl) N.isinstance_ bt_isinstance (pa_cons (pq 0) (pa_cons (pe_glob (v := .ref a_NoPlace) rfl Z.g_NoPlace rfl) pa_nil))) (pa_cons (pB (cIsiD (K := K) rfl) N.isinstance_ bt_isinstance (pa_cons (pq 0) (pa_cons (pe_glob (v := .ref a_NoPlan) rfl Z.g_NoPlan rfl) pa_nil))) (pa_cons (pB (cIsiD (K := K) rfl) N.isinstance_ bt_isinstance (pa_cons (pq 0) (pa_cons (pe_glob (v := .ref a_NoRow) rfl Z.g_NoRow rfl) pa_nil))) pa_nil)))))))
      (pssI_cons (psOf (psS (i := 1) sc__law_marks.nd (pe_op oAdd (pq 1) (peLst (pa_cons (pB (cIsiD (K := K) rfl) N.isinstance_ bt_isinstance (pa_cons (pq 0) (pa_cons (pe_glob (v := .ref a_NoSide) rfl Z.g_NoSide rfl) pa_nil))) (pa_cons (pB (cIsiD (K := K) rfl) N.isinstance_ bt_isinstance (pa_cons (pq 0) (pa_cons (pe_glob (v := .ref a_NoStream) rfl Z.g_NoStream rfl) pa_nil))) (pa_cons (pB (cIsiD (K := K) rfl) N.isinstance_ bt_isinstance (pa_cons (pq 0) (pa_cons (pe_glob (v := .ref a_NoText) rfl Z.g_NoText rfl) pa_nil))) pa_nil)))))))
      (pssI_cons (psOf (ps_expr (peM_append (pq 1) (pa_cons (pB (cIsiD (K := K) rfl) N.isinstance_ bt_isinstance (pa_cons (pq 0) (pa_cons (pe_glob (v := .ref a_TooGreat) rfl Z.g_TooGreat rfl) pa_nil))) pa_nil))))
      (pssI_cons (psIS (i := 2) sc__law_marks.nd (peILst (paI_cons peI_str (paI_cons peI_str (paI_cons peI_str (paI_cons peI_str (paI_cons peI_str (paI_cons peI_str (paI_cons peI_str (paI_cons peI_str (paI_cons peI_str (paI_cons peI_str (paI_cons peI_str (paI_cons peI_str paI_nil))))))))))))))
      (pssI_cons (psOf (psC (i := 3) (N := ["_law_word", "_law_truth"]) (ks := [none, none]) sc__law_marks.nd (piZipK (K := K) rfl N.zip_ (pa_cons (pe_op oAdd (pq 2) (peLst (pa_cons pe_str pa_nil))) (pa_cons (pq 1) pa_nil))) (fun cl C s3 H3 fp => (pgAnyK (K := K) (n := 2) rfl rfl (pgsCons (pg_name (i := 0) nb_8 rfl (by first | exact Or.inl rfl | exact Or.inr rfl)) (pgsCons (pg_name (i := 1) nb_8 rfl (by first | exact Or.inl rfl | exact Or.inr rfl)) pgsNil)))) (fun cl C s3 H3 fp => (pts_one (ptV (pq 1)))) (fun cl C s3 H3 fp => (pq 0)) (.skip (.skip .nil))))
      (pssI_cons (psOf (psCut (psIf (pt_not (ptV (pB (cIsiD (K := K) rfl) N.isinstance_ bt_isinstance (pa_cons (pq 0) (pa_cons (pTy N.ValueError_ bt_ValueError) pa_nil))))) (pss_one (ps_expr (peM_append (pq 3) (pa_cons pe_str pa_nil)))) pss_nil)))
      (pssI_one (psOf (ps_ret (pq 3))))))))))))), ?_⟩
  refine isiM_rd he kK kC k0 ?_
  refine isiM_rd he kK kC k1 ?_
  refine isiM_rd he kK kC k2 ?_
  refine newL_rd (fun p1 H1 f1 s1 h1 => ?_)
  have he1 := he.same s1
  refine isiM_rd he1 kK kC k3 ?_
  refine isiM_rd he1 kK kC k4 ?_
  refine isiM_rd he1 kK kC k5 ?_
  refine newL_rd (fun p2 H2 f2 s2 h2 => ?_)
  refine cat_rd (s2 _ _ h1) h2 (by rw [sizeLine_eq]; simp) (fun p3 H3 f3 s3 h3 => ?_)
  have he3 := (he1.same s2).same s3
  refine isiM_rd he3 kK kC k6 ?_
  refine isiM_rd he3 kK kC k7 ?_
  refine isiM_rd he3 kK kC k8 ?_
  refine newL_rd (fun p4 H4 f4 s4 h4 => ?_)
  refine cat_rd (s4 _ _ h3) h4 (by rw [sizeLine_eq]; simp) (fun p5 H5 f5 s5 h5 => ?_)
  have he5 := (he3.same s4).same s5
  refine isiM_rd he5 kK kC k9 ?_
  refine isiM_rd he5 kK kC k10 ?_
  refine isiM_rd he5 kK kC k11 ?_
  refine newL_rd (fun p6 H6 f6 s6 h6 => ?_)
  refine cat_rd (s6 _ _ h5) h6 (by rw [sizeLine_eq]; simp) (fun p7 H7 f7 s7 h7 => ?_)
  have he7 := (he5.same s6).same s7
  have s07 : Same H H7 := (((((s1.trans s2).trans s3).trans s4).trans s5).trans s6).trans s7
  have fp7 : H p7 = none := ((((((s1.trans s2).trans s3).trans s4).trans s5).trans s6)).free f7
  refine lst_is h7 ?_
  refine isiM_rd he7 kK kC k12 ?_
  refine app_rd h7 (by rw [sizeLine_eq]; simp) (fun H8 c8 h8 => ?_)
  have h8 : H8 p7 = some (.lst (someJ j)) := h8
  have s08 : Same H H8 := s07.chg fp7 c8
  refine newL_rd (fun p9 H9 f9 s9 h9 => ?_)
  refine newL_rd (fun pa Ha fa sa ha => ?_)
  refine cat_rd (sa _ _ h9) ha (by rw [sizeLine_eq]; simp) (fun pb Hb fb sb hb => ?_)
  have hb : Hb pb = some (.lst wordsV) := hb
  have s8b : Same H8 Hb := (s9.trans sa).trans sb
  have h8b := s8b _ _ h8
  refine zip_rd (SqL.of hb) (SqL.of h8b) ?_
  refine comp_I (Wk.zip (n := 13) (SqL.of hb) (SqL.of h8b) rfl rfl) (by rw [sizeLine_eq]; decide) (fun i => (wordsV[i]?).getD .non) (fun i => decide (i = j)) (fun _ σ => ∃ t u : Option V, σ = [t, u]) ⟨none, none, rfl⟩ ?_ ?_
  · rintro j' v σ H1' R S hj' s1' ⟨pp, x, y, rfl, hp, hx, hy⟩ ⟨t, u, rfl⟩ k1 k2
    have fx : (wordsV[j']?).getD .non = x := by rw [hx]; rfl
    have ey := someJ_at hy
    subst ey
    refine unpT_rd hp ?_
    refine br_dec (fun h => ?_) (fun h => ?_)
    · walk_at "wh"
      rw [← fx]
      exact k1 (decide_eq_true h) _ _ (Same.refl _) ⟨_, _, rfl⟩
    · exact k2 (decide_eq_false h) _ _ (Same.refl _) ⟨_, _, rfl⟩
  · intro acc Hc fc sc hc
    rw [hj] at hc
    have hc : Hc acc = some (.lst [(wordsV[j]?).getD .non]) := hc
    have s0c : Same H Hc := (s08.trans s8b).trans sc
    have hec := he.same s0c
    have facc : H acc = none := (s08.trans s8b).free fc
    walk_at "wh"
    refine cut_id ?_
    refine isiMT_rd hec kK kC kV ?_
    refine br_not (br_T ?_)
    walk_at "wh"
    exact q acc Hc facc s0c hc
-- @@split
/-! ### what was caught -/
def alikeB (ds : List PyData) : Bool := ds.all fun d => d.eqv (ds.getD 0 .none)
@[irreducible] def sp__law_caught (a_NoBattle a_NoPlan a_NoAlike : Addr) : Sp := fun vs H Q _ => ∃ (b l : Addr) (v1 v2 : V) (p1 p2 : PyData) (xs : List V) (a c way : Int) (ds : List PyData), vs = [.int way, .ref b, v1, v2] ∧ BatD H b l xs a c ds ∧ (ShV H v1 p1 ∧ sml p1 = true) ∧ (ShV H v2 p2 ∧ sml p2 = true) ∧ (way = 0 ∨ way = 1 ∨ way = 2 ∨ way = 3) ∧
  ((∃ k, dueD a c ds = some k ∧ ∀ e d H', Same H H' → H' e = some (excO e (.ref a_NoBattle) (some d)) → H' d = some (.xd [("field", .int k)]) → Q (.ref e) H') ∨
   (dueD a c ds = none ∧ alikeB ds = false ∧ way ≠ 0 ∧ ∀ e H', Same H H' → H' e = some (excO e (.ref a_NoAlike) none) → Q (.ref e) H') ∨
   (dueD a c ds = none ∧ alikeB ds = true ∧ way = 1 ∧ (planD a ds.length p1 && planD c ds.length p2) = false ∧ ∀ e H', Same H H' → H' e = some (excO e (.ref a_NoPlan) none) → Q (.ref e) H'))
theorem caughtB_rd {a_NoBattle a_NoPlan a_NoAlike : Addr} {H : Hp} {b l : Addr} {v1 v2 : V} {p1 p2 : PyData} {xs : List V} {a c way k : Int} {ds : List PyData} {Q : VK} {E : XK} (B : BatD H b l xs a c ds) (h1 : ShV H v1 p1) (o1 : sml p1 = true) (h2 : ShV H v2 p2) (o2 : sml p2 = true) (hw : way = 0 ∨ way = 1 ∨ way = 2 ∨ way = 3) (du : dueD a c ds = some k) (q : ∀ e d H', Same H H' → H' e = some (excO e (.ref a_NoBattle) (some d)) → H' d = some (.xd [("field", .int k)]) → Q (.ref e) H') : sp__law_caught a_NoBattle a_NoPlan a_NoAlike [.int way, .ref b, v1, v2] H Q E := by unfold sp__law_caught; exact ⟨b, l, v1, v2, p1, p2, xs, a, c, way, ds, rfl, B, ⟨h1, o1⟩, ⟨h2, o2⟩, hw, .inl ⟨k, du, q⟩⟩
theorem caughtA_rd {a_NoBattle a_NoPlan a_NoAlike : Addr} {H : Hp} {b l : Addr} {v1 v2 : V} {p1 p2 : PyData} {xs : List V} {a c way : Int} {ds : List PyData} {Q : VK} {E : XK} (B : BatD H b l xs a c ds) (h1 : ShV H v1 p1) (o1 : sml p1 = true) (h2 : ShV H v2 p2) (o2 : sml p2 = true) (hw : way = 1 ∨ way = 2 ∨ way = 3) (du : dueD a c ds = none) (al : alikeB ds = false) (q : ∀ e H', Same H H' → H' e = some (excO e (.ref a_NoAlike) none) → Q (.ref e) H') : sp__law_caught a_NoBattle a_NoPlan a_NoAlike [.int way, .ref b, v1, v2] H Q E := by unfold sp__law_caught; exact ⟨b, l, v1, v2, p1, p2, xs, a, c, way, ds, rfl, B, ⟨h1, o1⟩, ⟨h2, o2⟩, .inr hw, .inr (.inl ⟨du, al, by walk_at "om", q⟩)⟩
theorem caughtP_rd {a_NoBattle a_NoPlan a_NoAlike : Addr} {H : Hp} {b l : Addr} {v1 v2 : V} {p1 p2 : PyData} {xs : List V} {a c : Int} {ds : List PyData} {Q : VK} {E : XK} (B : BatD H b l xs a c ds) (h1 : ShV H v1 p1) (o1 : sml p1 = true) (h2 : ShV H v2 p2) (o2 : sml p2 = true) (du : dueD a c ds = none) (al : alikeB ds = true) (bad : (planD a ds.length p1 && planD c ds.length p2) = false) (q : ∀ e H', Same H H' → H' e = some (excO e (.ref a_NoPlan) none) → Q (.ref e) H') : sp__law_caught a_NoBattle a_NoPlan a_NoAlike [.int 1, .ref b, v1, v2] H Q E := by unfold sp__law_caught; exact ⟨b, l, v1, v2, p1, p2, xs, a, c, 1, ds, rfl, B, ⟨h1, o1⟩, ⟨h2, o2⟩, .inr (.inl rfl), .inr (.inr ⟨du, al, rfl, bad, q⟩)⟩
theorem ok__law_caught {f : Addr} {fd : FuncData} (F : Fun K "_law_caught" "_law_caught" s__law_caught f fd) (N : Nm mg) (D_counts_table : Def P w K mg base (CXR P w) 9 "counts_table" ["battle"] (sp_counts_table a_NoBattle a_NoAlike)) (D_counts_worth : Def P w K mg base (CXR P w) 10 "counts_worth" ["battle"] (sp_counts_worth a_NoBattle a_NoAlike)) (D_is_alike : Def P w K mg base (CXR P w) 7 "is_alike" ["battle"] (sp_is_alike a_NoBattle)) (D_ring_gain : Def P w K mg base (CXR P w) 9 "ring_gain" ["battle", "one", "other"] (sp_ring_gain a_NoBattle a_NoPlan a_NoAlike)) (Z : Cz K mg base a_HostError a_NoBattle a_NoPlan a_NoMix a_NoStream a_NoSide a_NoAlike a_NoNumber a_TooGreat a_NoEven a_NoText a_NoRow a_NoName a_NoPlace a_Grid i_NoBattle) : FnOk P w K mg base CX0 11 f fd ["_law_way", "_law_battle", "_law_one", "_law_other"] (sp__law_caught a_NoBattle a_NoPlan a_NoAlike) := by
  refine F.ok sc__law_caught (fun vs H Q E h => by unfold sp__law_caught at h; obtain ⟨_, _, _, _, _, _, _, _, _, _, _, rfl, _⟩ := h; rfl) (fun cdv A outer s H vs Q E hr h => ?_)
  unfold sp__law_caught at h
  obtain ⟨b, l, v1, v2, p1, p2, xs, a, c, way, ds, rfl, B, ⟨h1, o1⟩, ⟨h2, o2⟩, hw, q⟩ := h
  have hu := hu40 hr
  refine ⟨_, (pss_cons (psS (i := 4) sc__law_caught.nd pe_non)
      (pss_cons (psTry (K := K) (ke := 5) (ky := 4) rfl sc__law_caught.nd Z.g_HostError (psxOne (psxIf (ptC (oEqXK (K := K) rfl (by exact hu)) (pq 0) pe_int) (psxOne (psxCall D_is_alike hr (pa_cons (pq 1) pa_nil))) (psxOne (psxIf (ptC (oEqXK (K := K) rfl (by exact hu)) (pq 0) pe_int) (psxOne (psxCall D_ring_gain hr (pa_cons (pq 1) (pa_cons (pq 2) (pa_cons (pq 3) pa_nil))))) (psxOne (psxIf (ptC (oEqXK (K := K) rfl (by exact hu)) (pq 0) pe_int) (psxOne (psxCall D_counts_table hr (pa_cons (pq 1) pa_nil))) (psxOne (psxCall D_counts_worth hr (pa_cons (pq 1) pa_nil))))))))))
      (pss_one (ps_ret (pq 4))))), ?_⟩
  rcases hw with rfl | rfl | rfl | rfl
  · walk_at "wh"
    refine br_dT rfl ?_
    refine is_alikeD_rd B (fun du H1 s1 => ?_) (fun k ek d H1 f1 s1 hx => ?_)
    · rcases q with ⟨k', dk, _⟩ | ⟨_, _, z, _⟩ | ⟨_, _, z, _⟩
      · rw [du] at dk; cases dk
      · exact absurd rfl z
      · cases z
    · refine catch_rd Z.m_NoBattle (fun ea H2 f2 s2 h2 => ?_)
      walk_at "wh"
      rcases q with ⟨k', dk, q⟩ | ⟨dk, _⟩ | ⟨dk, _⟩
      · rw [ek] at dk
        cases dk
        exact q _ _ _ (s1.trans s2) h2 (s2 _ _ hx)
      · rw [ek] at dk; cases dk
      · rw [ek] at dk; cases dk
  · walk_at "wh"
    refine br_dF (by decide) ?_
    refine br_dT rfl ?_
    refine ring_gainD_rd B h1 o1 h2 o2 (fun du ea' => ⟨?_, fun H1 s1 => ?_⟩) (fun du ea' H1 s1 => ?_) (fun k ek d H1 f1 s1 hx => ?_)
    · rcases q with ⟨k', dk, _⟩ | ⟨_, al, _⟩ | ⟨_, _, _, bad, _⟩
      · rw [du] at dk; cases dk
      · have al : (ds.all fun d => d.eqv (ds.getD 0 .none)) = false := al
        rw [ea'] at al; cases al
      · exact bad
    · refine catch_rd Z.m_NoPlan (fun ea H2 f2 s2 h2 => ?_)
      walk_at "wh"
      rcases q with ⟨k', dk, _⟩ | ⟨_, al, _⟩ | ⟨_, _, _, _, q⟩
      · rw [du] at dk; cases dk
      · have al : (ds.all fun d => d.eqv (ds.getD 0 .none)) = false := al
        rw [ea'] at al; cases al
      · exact q _ _ (s1.trans s2) h2
    · refine catch_rd Z.m_NoAlike (fun ea H2 f2 s2 h2 => ?_)
      walk_at "wh"
      rcases q with ⟨k', dk, _⟩ | ⟨_, _, _, q⟩ | ⟨_, al, _⟩
      · rw [du] at dk; cases dk
      · exact q _ _ (s1.trans s2) h2
      · have al : (ds.all fun d => d.eqv (ds.getD 0 .none)) = true := al
        rw [ea'] at al; cases al
    · refine catch_rd Z.m_NoBattle (fun ea H2 f2 s2 h2 => ?_)
      walk_at "wh"
      rcases q with ⟨k', dk, q⟩ | ⟨dk, _⟩ | ⟨dk, _⟩
      · rw [ek] at dk
        cases dk
        exact q _ _ _ (s1.trans s2) h2 (s2 _ _ hx)
      · rw [ek] at dk; cases dk
      · rw [ek] at dk; cases dk
  · walk_at "wh"
    refine br_dF (by decide) ?_
    refine br_dF (by decide) ?_
    refine br_dT rfl ?_
    refine counts_tableD_rd B ⟨fun du => ⟨?_, fun H1 s1 => ?_⟩, fun k ek d H1 f1 s1 hx => ?_⟩
    · rcases q with ⟨k', dk, _⟩ | ⟨_, al, _⟩ | ⟨_, _, z, _⟩
      · rw [du] at dk; cases dk
      · exact al
      · cases z
    · refine catch_rd Z.m_NoAlike (fun ea H2 f2 s2 h2 => ?_)
      walk_at "wh"
      rcases q with ⟨k', dk, _⟩ | ⟨_, _, _, q⟩ | ⟨_, _, z, _⟩
      · rw [du] at dk; cases dk
      · exact q _ _ (s1.trans s2) h2
      · cases z
    · refine catch_rd Z.m_NoBattle (fun ea H2 f2 s2 h2 => ?_)
      walk_at "wh"
      rcases q with ⟨k', dk, q⟩ | ⟨dk, _⟩ | ⟨dk, _⟩
      · rw [ek] at dk
        cases dk
        exact q _ _ _ (s1.trans s2) h2 (s2 _ _ hx)
      · rw [ek] at dk; cases dk
      · rw [ek] at dk; cases dk
  · walk_at "wh"
    refine br_dF (by decide) ?_
    refine br_dF (by decide) ?_
    refine br_dF (by decide) ?_
    refine counts_worthD_rd B ⟨fun du => ⟨?_, fun H1 s1 => ?_⟩, fun k ek d H1 f1 s1 hx => ?_⟩
    · rcases q with ⟨k', dk, _⟩ | ⟨_, al, _⟩ | ⟨_, _, z, _⟩
      · rw [du] at dk; cases dk
      · exact al
      · cases z
    · refine catch_rd Z.m_NoAlike (fun ea H2 f2 s2 h2 => ?_)
      walk_at "wh"
      rcases q with ⟨k', dk, _⟩ | ⟨_, _, _, q⟩ | ⟨_, _, z, _⟩
      · rw [du] at dk; cases dk
      · exact q _ _ (s1.trans s2) h2
      · cases z
    · refine catch_rd Z.m_NoBattle (fun ea H2 f2 s2 h2 => ?_)
      walk_at "wh"
      rcases q with ⟨k', dk, q⟩ | ⟨dk, _⟩ | ⟨dk, _⟩
      · rw [ek] at dk
        cases dk
        exact q _ _ _ (s1.trans s2) h2 (s2 _ _ hx)
      · rw [ek] at dk; cases dk
      · rw [ek] at dk; cases dk
-- @@split
/-! ### what is said of a battle -/
theorem BfAt.batD {H : Hp} {b l : Addr} {ps : List Addr} {n m : Nat} {fs : List Fd} (B : BfAt H b l ps n m fs) (hn : n ≤ 10) (hm : m ≤ 10) (hl : fs.length ≤ 5) : BatD H b l (ps.map V.ref) n m (fs.map (fdDat n m)) := ⟨B.out, B.lst, fl_shl B.len B.fld, fun d hd => by
  obtain ⟨f, hf, rfl⟩ := List.mem_map.mp hd
  exact ⟨fdDat_S n m f, fdDat_ok (by walk_at "om") (by walk_at "om") f⟩, by rw [List.length_map]; omega⟩
theorem BfAt.due {H : Hp} {b l : Addr} {ps : List Addr} {n m : Nat} {fs : List Fd} (B : BfAt H b l ps n m fs) (hn : n ≤ 10) (hm : m ≤ 10) (hl : 1 ≤ fs.length ∧ fs.length ≤ 5) : dueD n m (fs.map (fdDat n m)) = none := by
  unfold dueD
  rw [if_pos (by rw [List.length_map]; exact ⟨⟨⟨by walk_at "om", by walk_at "om"⟩, by walk_at "om", by walk_at "om"⟩, hl⟩), fstBad_none fun d hd => ?_]
  · rfl
  · obtain ⟨f, hf, rfl⟩ := List.mem_map.mp hd
    exact fdDat_is (B.ok f hf).1
def batDat (n m : Int) (ds : List PyData) : PyData := .tuple [.int n, .int m, .list ds]
theorem BatD.sh' {H : Hp} {b l : Addr} {xs : List V} {a c : Int} {ds : List PyData} (B : BatD H b l xs a c ds) : ShV H (.ref b) (batDat a c ds) := .tup B.out (.cons (.int _) (.cons (.int _) (.cons (.lst B.lst B.sh) .nil)))
theorem BatD.okB {H : Hp} {b l : Addr} {xs : List V} {a c : Int} {ds : List PyData} (B : BatD H b l xs a c ds) : okD 7 (batDat a c ds) := okD.tuple (n := 6) (by simp) fun d hd => by
  simp only [List.mem_cons, List.not_mem_nil, or_false] at hd
  rcases hd with rfl | rfl | rfl
  · exact okD.int _ _
  · exact okD.int _ _
  · exact okD.list (n := 5) (by have := B.len; omega) fun d hd => (B.ok d hd).2
theorem wordOk {w : Str} (hw : PyData.strOk w = true) : okD 1 (.list [.str w]) := okD.list (n := 0) (by simp) fun d hd => by rw [List.mem_singleton.mp hd]; exact ⟨rfl, hw, Nat.zero_le _⟩
theorem intsSm (ns : List Int) (h : ns.length ≤ 1000) : sml (.list (ns.map PyData.int)) = true := by
  simp only [sml, Bool.and_eq_true, decide_eq_true_eq, List.length_map]
  refine ⟨h, smlAll_of fun d hd => ?_⟩
  obtain ⟨n, _, rfl⟩ := List.mem_map.mp hd
  rfl
theorem plan_len {h : Int} {k : Nat} {ns : List Int} (e : ns.length ≠ k) : planD h k (.list (ns.map PyData.int)) = false := by
  unfold planD
  rw [numsD_ints, decide_eq_false (show ¬ ((ns.length : Int) = (k : Int)) by walk_at "om"), Bool.and_false, Bool.false_and]
theorem plan_neg {h : Int} {k : Nat} {ns : List Int} (e : (-1 : Int) ∈ ns) : planD h k (.list (ns.map PyData.int)) = false := by
  unfold planD
  have : sendsD (.list (ns.map PyData.int)) = false := by
    show (ns.map PyData.int).all (fromD 0) = false
    rw [List.all_map]
    exact not_true fun z => by
      have := List.all_eq_true.mp z _ e
      have : decide ((0 : Int) ≤ -1) = true := this
      exact absurd (of_decide_eq_true this) (by decide)
  rw [this, Bool.false_and, Bool.false_and]
-- @@split
theorem rep_flat {α : Type} (k : Nat) (x : α) : (List.replicate k [x]).flatten = List.replicate k x := by
  induction k with
  | zero => rfl
  | succ k ih => rw [List.replicate_succ, List.flatten_cons, ih, List.replicate_succ]; rfl
theorem getElem?_push {α : Type} {l : List α} {x y : α} {j : Nat} (h : (l ++ [x])[j]? = some y) : (j < l.length ∧ l[j]? = some y) ∨ (j = l.length ∧ y = x) := by
  by_cases hj : j < l.length
  · rw [List.getElem?_append_left hj] at h
    exact .inl ⟨hj, h⟩
  · rw [List.getElem?_append_right (by walk_at "om")] at h
    have h0 : j - l.length = 0 := by
      have := (List.getElem?_eq_some_iff.mp h).1
      simp at this; omega
    rw [h0] at h
    exact .inr ⟨by walk_at "om", (Option.some.inj h).symm⟩
@[irreducible] def sp__law_said : Sp := fun vs H Q _ => ∃ (b l : Addr) (ps : List Addr) (n m : Nat) (fs : List Fd) (du : Bool), vs = [.ref b, .bl du] ∧ BfAt H b l ps n m fs ∧ (n ≤ 10 ∧ m ≤ 10) ∧ (1 ≤ fs.length ∧ fs.length ≤ 5) ∧ alikeB (fs.map (fdDat n m)) = du ∧ ∀ H', Same H H' → Q (.bl true) H'
theorem said_rd {H : Hp} {b l : Addr} {ps : List Addr} {n m : Nat} {fs : List Fd} {du : Bool} {Q : VK} {E : XK} (B : BfAt H b l ps n m fs) (hn : n ≤ 10) (hm : m ≤ 10) (hl : 1 ≤ fs.length ∧ fs.length ≤ 5) (al : alikeB (fs.map (fdDat n m)) = du) (q : ∀ H', Same H H' → Q (.bl true) H') : sp__law_said [.ref b, .bl du] H Q E := by unfold sp__law_said; exact ⟨b, l, ps, n, m, fs, du, rfl, B, ⟨hn, hm⟩, hl, al, q⟩
set_option maxHeartbeats 0 in
theorem ok__law_said {f : Addr} {fd : FuncData} (F : Fun K "_law_said" "_law_said" s__law_said f fd) (N : Nm mg) (D__law_caught : Def P w K mg base CX0 11 "_law_caught" ["_law_way", "_law_battle", "_law_one", "_law_other"] (sp__law_caught a_NoBattle a_NoPlan a_NoAlike)) (D__law_copy : Def P w K mg base CX0 1 "_law_copy" ["_law_field_here"] sp__law_copy) (D__law_marks : Def P w K mg base CX0 1 "_law_marks" ["_law_caught_here"] (sp__law_marks a_NoBattle a_NoPlan a_NoAlike)) (D_is_alike : Def P w K mg base (CXR P w) 7 "is_alike" ["battle"] (sp_is_alike a_NoBattle)) : FnOk P w K mg base CX0 12 f fd ["_law_battle", "_law_due"] sp__law_said := by
  refine F.ok sc__law_said (fun vs H Q E h => by unfold sp__law_said at h; obtain ⟨_, _, _, _, _, _, _, rfl, _⟩ := h; rfl) (fun cdv A outer s H vs Q E hr h => ?_)
  unfold sp__law_said at h
  obtain ⟨b, l, ps, n, m, fs, du, rfl, B, ⟨hn, hm⟩, ⟨fl1, fl2⟩, al, q⟩ := h
  have hu := hu40 hr
  have bl := B.len
  have D0 := B.batD hn hm fl2
  refine ⟨_, (pss_cons (psS (i := 2) sc__law_said.nd (peTup (pa_cons (peIxK (K := K) rfl (pq 0) pe_int) (pa_cons (peIxK (K := K) rfl (pq 0) pe_int) (pa_cons (peComp (N := ["_law_field_here"]) (ks := [none]) (piSeqK (K := K) rfl (peIxK (K := K) rfl (pq 0) pe_int)) (fun cl C s3 H3 fp => (pg_name (i := 0) nb_9 rfl (by first | exact Or.inl rfl | exact Or.inr rfl))) (fun cl C s3 H3 fp => pts_nil) (fun cl C s3 H3 fp => (pD D__law_copy hr pass0 (pa_cons (pq 0) pa_nil))) (.skip .nil)) pa_nil)))))
      (pss_cons (psS (i := 3) sc__law_said.nd (pD D_is_alike hr passR0 (pa_cons (pq 2) pa_nil)))
      (pss_cons (psIf (ptW (pwOr (pt_not (ptV (pB (cIsiK (K := K) rfl) N.isinstance_ bt_isinstance (pa_cons (pq 3) (pa_cons (pTy N.bool_ bt_bool) pa_nil))))) (pwOr (ptC (oNeXK (K := K) rfl (by exact hu)) (pq 3) (pq 1)) (pw_or1 (ptC (oNeXK (K := K) rfl (by exact hu)) (pq 2) (pq 0)))))) (pss_one (ps_ret pe_bl)) pss_nil)
      (pss_cons (psS (i := 4) sc__law_said.nd (peLst (pa_cons (pe_op oAdd (peLst (pa_cons (peIxK (K := K) rfl (pq 0) pe_int) pa_nil)) (pe_op oMul (peLst (pa_cons pe_int pa_nil)) (pe_op oSub (pB (cLenK (K := K) rfl) N.len_ bt_len (pa_cons (peIxK (K := K) rfl (pq 0) pe_int) pa_nil)) pe_int))) (pa_cons (pe_op oAdd (peLst (pa_cons (peIxK (K := K) rfl (pq 0) pe_int) pa_nil)) (pe_op oMul (peLst (pa_cons pe_int pa_nil)) (pe_op oSub (pB (cLenK (K := K) rfl) N.len_ bt_len (pa_cons (peIxK (K := K) rfl (pq 0) pe_int) pa_nil)) pe_int))) pa_nil))))
      (pss_cons (psIf (ptV (pq 1)) (pss_cons (psFor PassesOwn.never rfl (piSeqK (K := K) rfl (peLst (pa_cons (peLst (pa_cons (peIxK (K := K) rfl (pq 4) pe_int) (pa_cons (pe_op oAdd (peIxK (K := K) rfl (pq 4) pe_int) (peLst (pa_cons pe_int pa_nil))) pa_nil))) (pa_cons (peLst (pa_cons (pe_op oAdd (peLst (pa_cons (pe_un uNeg pe_int) pa_nil)) (pe_slice (slXK (K := K) rfl) (peIxK (K := K) rfl (pq 4) pe_int) (poSome pe_int) po_none)) (pa_cons (peIxK (K := K) rfl (pq 4) pe_int) pa_nil))) (pa_cons (peLst (pa_cons (peLst pa_nil) (pa_cons (peIxK (K := K) rfl (pq 4) pe_int) pa_nil))) pa_nil))))) (pg_name (i := 5) sc__law_said.nd rfl (by first | exact Or.inl rfl | exact Or.inr rfl)) (pss_one (psIf (ptC (oNeXK (K := K) rfl (by exact hu)) (pD D__law_marks hr pass0 (pa_cons (pD D__law_caught hr pass0 (pa_cons pe_int (pa_cons (pq 2) (pa_cons (peIxK (K := K) rfl (pq 5) pe_int) (pa_cons (peIxK (K := K) rfl (pq 5) pe_int) pa_nil))))) pa_nil)) (peLst (pa_cons pe_str pa_nil))) (pss_one (ps_ret pe_bl)) pss_nil)))
      (pss_one (ps_ret pe_bl))) pss_nil)
      (pss_cons (psFor PassesOwn.never rfl (piRng2 N.range_ (pa_cons pe_int (pa_cons pe_int pa_nil))) (pg_name (i := 6) sc__law_said.nd rfl (by first | exact Or.inl rfl | exact Or.inr rfl)) (pss_one (psFor PassesOwn.never rfl (piSeqK (K := K) rfl (peLst (pa_cons (peIxK (K := K) rfl (pq 4) pe_int) (pa_cons (peLst (pa_cons (pe_un uNeg pe_int) pa_nil)) pa_nil)))) (pg_name (i := 7) sc__law_said.nd rfl (by first | exact Or.inl rfl | exact Or.inr rfl)) (pss_one (psIf (ptW (pwOr (ptC (oNeXK (K := K) rfl (by exact hu)) (pD D__law_marks hr pass0 (pa_cons (pD D__law_caught hr pass0 (pa_cons (pq 6) (pa_cons (pq 2) (pa_cons (pq 7) (pa_cons (peIxK (K := K) rfl (pq 4) pe_int) pa_nil))))) pa_nil)) (peLst (pa_cons pe_str pa_nil))) (pw_or1 (ptC (oNeXK (K := K) rfl (by exact hu)) (pq 2) (pq 0))))) (pss_one (ps_ret pe_bl)) pss_nil)))))
      (pss_one (ps_ret pe_bl)))))))), ?_⟩
  refine ixT_rd (v := .int n) B.out rfl ?_
  refine ixT_rd (v := .int m) B.out rfl ?_
  refine ixT_rd (v := .ref l) B.out rfl ?_
  refine iterL_rd B.lst ?_
  refine comp_A (Wk.list (SqL.of B.lst)) (by rw [List.length_map, sizeLine_eq]; omega) (fun acc j ys σ I => ∃ (t : Option V) (qs : List Addr), σ = [t] ∧ ys = qs.map V.ref ∧ qs.length = j ∧ ∀ (i : Nat) r f, qs[i]? = some r → fs[i]? = some f → FdAt (rm acc I) r n m f) ?_ ?_ ?_ ?_
  · intro acc I f1 s2 h1
    exact ⟨none, [], rfl, rfl, rfl, fun i r f e => by simp at e⟩
  · rintro acc j ys σ I I' s' ⟨t, qs, r1, r2, r3, r4⟩
    exact ⟨t, qs, r1, r2, r3, fun i r f e1 e2 => (r4 i r f e1 e2).same (Same.rm s')⟩
  · rintro acc j v ys σ I R S hj facc s1 hacc hx ⟨t, qs, rfl, rfl, ql, qp⟩ kR _
    rw [List.getElem?_map] at hx
    obtain ⟨p, ep, rfl⟩ := Option.map_eq_some_iff.mp hx
    obtain ⟨f, ef⟩ : ∃ f, fs[j]? = some f := ⟨_, List.getElem?_eq_getElem (by have := (List.getElem?_eq_some_iff.mp ep).1; omega)⟩
    have Fp := B.fld j p f ep ef
    refine br_T ?_
    refine copy_rd (Fp.same s1) hn hm (fun r I1 s2 hr2 => ?_)
    walk_at "wh"
    refine kR _ _ _ s2 (fun I2 c2 => ⟨_, qs ++ [r], rfl, by rw [List.map_append]; rfl, by rw [List.length_append, ql]; rfl, fun i r' f' g1 g2 => ?_⟩)
    rcases getElem?_push g1 with ⟨_, g1⟩ | ⟨hi, rfl⟩
    · exact (qp i r' f' g1 g2).same ((Same.rm s2).trans (Chg.rm c2))
    · have : f' = f := by
        have h2 : fs[j]? = some f' := by rw [← g2]; congr 1; omega
        rw [ef] at h2
        exact (Option.some.inj h2).symm
      subst this
      rcases hr2 with rfl | hr2
      · exact Fp.same fun x o e => rm_at (ne_of_none e facc) (c2 _ _ (ne_of_none e facc) (s2 _ _ (s1 _ _ e)))
      · exact hr2.same fun x o e => by
          obtain ⟨z1, z2⟩ := nw_of e
          have nx : x ≠ acc := fun w => by rw [w, hacc] at z1; cases z1
          exact rm_at nx (c2 _ _ nx z2)
  rintro acc ys σ H1 facc s1 hacc ⟨t, qs, rfl, rfl, ql, qp⟩
  rw [List.length_map] at ql
  refine newT_rd (fun hb H2 f2 s2 h2 => ?_)
  have s02 := s1.trans s2
  have C2 : BfAt H2 hb acc qs n m fs := ⟨h2, s2 _ _ hacc, by walk_at "om", fun i p f e1 e2 => ((qp i p f e1 e2).same (rm_same _ _)).same s2, B.ok⟩
  have D2 := C2.batD hn hm fl2
  have dn := B.due hn hm ⟨fl1, fl2⟩
  have oB := D2.okB
  refine is_alikeD_rd D2 (fun _ H3 s3 => ?_) (fun k e => by rw [dn] at e; cases e)
  have al' : ((fs.map (fdDat n m)).all fun d => d.eqv ((fs.map (fdDat n m)).getD 0 .none)) = du := al
  rw [al']
  have s03 := s02.trans s3
  refine isiB_rd ?_
  refine br_not (br_T ?_)
  walk_at "wh"
  rw [decide_eq_true (rfl : du = du)]
  refine br_F ?_
  refine eqS_rd (D2.same s3).sh' (D0.same s03).sh' oB.2.1 oB.2.1 (Nat.le_trans oB.2.2 (by decide)) ?_
  rw [oB.eqv]
  refine br_F ?_
  -- the plans
  have B3 := B.same s03
  have D3 := D2.same s3
  have mk : ∀ (x : Nat) {J : Hp} {z : Addr}, J z = some (.lst ([V.int x] ++ (List.replicate ((fs.length : Int) - 1).toNat [V.int 0]).flatten)) → J z = some (.lst ((((x : Int) :: List.replicate (fs.length - 1) 0)).map V.int)) := fun x {J z} e => by
    rw [e]
    congr 2
    rw [show ((fs.length : Int) - 1).toNat = fs.length - 1 by walk_at "om", List.map_cons, List.map_replicate, rep_flat]
    rfl
  refine ixT_rd (v := .int n) B3.out rfl ?_
  refine newL_rd (fun a1 J1 b1 y1 m1 => ?_)
  refine newL_rd (fun a2 J2 b2 y2 m2 => ?_)
  have B5 := (B3.same y1).same y2
  refine ixT_rd (v := .ref l) B5.out rfl ?_
  refine lenL_rd B5.lst ?_
  rw [List.length_map, bl]
  refine rep_rd m2 (by walk_at "om") (by walk_at "om") (by rw [sizeLine_eq, List.length_singleton]; omega) (fun a3 J3 b3 y3 m3 => ?_)
  refine cat_rd ((y2.trans y3) _ _ m1) m3 (by rw [List.length_singleton, sizeLine_eq]; have := rep_len ((fs.length : Int) - 1).toNat [V.int 0]; rw [List.length_singleton] at this; omega) (fun a4 J4 b4 y4 m4 => ?_)
  have m4 := mk n m4
  have y14 := ((y1.trans y2).trans y3).trans y4
  have B6 := B3.same y14
  refine ixT_rd (v := .int m) B6.out rfl ?_
  refine newL_rd (fun a5 J5 b5 y5 m5 => ?_)
  refine newL_rd (fun a6 J6 b6 y6 m6 => ?_)
  have B7 := (B6.same y5).same y6
  refine ixT_rd (v := .ref l) B7.out rfl ?_
  refine lenL_rd B7.lst ?_
  rw [List.length_map, bl]
  refine rep_rd m6 (by walk_at "om") (by walk_at "om") (by rw [sizeLine_eq, List.length_singleton]; omega) (fun a7 J7 b7 y7 m7 => ?_)
  refine cat_rd ((y6.trans y7) _ _ m5) m7 (by rw [List.length_singleton, sizeLine_eq]; have := rep_len ((fs.length : Int) - 1).toNat [V.int 0]; rw [List.length_singleton] at this; omega) (fun a8 J8 b8 y8 m8 => ?_)
  have m8 := mk m m8
  refine newL_rd (fun pl J9 b9 y9 m9 => ?_)
  have y49 := (((y5.trans y6).trans y7).trans y8).trans y9
  have y19 := y14.trans y49
  have e1 := y49 _ _ m4
  have e2 := y9 _ _ m8
  have D9 := D3.same y19
  have D90 := (D0.same s03).same y19
  have s09 := s03.trans y19
  have dsl : (fs.map (fdDat n m)).length = fs.length := List.length_map _
  generalize eP : (((n : Int) :: List.replicate (fs.length - 1) 0)) = P1 at e1
  generalize eR : (((m : Int) :: List.replicate (fs.length - 1) 0)) = P2 at e2
  have l1 : P1.length = fs.length := by rw [← eP, List.length_cons, List.length_replicate]; omega
  have l2 : P2.length = fs.length := by rw [← eR, List.length_cons, List.length_replicate]; omega
  cases du
  · -- not alike
    refine br_F ?_
    refine range_rd (by decide) (by decide) (by decide) (by decide) ?_
    refine loop_range (fun i σ I => ∃ x y z : Option V, σ = [some (.ref b), some (.bl false), some (.ref hb), some (.bl false), some (.ref pl), x, y, z] ∧ Same J9 I) ?_ ?_ ?_
    · exact ⟨_, _, _, rfl, Same.refl _⟩
    · rintro i σ I hi ⟨_, _, _, rfl, sI⟩
      have hi : i < 3 := hi
      refine ixL_rd (v := .ref a4) (sI _ _ m9) rfl ?_
      refine newL_rd (fun c1 I1 d1 z1 n1 => ?_)
      refine newL_rd (fun c2 I2 d2 z2 n2 => ?_)
      have s2' := (sI.trans z1).trans z2
      refine iterL_rd n2 ?_
      refine loop_list (xs := [V.ref a4, .ref c1]) (fun j σ I => ∃ x z : Option V, σ = [some (.ref b), some (.bl false), some (.ref hb), some (.bl false), some (.ref pl), x, some (.int (1 + (i : Int))), z] ∧ Same I2 I) ?_ ?_ ?_ ?_
      · exact ⟨_, _, rfl, Same.refl _⟩
      · rintro j σ I' _ ⟨_, _, _, s'⟩
        exact SqL.of (s' _ _ n2)
      · rintro j v σ I' hv ⟨_, _, rfl, s'⟩
        have sI' := s2'.trans s'
        obtain ⟨p1, hp1, op1⟩ : ∃ p1, ShV I' v p1 ∧ sml p1 = true := by
          have hm := List.mem_of_getElem? hv
          simp only [List.mem_cons, List.not_mem_nil, or_false] at hm
          rcases hm with rfl | rfl
          · exact ⟨_, intsS (sI' _ _ e1), intsSm _ (by walk_at "om")⟩
          · exact ⟨_, intsS (ns := [-1]) (s' _ _ (z2 _ _ n1)), by decide⟩
        refine ixL_rd (v := .ref a8) (sI' _ _ m9) rfl ?_
        refine caughtA_rd (D9.same sI') hp1 op1 (intsS (sI' _ _ e2)) (intsSm _ (by walk_at "om")) (by walk_at "om") dn al (fun e K1 t1 he => ?_)
        refine marks_rd (.inl he) (.inl ⟨rfl, rfl⟩) (fun r K2 u2 t2 hr2 => ?_)
        refine newL_rd (fun r3 K3 u3 t3 hr3 => ?_)
        have ow := wordOk (w := "alike") (by decide +kernel)
        refine eqS_rd (d := .list [.str "alike"]) (e := .list [.str "alike"]) (.lst (t3 _ _ hr2) (.cons (.str _) .nil)) (.lst hr3 (.cons (.str _) .nil)) ow.2.1 ow.2.1 (Nat.le_trans ow.2.2 (by decide)) ?_
        rw [ow.eqv]
        refine br_F ?_
        have tt := (t1.trans t2).trans t3
        refine eqS_rd ((D9.same sI').same tt).sh' ((D90.same sI').same tt).sh' oB.2.1 oB.2.1 (Nat.le_trans oB.2.2 (by decide)) ?_
        rw [oB.eqv]
        refine br_F ?_
        walk_at "wh"
        exact ⟨_, _, rfl, s'.trans tt⟩
      · rintro σ I' ⟨_, _, rfl, s'⟩
        walk_at "wh"
        exact ⟨_, _, _, rfl, s2'.trans s'⟩
    · rintro σ I ⟨_, _, _, rfl, sI⟩
      walk_at "wh"
      exact q _ (s09.trans sI)
  · -- alike
    refine br_T ?_
    refine ixL_rd (v := .ref a4) m9 rfl ?_
    refine ixL_rd (v := .ref a8) m9 rfl ?_
    refine newL_rd (fun c1 I1 d1 z1 n1 => ?_)
    refine cat_rd (z1 _ _ e2) n1 (by rw [List.length_map, l2, List.length_singleton, sizeLine_eq]; omega) (fun c2 I2 d2 z2 n2 => ?_)
    have n2 : I2 c2 = some (.lst ((P2 ++ [0]).map V.int)) := by rw [n2, List.map_append]; rfl
    refine newL_rd (fun c3 I3 d3 z3 n3 => ?_)
    refine newL_rd (fun c4 I4 d4 z4 n4 => ?_)
    have z14 := ((z1.trans z2).trans z3).trans z4
    refine ixL_rd (v := .ref a4) (z14 _ _ m9) rfl ?_
    refine slL_rd (SqL.of (z14 _ _ e1)) (fun c5 I5 d5 z5 n5 => ?_)
    rw [cut_drop (by decide), ← List.map_drop] at n5
    refine cat_rd (z5 _ _ n4) n5 (by rw [List.length_singleton, List.length_map, List.length_drop, sizeLine_eq]; omega) (fun c6 I6 d6 z6 n6 => ?_)
    have n6 : I6 c6 = some (.lst ((([-1] : List Int) ++ P1.drop 1).map V.int)) := by rw [n6, List.map_append]; rfl
    have z16 := (z14.trans z5).trans z6
    refine ixL_rd (v := .ref a8) (z16 _ _ m9) rfl ?_
    refine newL_rd (fun c7 I7 d7 z7 n7 => ?_)
    refine newL_rd (fun c8 I8 d8 z8 n8 => ?_)
    have z18 := (z16.trans z7).trans z8
    refine ixL_rd (v := .ref a8) (z18 _ _ m9) rfl ?_
    refine newL_rd (fun c9 I9 d9 z9 n9 => ?_)
    refine newL_rd (fun c10 I10 d10 z10 n10 => ?_)
    have z8a := z9.trans z10
    have z7a := z8.trans z8a
    have z6a := z7.trans z7a
    have z3a := ((z4.trans z5).trans z6).trans z6a
    have z2a := z3.trans z3a
    have z1a := z18.trans z8a
    refine iterL_rd n10 ?_
    refine loop_list (xs := [V.ref c3, .ref c7, .ref c9]) (fun j σ I => ∃ x y z : Option V, σ = [some (.ref b), some (.bl true), some (.ref hb), some (.bl true), some (.ref pl), x, y, z] ∧ Same I10 I) ?_ ?_ ?_ ?_
    · exact ⟨_, _, _, rfl, Same.refl _⟩
    · rintro j σ I' _ ⟨_, _, _, _, s'⟩
      exact SqL.of (s' _ _ n10)
    · rintro j v σ I' hv ⟨_, _, _, rfl, s'⟩
      have sI' := z1a.trans s'
      obtain ⟨r, v1, v2, p1, p2, rfl, hr', h1, o1, h2, o2, bad⟩ : ∃ r v1 v2 p1 p2, v = .ref r ∧ I' r = some (.lst [v1, v2]) ∧ ShV I' v1 p1 ∧ sml p1 = true ∧ ShV I' v2 p2 ∧ sml p2 = true ∧ (planD n (fs.map (fdDat n m)).length p1 && planD m (fs.map (fdDat n m)).length p2) = false := by
        have hm' := List.mem_of_getElem? hv
        simp only [List.mem_cons, List.not_mem_nil, or_false] at hm'
        rcases hm' with rfl | rfl | rfl
        · exact ⟨c3, _, _, _, _, rfl, s' _ _ (z3a _ _ n3), intsS (sI' _ _ e1), intsSm _ (by walk_at "om"), intsS (s' _ _ (z2a _ _ n2)), intsSm _ (by rw [List.length_append, List.length_singleton]; omega), by rw [plan_len (ns := P2 ++ [0]) (by rw [List.length_append, List.length_singleton, dsl]; omega), Bool.and_false]⟩
        · exact ⟨c7, _, _, _, _, rfl, s' _ _ (z7a _ _ n7), intsS (s' _ _ (z6a _ _ n6)), intsSm _ (by rw [List.length_append, List.length_singleton, List.length_drop]; omega), intsS (sI' _ _ e2), intsSm _ (by walk_at "om"), by rw [plan_neg (ns := [-1] ++ P1.drop 1) (by simp), Bool.false_and]⟩
        · exact ⟨c9, _, _, _, _, rfl, s' _ _ (z10 _ _ n9), intsS (ns := []) (s' _ _ (z8a _ _ n8)), by decide, intsS (sI' _ _ e2), intsSm _ (by walk_at "om"), by rw [plan_len (ns := []) (by rw [dsl]; simp; omega), Bool.false_and]⟩
      refine ixL_rd (v := v1) hr' rfl ?_
      refine ixL_rd (v := v2) hr' rfl ?_
      refine caughtP_rd (D9.same sI') h1 o1 h2 o2 dn al bad (fun e K1 t1 he => ?_)
      refine marks_rd (.inl he) (.inr (.inr ⟨rfl, rfl⟩)) (fun r2 K2 u2 t2 hr2 => ?_)
      refine newL_rd (fun r3 K3 u3 t3 hr3 => ?_)
      have ow := wordOk (w := "plan") (by decide +kernel)
      refine eqS_rd (d := .list [.str "plan"]) (e := .list [.str "plan"]) (.lst (t3 _ _ hr2) (.cons (.str _) .nil)) (.lst hr3 (.cons (.str _) .nil)) ow.2.1 ow.2.1 (Nat.le_trans ow.2.2 (by decide)) ?_
      rw [ow.eqv]
      refine br_F ?_
      walk_at "wh"
      exact ⟨_, _, _, rfl, s'.trans ((t1.trans t2).trans t3)⟩
    · rintro σ I' ⟨_, _, _, rfl, s'⟩
      walk_at "wh"
      exact q _ (s09.trans (z1a.trans s'))
-- @@split
/-! ### the law -/
def spLaw (K : PySem.W.Frag) : Sp := fun vs H Q _ => ∃ (a : Addr) (ns : List Int), vs = [.ref a] ∧ SqL K H a (ns.map V.int) ∧ ns.length ≤ 63 ∧ ∀ H', Q (.bl true) H'
theorem alike_same {n m : Nat} {fs : List Fd} {f : Fd} (hn : n ≤ 10) (hm : m ≤ 10) (h : ∀ g ∈ fs, g = f) : alikeB (fs.map (fdDat n m)) = true := by
  unfold alikeB
  rw [List.all_eq_true]
  intro d hd
  obtain ⟨g, hg, rfl⟩ := List.mem_map.mp hd
  have e0 : (fs.map (fdDat n m)).getD 0 .none = fdDat n m f := by
    cases fs with
    | nil => cases hg
    | cons x xs => rw [h x (.head _)]; rfl
  rw [e0, h g hg]
  exact (fdDat_ok (by walk_at "om") (by walk_at "om") f).eqv
theorem alike_one {n m : Nat} {f : Fd} (hn : n ≤ 10) (hm : m ≤ 10) : alikeB ([f].map (fdDat n m)) = true := alike_same hn hm (f := f) fun g hg => List.mem_singleton.mp hg
theorem alike_not {n m : Nat} {fs : List Fd} {f f' : Fd} {i : Nat} (hl : 2 ≤ fs.length) (hi : i < fs.length) (h : ∀ g ∈ fs, g = f) (u : Unl n m f f') : alikeB ((fs.take i ++ [f'] ++ fs.drop (i + 1)).map (fdDat n m)) = false := not_true fun z => by
  unfold alikeB at z
  rw [List.all_eq_true] at z
  obtain ⟨x0, ex0⟩ : ∃ x, fs[0]? = some x := ⟨_, List.getElem?_eq_getElem (by walk_at "om")⟩
  by_cases h0 : i = 0
  · subst h0
    have e0 : ((fs.take 0 ++ [f'] ++ fs.drop (0 + 1)).map (fdDat n m)).getD 0 .none = fdDat n m f' := rfl
    obtain ⟨x1, ex1⟩ : ∃ x, fs[1]? = some x := ⟨_, List.getElem?_eq_getElem (by walk_at "om")⟩
    have := z (fdDat n m x1) (List.mem_map.mpr ⟨x1, List.mem_append_right _ (List.mem_of_getElem? (i := 0) (by rw [List.getElem?_drop]; exact ex1)), rfl⟩)
    rw [e0, h x1 (List.mem_of_getElem? ex1), u.1] at this
    cases this
  · have e0 : ((fs.take i ++ [f'] ++ fs.drop (i + 1)).map (fdDat n m)).getD 0 .none = fdDat n m f := by
      rw [List.getD_eq_getElem?_getD, List.getElem?_map, List.append_assoc, List.getElem?_append_left (by rw [List.length_take]; omega), List.getElem?_take, if_pos (by walk_at "om"), ex0, h x0 (List.mem_of_getElem? ex0)]; rfl
    have := z (fdDat n m f') (List.mem_map.mpr ⟨f', List.mem_append_left _ (List.mem_append_right _ (.head _)), rfl⟩)
    rw [e0, u.2] at this
    cases this
theorem nw_rr {p c : Addr} {b : Int} {H H' : Hp} (P : PurseAt H p c b) : Same (nw H H') (rr p c H') := fun x o e => by
  obtain ⟨z1, z2⟩ := nw_of e
  exact rr_at (P.neP z1) (P.neC z1) z2
theorem bf_of {H : Hp} {b l : Addr} {qs : List Addr} {n m : Nat} {fs : List Fd} (h1 : H b = some (.tup [.int n, .int m, .ref l])) (h2 : H l = some (.lst (qs.map V.ref))) (hl : qs.length = fs.length) (hf : ∀ (i : Nat) p f, qs[i]? = some p → fs[i]? = some f → FdAt H p n m f) (ok : ∀ f ∈ fs, f.Ok ∧ f.Sq n m) : BfAt H b l qs n m fs := ⟨h1, h2, hl, hf, ok⟩
set_option maxHeartbeats 0 in
theorem ok_law {f : Addr} {fd : FuncData} (F : Fun K "law" "law" s_law f fd) (N : Nm mg) (D__law_caught : Def P w K mg base CX0 11 "_law_caught" ["_law_way", "_law_battle", "_law_one", "_law_other"] (sp__law_caught a_NoBattle a_NoPlan a_NoAlike)) (D__law_changed : Def P w K mg base CX0 2 "_law_changed" ["_law_purse_here", "_law_field_here", "_law_first", "_law_second"] sp__law_changed) (D__law_copy : Def P w K mg base CX0 1 "_law_copy" ["_law_field_here"] sp__law_copy) (D__law_draw : Def P w K mg base CX0 1 "_law_draw" ["_law_purse_here", "_law_out_of"] sp__law_draw) (D__law_field : Def P w K mg base CX0 2 "_law_field" ["_law_purse_here", "_law_first", "_law_second"] sp__law_field) (D__law_marks : Def P w K mg base CX0 1 "_law_marks" ["_law_caught_here"] (sp__law_marks a_NoBattle a_NoPlan a_NoAlike)) (D__law_no_battle : Def P w K mg base CX0 3 "_law_no_battle" ["_law_purse_here", "_law_battle"] sp__law_no_battle) (D__law_purse : Def P w K mg base CX0 1 "_law_purse" ["_law_script"] (sp__law_purse K)) (D__law_said : Def P w K mg base CX0 12 "_law_said" ["_law_battle", "_law_due"] sp__law_said) (Z : Cz K mg base a_HostError a_NoBattle a_NoPlan a_NoMix a_NoStream a_NoSide a_NoAlike a_NoNumber a_TooGreat a_NoEven a_NoText a_NoRow a_NoName a_NoPlace a_Grid i_NoBattle) : FnOk P w K mg base CX0 13 f fd ["_law_script"] (spLaw K) := by
  refine F.ok sc_law (fun vs H Q E h => by obtain ⟨n, k, rfl, _⟩ := h; rfl) (fun cdv A outer s H vs Q E hr h => ?_)
  obtain ⟨a, ns0, rfl, hS, hlen, kf⟩ := h
  have hu := hu40 hr
  refine ⟨_, (pss_cons (psS (i := 1) sc_law.nd (pD D__law_purse hr pass0 (pa_cons (pq 0) pa_nil)))
      (pss_cons (psFor PassesOwn.never rfl (piRng1 N.range_ (pa_cons pe_int pa_nil)) (pg_name (i := 2) sc_law.nd rfl (by first | exact Or.inl rfl | exact Or.inr rfl)) (pss_cons (psS (i := 3) sc_law.nd (pD D__law_draw hr pass0 (pa_cons (pq 1) (pa_cons pe_int pa_nil))))
      (pss_cons (psS (i := 4) sc_law.nd (pD D__law_draw hr pass0 (pa_cons (pq 1) (pa_cons pe_int pa_nil))))
      (pss_cons (psS (i := 5) sc_law.nd (pD D__law_field hr pass0 (pa_cons (pq 1) (pa_cons (pq 3) (pa_cons (pq 4) pa_nil)))))
      (pss_cons (psC (i := 6) (N := ["_law_k", "_law_field_here"]) (ks := [none, some 5]) sc_law.nd (piRng1 N.range_ (pa_cons (pe_op oAdd pe_int (pD D__law_draw hr pass0 (pa_cons (pq 1) (pa_cons pe_int pa_nil)))) pa_nil)) (fun cl C s3 H3 fp => (pg_name (i := 0) nb_10 rfl (by first | exact Or.inl rfl | exact Or.inr rfl))) (fun cl C s3 H3 fp => pts_nil) (fun cl C s3 H3 fp => (pD D__law_copy hr pass0 (pa_cons (pq 1) pa_nil))) (.skip (.take rfl rfl (by first | exact Or.inl rfl | exact Or.inr rfl) .nil)))
      (pss_cons (psS (i := 7) sc_law.nd (peTup (pa_cons (pq 3) (pa_cons (pq 4) (pa_cons (pq 6) pa_nil)))))
      (pss_cons (psS (i := 8) sc_law.nd (pD D__law_draw hr pass0 (pa_cons (pq 1) (pa_cons (pB (cLenK (K := K) rfl) N.len_ bt_len (pa_cons (pq 6) pa_nil)) pa_nil))))
      (pss_cons (psS (i := 9) sc_law.nd (pe_op oAdd (pe_op oAdd (pe_slice (slXK (K := K) rfl) (pq 6) po_none (poSome (pq 8))) (peLst (pa_cons (pD D__law_changed hr pass0 (pa_cons (pq 1) (pa_cons (pq 5) (pa_cons (pq 3) (pa_cons (pq 4) pa_nil))))) pa_nil))) (pe_slice (slXK (K := K) rfl) (pq 6) (poSome (pe_op oAdd (pq 8) pe_int)) po_none)))
      (pss_cons (psIf (ptW (pwOr (pt_not (ptV (pD D__law_said hr pass0 (pa_cons (pq 7) (pa_cons pe_bl pa_nil))))) (pw_or1 (pt_not (ptV (pD D__law_said hr pass0 (pa_cons (peTup (pa_cons (pq 3) (pa_cons (pq 4) (pa_cons (pq 9) pa_nil)))) (pa_cons (peC (oEqXK (K := K) rfl (by exact hu)) (pB (cLenK (K := K) rfl) N.len_ bt_len (pa_cons (pq 6) pa_nil)) pe_int) pa_nil)))))))) (pss_one (ps_ret pe_bl)) pss_nil)
      (pss_cons (ps_asg (pD D__law_no_battle hr pass0 (pa_cons (pq 1) (pa_cons (peTup (pa_cons (pq 3) (pa_cons (pq 4) (pa_cons (peIxK (K := K) rfl (peLst (pa_cons (pq 6) (pa_cons (pq 9) pa_nil))) (pe_op oMod (pq 2) pe_int)) pa_nil)))) pa_nil))) (pgAnyK (K := K) (n := 2) rfl rfl (pgsCons (pg_name (i := 10) sc_law.nd rfl (by first | exact Or.inl rfl | exact Or.inr rfl)) (pgsCons (pg_name (i := 11) sc_law.nd rfl (by first | exact Or.inl rfl | exact Or.inr rfl)) pgsNil))))
      (pss_cons (psS (i := 12) sc_law.nd (pT (cStrA hr) N.str_ bt_str (pa_cons (pq 10) pa_nil)))
      (pss_one (psFor PassesOwn.never rfl (piRng1 N.range_ (pa_cons pe_int pa_nil)) (pg_name (i := 13) sc_law.nd rfl (by first | exact Or.inl rfl | exact Or.inr rfl)) (pss_cons (psS (i := 14) sc_law.nd (pD D__law_caught hr pass0 (pa_cons (pq 13) (pa_cons (pq 10) (pa_cons (peLst (pa_cons (pe_un uNeg pe_int) pa_nil)) (pa_cons (peLst pa_nil) pa_nil))))))
      (pss_cons (psIf (ptW (pwOr (ptC (oNeXK (K := K) rfl (by exact hu)) (pD D__law_marks hr pass0 (pa_cons (pq 14) pa_nil)) (peLst (pa_cons pe_str pa_nil))) (pwOr (ptV (pB (cIsiK (K := K) rfl) N.isinstance_ bt_isinstance (pa_cons (peFldE (K := K) rfl (pq 14)) (pa_cons (pTy N.bool_ bt_bool) pa_nil)))) (pw_or1 (ptC (oNeXK (K := K) rfl (by exact hu)) (peFldE (K := K) rfl (pq 14)) (pq 11)))))) (pss_one (ps_ret pe_bl)) pss_nil)
      (pss_one (psIf (ptC (oNeXK (K := K) rfl (by exact hu)) (pT (cStrA hr) N.str_ bt_str (pa_cons (pq 10) pa_nil)) (pq 12)) (pss_one (ps_ret pe_bl)) pss_nil)))))))))))))))))
      (pss_one (ps_ret pe_bl)))), ?_⟩
  refine purse_rd hS hlen (fun p c H1 fp fc s1 P1 => ?_)
  refine range_rd (by decide) (by decide) (by decide) (by decide) ?_
  refine loop_range (fun i σ I => ∃ x1 x2 x3 x4 x5 x6 x7 x8 x9 x10 x11 x12 x13 : Option V, σ = [some (.ref a), some (.ref p), x1, x2, x3, x4, x5, x6, x7, x8, x9, x10, x11, x12, x13] ∧ PurseAt I p c (2000 * i)) ?_ ?_ ?_
  · exact ⟨_, _, _, _, _, _, _, _, _, _, _, _, _, rfl, P1.up (by walk_at "om")⟩
  · rintro i σ I hi ⟨x1, x2, x3, x4, x5, x6, x7, x8, x9, x10, x11, x12, x13, rfl, PI⟩
    have hi : i < 4 := hi
    refine draw_rd PI (by walk_at "om") (by walk_at "om") (by walk_at "om") (fun dn I1 dn0 dn1 c1 P2 => ?_)
    obtain ⟨n, rfl⟩ : ∃ n : Nat, dn = n := ⟨dn.toNat, by walk_at "om"⟩
    refine draw_rd P2 (by walk_at "om") (by walk_at "om") (by walk_at "om") (fun dm I2 dm0 dm1 c2 P3 => ?_)
    obtain ⟨m, rfl⟩ : ∃ n : Nat, dm = n := ⟨dm.toNat, by walk_at "om"⟩
    have hn : n ≤ 10 := by walk_at "om"
    have hm : m ≤ 10 := by walk_at "om"
    refine law_field_rd P3 (by walk_at "om") hn hm (fun q f I3 c3 P4 F3 fok fsm => ?_)
    have F3 : FdAt (rr p c I3) q n m f := F3.same (nw_rr P3)
    refine draw_rd P4 (by walk_at "om") (by walk_at "om") (by walk_at "om") (fun dk I4 dk0 dk1 c4 P5 => ?_)
    have F4 := F3.same (Chg2.rr c4)
    refine range_rd (by decide) (by decide) (by walk_at "om") (by walk_at "om") ?_
    obtain ⟨k, ek⟩ : ∃ k : Nat, (1 + dk - 0).toNat = k := ⟨_, rfl⟩
    rw [ek]
    have hk : 1 ≤ k ∧ k ≤ 5 := by walk_at "om"
    refine comp_A (n := k) Wk.range (by rw [sizeLine_eq]; omega) (fun acc j ys σ J => ∃ (t : Option V) (qs : List Addr), σ = [t, some (.ref q)] ∧ ys = qs.map V.ref ∧ qs.length = j ∧ ∀ r ∈ qs, FdAt (rm acc (rr p c J)) r n m f) ?_ ?_ ?_ ?_
    · intro acc J f1 s2 h1
      exact ⟨none, [], rfl, rfl, rfl, fun r hr => by cases hr⟩
    · rintro acc j ys σ J J' s' ⟨t, qs, r1, r2, r3, r4⟩
      exact ⟨t, qs, r1, r2, r3, fun r hr => (r4 r hr).same (Same.rm (Same.rr s'))⟩
    · rintro acc j v ys σ J R S hj facc s1 hacc hx ⟨t, qs, rfl, rfl, ql, qp⟩ kR _
      refine br_T ?_
      refine copy_rd ((F4.same (Same.rr s1)).same (rr_same _ _ _)) hn hm (fun r J1 s2 hr2 => ?_)
      walk_at "wh"
      have PJ := P5.same s1
      refine kR _ _ _ s2 (fun J2 d2 => ⟨_, qs ++ [r], rfl, by rw [List.map_append]; rfl, by rw [List.length_append, ql]; rfl, fun r' hr' => ?_⟩)
      have nap : acc ≠ p ∧ acc ≠ c := ⟨P5.neP facc, P5.neC facc⟩
      rcases List.mem_append.mp hr' with hr' | hr'
      · refine (qp r' hr').same fun x o e => ?_
        obtain ⟨z1, z2⟩ := rm_of e
        obtain ⟨z3, z4, z5⟩ := rr_of z2
        exact rm_at z1 (rr_at z3 z4 (d2 _ _ z1 (s2 _ _ z5)))
      · rw [List.mem_singleton.mp hr']
        rcases hr2 with rfl | hr2
        · refine F4.same fun x o e => ?_
          obtain ⟨z3, z4, z5⟩ := rr_of e
          have z1 := ne_of_none z5 facc
          exact rm_at z1 (rr_at z3 z4 (d2 _ _ z1 (s2 _ _ (s1 _ _ z5))))
        · refine hr2.same fun x o e => ?_
          obtain ⟨z1, z2⟩ := nw_of e
          have nx : x ≠ acc := fun w => by rw [w, hacc] at z1; cases z1
          exact rm_at nx (rr_at (PJ.neP z1) (PJ.neC z1) (d2 _ _ nx z2))
    rintro l ys σ I5 fl s5 hl ⟨t, qs, rfl, rfl, ql, qp⟩
    have P6 := P5.same s5
    have nl : l ≠ p ∧ l ≠ c := ⟨P5.neP fl, P5.neC fl⟩
    have F5 := F4.same (Same.rr s5)
    have rp : ∀ r ∈ qs, FdAt (rr p c I5) r n m f := fun r hr => (qp r hr).same (rm_same _ _)
    let fs : List Fd := List.replicate k f
    have fsl : fs.length = k := List.length_replicate
    have fse : ∀ g ∈ fs, g = f := fun g hg => List.eq_of_mem_replicate hg
    refine newT_rd (fun b I6 f6 s6 h6 => ?_)
    have P7 := P6.same s6
    have nb : b ≠ p ∧ b ≠ c := ⟨P6.neP f6, P6.neC f6⟩
    have hl6 := s6 _ _ hl
    refine lenL_rd hl6 ?_
    rw [List.length_map, ql]
    refine draw_rd P7 (by walk_at "om") (by walk_at "om") (by walk_at "om") (fun da I7 da0 da1 c7 P8 => ?_)
    obtain ⟨w, rfl⟩ : ∃ x : Nat, da = x := ⟨da.toNat, by walk_at "om"⟩
    have c57 : Chg2 p c I5 I7 := s6.to2.trans c7
    have hl7 := c57 _ _ nl.1 nl.2 hl
    have hb7 := c7 _ _ nb.1 nb.2 h6
    refine slL_rd (SqL.of hl7) (fun z8 I8 f8 s8 h8 => ?_)
    rw [cut_takeV (by walk_at "om"), Int.toNat_natCast] at h8
    refine changed_rd (P8.same s8) (by walk_at "om") ((F5.same (Chg2.rr c57)).same (Same.rr s8)) hn hm fok fsm (fun r f' I9 c9 P9 F9 fok' un sq' => ?_)
    have n8 : z8 ≠ p ∧ z8 ≠ c := ⟨P8.neP f8, P8.neC f8⟩
    have c79 : Chg2 p c I7 I9 := s8.to2.trans c9
    have h89 := c9 _ _ n8.1 n8.2 h8
    have hl9 := c79 _ _ nl.1 nl.2 hl7
    refine newL_rd (fun z10 Ia fa sa ha => ?_)
    refine cat_rd (sa _ _ h89) ha (by rw [List.length_take, List.length_map, List.length_singleton, sizeLine_eq]; omega) (fun z11 Ib fb sb hb => ?_)
    refine slL_rd (SqL.of ((sa.trans sb) _ _ hl9)) (fun z12 Ic fc' sc hc => ?_)
    rw [cut_drop (by walk_at "om"), show ((w : Int) + 1).toNat = w + 1 by walk_at "om"] at hc
    refine cat_rd (sc _ _ hb) hc (by rw [List.length_append, List.length_take, List.length_map, List.length_singleton, List.length_drop, List.length_map, sizeLine_eq]; omega) (fun ch Id fd' sd hd => ?_)
    have s9d := ((sa.trans sb).trans sc).trans sd
    have Pc := P9.same ((sa.trans sb).trans sc)
    have nch : ch ≠ p ∧ ch ≠ c := ⟨Pc.neP fd', Pc.neC fd'⟩
    have Pd := P9.same s9d
    have c7d : Chg2 p c I7 Id := c79.same s9d
    have c5d : Chg2 p c I5 Id := c57.trans c7d
    have sqf := sq_of fsm
    have rpd : ∀ r ∈ qs, FdAt (rr p c Id) r n m f := fun r hr => (rp r hr).same (Chg2.rr c5d)
    have B1 : BfAt (rr p c Id) b l qs n m fs := bf_of (rr_at nb.1 nb.2 (c7d _ _ nb.1 nb.2 hb7)) (rr_at nl.1 nl.2 (c5d _ _ nl.1 nl.2 hl)) (by rw [ql, fsl]) (fun i p' g e1 e2 => by rw [fse g (List.mem_of_getElem? e2)]; exact rpd p' (List.mem_of_getElem? e1)) (fun g hg => by rw [fse g hg]; exact ⟨fok, sqf⟩)
    let cs : List Addr := qs.take w ++ [r] ++ qs.drop (w + 1)
    let gs : List Fd := fs.take w ++ [f'] ++ fs.drop (w + 1)
    have csv : (cs.map V.ref) = (qs.map V.ref).take w ++ [V.ref r] ++ (qs.map V.ref).drop (w + 1) := by show (qs.take w ++ [r] ++ qs.drop (w + 1)).map V.ref = _; rw [List.map_append, List.map_append, List.map_take, List.map_drop]; rfl
    have csl : cs.length = k := by show (qs.take w ++ [r] ++ qs.drop (w + 1)).length = k; rw [List.length_append, List.length_append, List.length_take, List.length_drop, List.length_singleton]; omega
    have gsl : gs.length = k := by show (fs.take w ++ [f'] ++ fs.drop (w + 1)).length = k; rw [List.length_append, List.length_append, List.length_take, List.length_drop, List.length_singleton]; omega
    have hd : Id ch = some (.lst (cs.map V.ref)) := by rw [hd, csv]
    have cg : ∀ (i : Nat) p' g, cs[i]? = some p' → gs[i]? = some g → FdAt (rr p c Id) p' n m g := fun i p' g e1 e2 => by
      have e1 : (qs.take w ++ [r] ++ qs.drop (w + 1))[i]? = some p' := e1
      have e2 : (fs.take w ++ [f'] ++ fs.drop (w + 1))[i]? = some g := e2
      rw [List.append_assoc] at e1 e2
      have t1 : (qs.take w).length = w := by rw [List.length_take]; omega
      have t2 : (fs.take w).length = w := by rw [List.length_take]; omega
      by_cases h1 : i < w
      · rw [List.getElem?_append_left (by walk_at "om")] at e1 e2
        rw [fse g (List.mem_of_mem_take (List.mem_of_getElem? e2))]
        exact rpd p' (List.mem_of_mem_take (List.mem_of_getElem? e1))
      · rw [List.getElem?_append_right (by walk_at "om"), t1] at e1
        rw [List.getElem?_append_right (by walk_at "om"), t2] at e2
        cases hj : i - w with
        | zero =>
          rw [hj] at e1 e2
          cases e1
          cases e2
          exact F9.same (Same.rr s9d)
        | succ j =>
          rw [hj] at e1 e2
          have e1 : (qs.drop (w + 1))[j]? = some p' := e1
          have e2 : (fs.drop (w + 1))[j]? = some g := e2
          rw [fse g (List.mem_of_mem_drop (List.mem_of_getElem? e2))]
          exact rpd p' (List.mem_of_mem_drop (List.mem_of_getElem? e1))
    have gok : ∀ g ∈ gs, g.Ok ∧ g.Sq n m := fun g hg => by
      rcases List.mem_append.mp hg with hg | hg
      · rcases List.mem_append.mp hg with hg | hg
        · rw [fse g (List.mem_of_mem_take hg)]; exact ⟨fok, sqf⟩
        · rw [List.mem_singleton.mp hg]; exact ⟨fok', sq'⟩
      · rw [fse g (List.mem_of_mem_drop hg)]; exact ⟨fok, sqf⟩
    refine said_rd (B1.same (rr_same _ _ _)) hn hm (by rw [fsl]; exact hk) (alike_same hn hm fse) (fun Ie se => ?_)
    refine br_not (br_T ?_)
    refine newT_rd (fun b2 If ff sf hf => ?_)
    have sdf := se.trans sf
    refine lenL_rd (sdf _ _ (c5d _ _ nl.1 nl.2 hl)) ?_
    rw [List.length_map, ql]
    have nb2 : b2 ≠ p ∧ b2 ≠ c := ⟨(Pd.same se).neP ff, (Pd.same se).neC ff⟩
    have B2 : BfAt (rr p c If) b2 ch cs n m gs := bf_of (rr_at nb2.1 nb2.2 hf) (rr_at nch.1 nch.2 (sdf _ _ hd)) (by rw [csl, gsl]) (fun i p' g e1 e2 => (cg i p' g e1 e2).same (Same.rr sdf)) gok
    have al2 : alikeB (gs.map (fdDat n m)) = decide ((k : Int) = 1) := by
      by_cases h1 : k = 1
      · rw [decide_eq_true (by walk_at "om")]
        have w0 : w = 0 := by walk_at "om"
        have : gs = [f'] := by
          show fs.take w ++ [f'] ++ fs.drop (w + 1) = [f']
          rw [w0, List.drop_of_length_le (by walk_at "om")]; rfl
        rw [this]
        exact alike_one hn hm
      · rw [decide_eq_false (by walk_at "om")]
        exact alike_not (fs := fs) (f := f) (by walk_at "om") (by walk_at "om") fse un
    refine said_rd (B2.same (rr_same _ _ _)) hn hm (by rw [gsl]; exact hk) al2 (fun Ig sg => ?_)
    refine br_not (br_T ?_)
    refine newL_rd (fun z20 Ih fh sh hh => ?_)
    have sdh := (sdf.trans sg).trans sh
    have Ph := Pd.same sdh
    refine modG_rd (by decide) (fun rm2 rm0 rm1 => ?_)
    refine ixAny_rd hh (by walk_at "om") (by simp only [List.length_cons, List.length_nil]; omega) ?_
    intro sv hsv
    obtain ⟨l', ps', fs', rfl, hl', hlen', hfl', hok', hk'⟩ : ∃ (l' : Addr) (ps' : List Addr) (fs' : List Fd), sv = .ref l' ∧ rr p c Ih l' = some (.lst (ps'.map V.ref)) ∧ ps'.length = fs'.length ∧ (∀ (i : Nat) p' g, ps'[i]? = some p' → fs'[i]? = some g → FdAt (rr p c Ih) p' n m g) ∧ (∀ g ∈ fs', g.Ok ∧ g.Sq n m) ∧ fs'.length = k := by
      simp only [List.mem_cons, List.not_mem_nil, or_false] at hsv
      rcases hsv with rfl | rfl
      · exact ⟨l, qs, fs, rfl, (B1.same (Same.rr sdh)).lst, (B1.same (Same.rr sdh)).len, (B1.same (Same.rr sdh)).fld, B1.ok, fsl⟩
      · have B2' := B2.same (Same.rr (sg.trans sh))
        exact ⟨ch, cs, gs, rfl, B2'.lst, B2'.len, B2'.fld, gok, gsl⟩
    refine newT_rd (fun b3 Ii fi si hi' => ?_)
    have nb3 : b3 ≠ p ∧ b3 ≠ c := ⟨Ph.neP fi, Ph.neC fi⟩
    have B3 : BfAt (rr p c Ii) b3 l' ps' n m fs' := bf_of (rr_at nb3.1 nb3.2 hi') (Same.rr si _ _ hl') hlen' (fun i p' g e1 e2 => (hfl' i p' g e1 e2).same (Same.rr si)) hok'
    refine no_battle_rd (Ph.same si) (by walk_at "om") B3 hn hm (by rw [hk']; exact hk) (fun tt v j Ij cj Pj htj nob => ?_)
    obtain ⟨bb, ll, xs, a', c', ds, rfl, Bj, duj, shj⟩ := nob.ex
    have Bj := Bj.same (rr_same _ _ _)
    have shV := Bj.sh'
    refine unpT_rd htj ?_
    refine strA_rd shV shj ?_
    refine range_rd (by decide) (by decide) (by decide) (by decide) ?_
    refine loop_range (fun i' σ J => ∃ y1 y2 y3 y4 y5 y6 y7 y8 z1 z2 : Option V, σ = [some (.ref a), some (.ref p), y1, y2, y3, y4, y5, y6, y7, y8, some (.ref bb), some (.int j), some (.str (strD (batDat a' c' ds))), z1, z2] ∧ Same Ij J) ?_ ?_ ?_
    · exact ⟨_, _, _, _, _, _, _, _, _, _, rfl, Same.refl _⟩
    · rintro i' σ J hi2 ⟨y1, y2, y3, y4, y5, y6, y7, y8, z1, z2, rfl, sJ⟩
      have hi2 : i' < 4 := hi2
      refine newL_rd (fun u1 J1 g1 r1 e1 => ?_)
      refine newL_rd (fun u2 J2 g2 r2 e2 => ?_)
      have s2' := (sJ.trans r1).trans r2
      refine caughtB_rd (Bj.same s2') (intsS (ns := [-1]) (r2 _ _ e1)) (by decide) (intsS (ns := []) e2) (by decide) (by walk_at "om") duj (fun e d J3 r3 he hdd => ?_)
      refine marks_rd (.inr ⟨d, _, he, hdd⟩) (.inr (.inl ⟨rfl, rfl⟩)) (fun rr4 J4 g4 r4 e4 => ?_)
      refine newL_rd (fun u5 J5 g5 r5 e5 => ?_)
      have ow := wordOk (w := "battle") (by decide +kernel)
      refine eqS_rd (d := .list [.str "battle"]) (e := .list [.str "battle"]) (.lst (r5 _ _ e4) (.cons (.str _) .nil)) (.lst e5 (.cons (.str _) .nil)) ow.2.1 ow.2.1 (Nat.le_trans ow.2.2 (by decide)) ?_
      rw [ow.eqv]
      refine br_F ?_
      have he5 := r5 _ _ (r4 _ _ he)
      have hd5 := r5 _ _ (r4 _ _ hdd)
      refine fldE_rd (v := .int j) he5 hd5 rfl Z.k_NoBattle Z.hd_NoBattle Z.z_NoBattle.nf ?_
      refine isiI_rd ?_
      refine br_F ?_
      refine fldE_rd (v := .int j) he5 hd5 rfl Z.k_NoBattle Z.hd_NoBattle Z.z_NoBattle.nf ?_
      walk_at "wh"
      rw [decide_eq_true (rfl : j = j)]
      refine br_F ?_
      have s5' := ((s2'.trans r3).trans r4).trans r5
      refine strA_rd (shV.same s5') shj ?_
      walk_at "wh"
      rw [decide_eq_true (rfl : strD (batDat a' c' ds) = strD (batDat a' c' ds))]
      refine br_F ?_
      walk_at "wh"
      exact ⟨_, _, _, _, _, _, _, _, _, _, rfl, s5'⟩
    · rintro σ J ⟨y1, y2, y3, y4, y5, y6, y7, y8, z1, z2, rfl, sJ⟩
      walk_at "wh"
      exact ⟨_, _, _, _, _, _, _, _, _, _, _, _, _, rfl, (Pj.same sJ).up (by walk_at "om")⟩
  · rintro σ I ⟨x1, x2, x3, x4, x5, x6, x7, x8, x9, x10, x11, x12, x13, rfl, PI⟩
    walk_at "wh"
    exact kf I
-- @@split
end
theorem all_mk {l : PySem.W.OpenLaw} {w : World} {K : PySem.W.Frag} {h : Heap} {mg : Str → Option Value} {fa : Addr} (X : K.In h) (G : h.Ns mainGlobals mg) (hfa : mg "law" = some (.ref fa))
    {tk_MOST_HOSTS_plans : Tok} {tk_MOST_FIELDS_plans : Tok} {tk_MOST_HOSTS_fields : Tok} {tk_MOST_FIELDS_fields : Tok} {f_is_whole : Addr} {od_is_whole an_is_whole : Option Addr} {sl_is_whole : Array (Option Value)} {oc_is_whole kV_is_whole dc_is_whole pm_is_whole cd_is_whole ct_is_whole : Value} {f_is_from : Addr} {od_is_from an_is_from : Option Addr} {sl_is_from : Array (Option Value)} {oc_is_from kV_is_from dc_is_from pm_is_from cd_is_from ct_is_from : Value} {f_is_between : Addr} {od_is_between an_is_between : Option Addr} {sl_is_between : Array (Option Value)} {oc_is_between kV_is_between dc_is_between pm_is_between cd_is_between ct_is_between : Value} {f_sends_hosts : Addr} {od_sends_hosts an_sends_hosts : Option Addr} {sl_sends_hosts : Array (Option Value)} {oc_sends_hosts kV_sends_hosts dc_sends_hosts pm_sends_hosts cd_sends_hosts ct_sends_hosts : Value} {f_is_plan : Addr} {od_is_plan an_is_plan : Option Addr} {sl_is_plan : Array (Option Value)} {oc_is_plan kV_is_plan dc_is_plan pm_is_plan cd_is_plan ct_is_plan : Value} {f_are_hosts : Addr} {od_are_hosts an_are_hosts : Option Addr} {sl_are_hosts : Array (Option Value)} {oc_are_hosts kV_are_hosts dc_are_hosts pm_are_hosts cd_are_hosts ct_are_hosts : Value} {f_has_size : Addr} {od_has_size an_has_size : Option Addr} {sl_has_size : Array (Option Value)} {oc_has_size kV_has_size dc_has_size pm_has_size cd_has_size ct_has_size : Value} {f_is_table_row : Addr} {od_is_table_row an_is_table_row : Option Addr} {sl_is_table_row : Array (Option Value)} {oc_is_table_row kV_is_table_row dc_is_table_row pm_is_table_row cd_is_table_row ct_is_table_row : Value} {f_is_table : Addr} {od_is_table an_is_table : Option Addr} {sl_is_table : Array (Option Value)} {oc_is_table kV_is_table dc_is_table pm_is_table cd_is_table ct_is_table : Value} {f_is_field : Addr} {od_is_field an_is_field : Option Addr} {sl_is_field : Array (Option Value)} {oc_is_field kV_is_field dc_is_field pm_is_field cd_is_field ct_is_field : Value} {f_look_battle : Addr} {od_look_battle an_look_battle : Option Addr} {sl_look_battle : Array (Option Value)} {oc_look_battle kV_look_battle dc_look_battle pm_look_battle cd_look_battle ct_look_battle : Value} {f_look_plans : Addr} {od_look_plans an_look_plans : Option Addr} {sl_look_plans : Array (Option Value)} {oc_look_plans kV_look_plans dc_look_plans pm_look_plans cd_look_plans ct_look_plans : Value} {f_is_alike : Addr} {od_is_alike an_is_alike : Option Addr} {sl_is_alike : Array (Option Value)} {oc_is_alike kV_is_alike dc_is_alike pm_is_alike cd_is_alike ct_is_alike : Value} {f_look_alike : Addr} {od_look_alike an_look_alike : Option Addr} {sl_look_alike : Array (Option Value)} {oc_look_alike kV_look_alike dc_look_alike pm_look_alike cd_look_alike ct_look_alike : Value} {f_ratio : Addr} {od_ratio an_ratio : Option Addr} {sl_ratio : Array (Option Value)} {oc_ratio kV_ratio dc_ratio pm_ratio cd_ratio ct_ratio : Value} {f_won_together : Addr} {od_won_together an_won_together : Option Addr} {sl_won_together : Array (Option Value)} {oc_won_together kV_won_together dc_won_together pm_won_together cd_won_together ct_won_together : Value} {f_ring_gain : Addr} {od_ring_gain an_ring_gain : Option Addr} {sl_ring_gain : Array (Option Value)} {oc_ring_gain kV_ring_gain dc_ring_gain pm_ring_gain cd_ring_gain ct_ring_gain : Value} {f_all_counts : Addr} {od_all_counts an_all_counts : Option Addr} {sl_all_counts : Array (Option Value)} {oc_all_counts kV_all_counts dc_all_counts pm_all_counts cd_all_counts ct_all_counts : Value} {f_together_table : Addr} {od_together_table an_together_table : Option Addr} {sl_together_table : Array (Option Value)} {oc_together_table kV_together_table dc_together_table pm_together_table cd_together_table ct_together_table : Value} {f_counts_table : Addr} {od_counts_table an_counts_table : Option Addr} {sl_counts_table : Array (Option Value)} {oc_counts_table kV_counts_table dc_counts_table pm_counts_table cd_counts_table ct_counts_table : Value} {f_table_worth : Addr} {od_table_worth an_table_worth : Option Addr} {sl_table_worth : Array (Option Value)} {oc_table_worth kV_table_worth dc_table_worth pm_table_worth cd_table_worth ct_table_worth : Value} {f_counts_mix : Addr} {od_counts_mix an_counts_mix : Option Addr} {sl_counts_mix : Array (Option Value)} {oc_counts_mix kV_counts_mix dc_counts_mix pm_counts_mix cd_counts_mix ct_counts_mix : Value} {f_times : Addr} {od_times an_times : Option Addr} {sl_times : Array (Option Value)} {oc_times kV_times dc_times pm_times cd_times ct_times : Value} {f_counts_worth : Addr} {od_counts_worth an_counts_worth : Option Addr} {sl_counts_worth : Array (Option Value)} {oc_counts_worth kV_counts_worth dc_counts_worth pm_counts_worth cd_counts_worth ct_counts_worth : Value} {f__law_purse : Addr} {od__law_purse an__law_purse : Option Addr} {sl__law_purse : Array (Option Value)} {oc__law_purse kV__law_purse dc__law_purse pm__law_purse cd__law_purse ct__law_purse : Value} {f__law_draw : Addr} {od__law_draw an__law_draw : Option Addr} {sl__law_draw : Array (Option Value)} {oc__law_draw kV__law_draw dc__law_draw pm__law_draw cd__law_draw ct__law_draw : Value} {f__law_field : Addr} {od__law_field an__law_field : Option Addr} {sl__law_field : Array (Option Value)} {oc__law_field kV__law_field dc__law_field pm__law_field cd__law_field ct__law_field : Value} {f__law_copy : Addr} {od__law_copy an__law_copy : Option Addr} {sl__law_copy : Array (Option Value)} {oc__law_copy kV__law_copy dc__law_copy pm__law_copy cd__law_copy ct__law_copy : Value} {f__law_changed : Addr} {od__law_changed an__law_changed : Option Addr} {sl__law_changed : Array (Option Value)} {oc__law_changed kV__law_changed dc__law_changed pm__law_changed cd__law_changed ct__law_changed : Value} {f__law_no_field : Addr} {od__law_no_field an__law_no_field : Option Addr} {sl__law_no_field : Array (Option Value)} {oc__law_no_field kV__law_no_field dc__law_no_field pm__law_no_field cd__law_no_field ct__law_no_field : Value} {f__law_no_battle : Addr} {od__law_no_battle an__law_no_battle : Option Addr} {sl__law_no_battle : Array (Option Value)} {oc__law_no_battle kV__law_no_battle dc__law_no_battle pm__law_no_battle cd__law_no_battle ct__law_no_battle : Value} {f__law_marks : Addr} {od__law_marks an__law_marks : Option Addr} {sl__law_marks : Array (Option Value)} {oc__law_marks kV__law_marks dc__law_marks pm__law_marks cd__law_marks ct__law_marks : Value} {f__law_caught : Addr} {od__law_caught an__law_caught : Option Addr} {sl__law_caught : Array (Option Value)} {oc__law_caught kV__law_caught dc__law_caught pm__law_caught cd__law_caught ct__law_caught : Value} {f__law_said : Addr} {od__law_said an__law_said : Option Addr} {sl__law_said : Array (Option Value)} {oc__law_said kV__law_said dc__law_said pm__law_said cd__law_said ct__law_said : Value} {f_law : Addr} {od_law an_law : Option Addr} {sl_law : Array (Option Value)} {oc_law kV_law dc_law pm_law cd_law ct_law : Value} {a_HostError : Addr} {cd_HostError : ClassData} {a_NoBattle : Addr} {cd_NoBattle : ClassData} {a_NoPlan : Addr} {cd_NoPlan : ClassData} {a_NoMix : Addr} {cd_NoMix : ClassData} {a_NoStream : Addr} {cd_NoStream : ClassData} {a_NoSide : Addr} {cd_NoSide : ClassData} {a_NoAlike : Addr} {cd_NoAlike : ClassData} {a_NoNumber : Addr} {cd_NoNumber : ClassData} {a_TooGreat : Addr} {cd_TooGreat : ClassData} {a_NoEven : Addr} {cd_NoEven : ClassData} {a_NoText : Addr} {cd_NoText : ClassData} {a_NoRow : Addr} {cd_NoRow : ClassData} {a_NoName : Addr} {cd_NoName : ClassData} {a_NoPlace : Addr} {cd_NoPlace : ClassData} {a_Grid : Addr} {cd_Grid : ClassData} {nm_NoBattle qn_NoBattle : Str} {N_NoBattle : Addr} {bs_NoBattle : List Value} {sn_NoBattle : List Str} {sub_NoBattle : List Value} {ab_NoBattle : Bool} {col_NoBattle : Option Bool} {dd_NoBattle : Option Addr} {k0_NoBattle k1_NoBattle k2_NoBattle k3_NoBattle k5_NoBattle : Option Value} {i_NoBattle : Addr} {iod_NoBattle ian_NoBattle : Option Addr} {isl_NoBattle : Array (Option Value)} {ioc_NoBattle ikV_NoBattle idc_NoBattle ipm_NoBattle icd_NoBattle ict_NoBattle : Value}
    (e_MOST_HOSTS_plans : PySem.W.nsIn K mainGlobals "MOST_HOSTS_plans" = some (some (.int 40 tk_MOST_HOSTS_plans)))
    (e_MOST_FIELDS_plans : PySem.W.nsIn K mainGlobals "MOST_FIELDS_plans" = some (some (.int 8 tk_MOST_FIELDS_plans)))
    (e_MOST_HOSTS_fields : PySem.W.nsIn K mainGlobals "MOST_HOSTS_fields" = some (some (.int 10 tk_MOST_HOSTS_fields)))
    (e_MOST_FIELDS_fields : PySem.W.nsIn K mainGlobals "MOST_FIELDS_fields" = some (some (.int 5 tk_MOST_FIELDS_fields)))
    (a_is_whole : PySem.W.nsIn K mainGlobals "is_whole" = some (some (.ref f_is_whole)))
    (l_is_whole : K.lookup f_is_whole = some ⟨oc_is_whole, od_is_whole, .func (PySem.W.fnOf "is_whole" "is_whole" (defArgs s_is_whole) (defBody s_is_whole) (defScope s_is_whole) .none kV_is_whole dc_is_whole pm_is_whole an_is_whole cd_is_whole ct_is_whole), sl_is_whole⟩)
    (c_is_whole : PySem.W.codeIn K cd_is_whole "is_whole" = true)
    (k_is_whole : PySem.W.keepIn K (.ref f_is_whole) = true)
    (a_is_from : PySem.W.nsIn K mainGlobals "is_from" = some (some (.ref f_is_from)))
    (l_is_from : K.lookup f_is_from = some ⟨oc_is_from, od_is_from, .func (PySem.W.fnOf "is_from" "is_from" (defArgs s_is_from) (defBody s_is_from) (defScope s_is_from) .none kV_is_from dc_is_from pm_is_from an_is_from cd_is_from ct_is_from), sl_is_from⟩)
    (c_is_from : PySem.W.codeIn K cd_is_from "is_from" = true)
    (k_is_from : PySem.W.keepIn K (.ref f_is_from) = true)
    (a_is_between : PySem.W.nsIn K mainGlobals "is_between" = some (some (.ref f_is_between)))
    (l_is_between : K.lookup f_is_between = some ⟨oc_is_between, od_is_between, .func (PySem.W.fnOf "is_between" "is_between" (defArgs s_is_between) (defBody s_is_between) (defScope s_is_between) .none kV_is_between dc_is_between pm_is_between an_is_between cd_is_between ct_is_between), sl_is_between⟩)
    (c_is_between : PySem.W.codeIn K cd_is_between "is_between" = true)
    (k_is_between : PySem.W.keepIn K (.ref f_is_between) = true)
    (a_sends_hosts : PySem.W.nsIn K mainGlobals "sends_hosts" = some (some (.ref f_sends_hosts)))
    (l_sends_hosts : K.lookup f_sends_hosts = some ⟨oc_sends_hosts, od_sends_hosts, .func (PySem.W.fnOf "sends_hosts" "sends_hosts" (defArgs s_sends_hosts) (defBody s_sends_hosts) (defScope s_sends_hosts) .none kV_sends_hosts dc_sends_hosts pm_sends_hosts an_sends_hosts cd_sends_hosts ct_sends_hosts), sl_sends_hosts⟩)
    (c_sends_hosts : PySem.W.codeIn K cd_sends_hosts "sends_hosts" = true)
    (k_sends_hosts : PySem.W.keepIn K (.ref f_sends_hosts) = true)
    (a_is_plan : PySem.W.nsIn K mainGlobals "is_plan" = some (some (.ref f_is_plan)))
    (l_is_plan : K.lookup f_is_plan = some ⟨oc_is_plan, od_is_plan, .func (PySem.W.fnOf "is_plan" "is_plan" (defArgs s_is_plan) (defBody s_is_plan) (defScope s_is_plan) .none kV_is_plan dc_is_plan pm_is_plan an_is_plan cd_is_plan ct_is_plan), sl_is_plan⟩)
    (c_is_plan : PySem.W.codeIn K cd_is_plan "is_plan" = true)
    (k_is_plan : PySem.W.keepIn K (.ref f_is_plan) = true)
    (a_are_hosts : PySem.W.nsIn K mainGlobals "are_hosts" = some (some (.ref f_are_hosts)))
    (l_are_hosts : K.lookup f_are_hosts = some ⟨oc_are_hosts, od_are_hosts, .func (PySem.W.fnOf "are_hosts" "are_hosts" (defArgs s_are_hosts) (defBody s_are_hosts) (defScope s_are_hosts) .none kV_are_hosts dc_are_hosts pm_are_hosts an_are_hosts cd_are_hosts ct_are_hosts), sl_are_hosts⟩)
    (c_are_hosts : PySem.W.codeIn K cd_are_hosts "are_hosts" = true)
    (k_are_hosts : PySem.W.keepIn K (.ref f_are_hosts) = true)
    (a_has_size : PySem.W.nsIn K mainGlobals "has_size" = some (some (.ref f_has_size)))
    (l_has_size : K.lookup f_has_size = some ⟨oc_has_size, od_has_size, .func (PySem.W.fnOf "has_size" "has_size" (defArgs s_has_size) (defBody s_has_size) (defScope s_has_size) .none kV_has_size dc_has_size pm_has_size an_has_size cd_has_size ct_has_size), sl_has_size⟩)
    (c_has_size : PySem.W.codeIn K cd_has_size "has_size" = true)
    (k_has_size : PySem.W.keepIn K (.ref f_has_size) = true)
    (a_is_table_row : PySem.W.nsIn K mainGlobals "is_table_row" = some (some (.ref f_is_table_row)))
    (l_is_table_row : K.lookup f_is_table_row = some ⟨oc_is_table_row, od_is_table_row, .func (PySem.W.fnOf "is_table_row" "is_table_row" (defArgs s_is_table_row) (defBody s_is_table_row) (defScope s_is_table_row) .none kV_is_table_row dc_is_table_row pm_is_table_row an_is_table_row cd_is_table_row ct_is_table_row), sl_is_table_row⟩)
    (c_is_table_row : PySem.W.codeIn K cd_is_table_row "is_table_row" = true)
    (k_is_table_row : PySem.W.keepIn K (.ref f_is_table_row) = true)
    (a_is_table : PySem.W.nsIn K mainGlobals "is_table" = some (some (.ref f_is_table)))
    (l_is_table : K.lookup f_is_table = some ⟨oc_is_table, od_is_table, .func (PySem.W.fnOf "is_table" "is_table" (defArgs s_is_table) (defBody s_is_table) (defScope s_is_table) .none kV_is_table dc_is_table pm_is_table an_is_table cd_is_table ct_is_table), sl_is_table⟩)
    (c_is_table : PySem.W.codeIn K cd_is_table "is_table" = true)
    (k_is_table : PySem.W.keepIn K (.ref f_is_table) = true)
    (a_is_field : PySem.W.nsIn K mainGlobals "is_field" = some (some (.ref f_is_field)))
    (l_is_field : K.lookup f_is_field = some ⟨oc_is_field, od_is_field, .func (PySem.W.fnOf "is_field" "is_field" (defArgs s_is_field) (defBody s_is_field) (defScope s_is_field) .none kV_is_field dc_is_field pm_is_field an_is_field cd_is_field ct_is_field), sl_is_field⟩)
    (c_is_field : PySem.W.codeIn K cd_is_field "is_field" = true)
    (k_is_field : PySem.W.keepIn K (.ref f_is_field) = true)
    (a_look_battle : PySem.W.nsIn K mainGlobals "look_battle" = some (some (.ref f_look_battle)))
    (l_look_battle : K.lookup f_look_battle = some ⟨oc_look_battle, od_look_battle, .func (PySem.W.fnOf "look_battle" "look_battle" (defArgs s_look_battle) (defBody s_look_battle) (defScope s_look_battle) .none kV_look_battle dc_look_battle pm_look_battle an_look_battle cd_look_battle ct_look_battle), sl_look_battle⟩)
    (c_look_battle : PySem.W.codeIn K cd_look_battle "look_battle" = true)
    (k_look_battle : PySem.W.keepIn K (.ref f_look_battle) = true)
    (a_look_plans : PySem.W.nsIn K mainGlobals "look_plans" = some (some (.ref f_look_plans)))
    (l_look_plans : K.lookup f_look_plans = some ⟨oc_look_plans, od_look_plans, .func (PySem.W.fnOf "look_plans" "look_plans" (defArgs s_look_plans) (defBody s_look_plans) (defScope s_look_plans) .none kV_look_plans dc_look_plans pm_look_plans an_look_plans cd_look_plans ct_look_plans), sl_look_plans⟩)
    (c_look_plans : PySem.W.codeIn K cd_look_plans "look_plans" = true)
    (k_look_plans : PySem.W.keepIn K (.ref f_look_plans) = true)
    (a_is_alike : PySem.W.nsIn K mainGlobals "is_alike" = some (some (.ref f_is_alike)))
    (l_is_alike : K.lookup f_is_alike = some ⟨oc_is_alike, od_is_alike, .func (PySem.W.fnOf "is_alike" "is_alike" (defArgs s_is_alike) (defBody s_is_alike) (defScope s_is_alike) .none kV_is_alike dc_is_alike pm_is_alike an_is_alike cd_is_alike ct_is_alike), sl_is_alike⟩)
    (c_is_alike : PySem.W.codeIn K cd_is_alike "is_alike" = true)
    (k_is_alike : PySem.W.keepIn K (.ref f_is_alike) = true)
    (a_look_alike : PySem.W.nsIn K mainGlobals "look_alike" = some (some (.ref f_look_alike)))
    (l_look_alike : K.lookup f_look_alike = some ⟨oc_look_alike, od_look_alike, .func (PySem.W.fnOf "look_alike" "look_alike" (defArgs s_look_alike) (defBody s_look_alike) (defScope s_look_alike) .none kV_look_alike dc_look_alike pm_look_alike an_look_alike cd_look_alike ct_look_alike), sl_look_alike⟩)
    (c_look_alike : PySem.W.codeIn K cd_look_alike "look_alike" = true)
    (k_look_alike : PySem.W.keepIn K (.ref f_look_alike) = true)
    (a_ratio : PySem.W.nsIn K mainGlobals "ratio" = some (some (.ref f_ratio)))
    (l_ratio : K.lookup f_ratio = some ⟨oc_ratio, od_ratio, .func (PySem.W.fnOf "ratio" "ratio" (defArgs s_ratio) (defBody s_ratio) (defScope s_ratio) .none kV_ratio dc_ratio pm_ratio an_ratio cd_ratio ct_ratio), sl_ratio⟩)
    (c_ratio : PySem.W.codeIn K cd_ratio "ratio" = true)
    (k_ratio : PySem.W.keepIn K (.ref f_ratio) = true)
    (a_won_together : PySem.W.nsIn K mainGlobals "won_together" = some (some (.ref f_won_together)))
    (l_won_together : K.lookup f_won_together = some ⟨oc_won_together, od_won_together, .func (PySem.W.fnOf "won_together" "won_together" (defArgs s_won_together) (defBody s_won_together) (defScope s_won_together) .none kV_won_together dc_won_together pm_won_together an_won_together cd_won_together ct_won_together), sl_won_together⟩)
    (c_won_together : PySem.W.codeIn K cd_won_together "won_together" = true)
    (k_won_together : PySem.W.keepIn K (.ref f_won_together) = true)
    (a_ring_gain : PySem.W.nsIn K mainGlobals "ring_gain" = some (some (.ref f_ring_gain)))
    (l_ring_gain : K.lookup f_ring_gain = some ⟨oc_ring_gain, od_ring_gain, .func (PySem.W.fnOf "ring_gain" "ring_gain" (defArgs s_ring_gain) (defBody s_ring_gain) (defScope s_ring_gain) .none kV_ring_gain dc_ring_gain pm_ring_gain an_ring_gain cd_ring_gain ct_ring_gain), sl_ring_gain⟩)
    (c_ring_gain : PySem.W.codeIn K cd_ring_gain "ring_gain" = true)
    (k_ring_gain : PySem.W.keepIn K (.ref f_ring_gain) = true)
    (a_all_counts : PySem.W.nsIn K mainGlobals "all_counts" = some (some (.ref f_all_counts)))
    (l_all_counts : K.lookup f_all_counts = some ⟨oc_all_counts, od_all_counts, .func (PySem.W.fnOf "all_counts" "all_counts" (defArgs s_all_counts) (defBody s_all_counts) (defScope s_all_counts) .none kV_all_counts dc_all_counts pm_all_counts an_all_counts cd_all_counts ct_all_counts), sl_all_counts⟩)
    (c_all_counts : PySem.W.codeIn K cd_all_counts "all_counts" = true)
    (k_all_counts : PySem.W.keepIn K (.ref f_all_counts) = true)
    (a_together_table : PySem.W.nsIn K mainGlobals "together_table" = some (some (.ref f_together_table)))
    (l_together_table : K.lookup f_together_table = some ⟨oc_together_table, od_together_table, .func (PySem.W.fnOf "together_table" "together_table" (defArgs s_together_table) (defBody s_together_table) (defScope s_together_table) .none kV_together_table dc_together_table pm_together_table an_together_table cd_together_table ct_together_table), sl_together_table⟩)
    (c_together_table : PySem.W.codeIn K cd_together_table "together_table" = true)
    (k_together_table : PySem.W.keepIn K (.ref f_together_table) = true)
    (a_counts_table : PySem.W.nsIn K mainGlobals "counts_table" = some (some (.ref f_counts_table)))
    (l_counts_table : K.lookup f_counts_table = some ⟨oc_counts_table, od_counts_table, .func (PySem.W.fnOf "counts_table" "counts_table" (defArgs s_counts_table) (defBody s_counts_table) (defScope s_counts_table) .none kV_counts_table dc_counts_table pm_counts_table an_counts_table cd_counts_table ct_counts_table), sl_counts_table⟩)
    (c_counts_table : PySem.W.codeIn K cd_counts_table "counts_table" = true)
    (k_counts_table : PySem.W.keepIn K (.ref f_counts_table) = true)
    (a_table_worth : PySem.W.nsIn K mainGlobals "table_worth" = some (some (.ref f_table_worth)))
    (l_table_worth : K.lookup f_table_worth = some ⟨oc_table_worth, od_table_worth, .func (PySem.W.fnOf "table_worth" "table_worth" (defArgs s_table_worth) (defBody s_table_worth) (defScope s_table_worth) .none kV_table_worth dc_table_worth pm_table_worth an_table_worth cd_table_worth ct_table_worth), sl_table_worth⟩)
    (c_table_worth : PySem.W.codeIn K cd_table_worth "table_worth" = true)
    (k_table_worth : PySem.W.keepIn K (.ref f_table_worth) = true)
    (a_counts_mix : PySem.W.nsIn K mainGlobals "counts_mix" = some (some (.ref f_counts_mix)))
    (l_counts_mix : K.lookup f_counts_mix = some ⟨oc_counts_mix, od_counts_mix, .func (PySem.W.fnOf "counts_mix" "counts_mix" (defArgs s_counts_mix) (defBody s_counts_mix) (defScope s_counts_mix) .none kV_counts_mix dc_counts_mix pm_counts_mix an_counts_mix cd_counts_mix ct_counts_mix), sl_counts_mix⟩)
    (c_counts_mix : PySem.W.codeIn K cd_counts_mix "counts_mix" = true)
    (k_counts_mix : PySem.W.keepIn K (.ref f_counts_mix) = true)
    (a_times : PySem.W.nsIn K mainGlobals "times" = some (some (.ref f_times)))
    (l_times : K.lookup f_times = some ⟨oc_times, od_times, .func (PySem.W.fnOf "times" "times" (defArgs s_times) (defBody s_times) (defScope s_times) .none kV_times dc_times pm_times an_times cd_times ct_times), sl_times⟩)
    (c_times : PySem.W.codeIn K cd_times "times" = true)
    (k_times : PySem.W.keepIn K (.ref f_times) = true)
    (a_counts_worth : PySem.W.nsIn K mainGlobals "counts_worth" = some (some (.ref f_counts_worth)))
    (l_counts_worth : K.lookup f_counts_worth = some ⟨oc_counts_worth, od_counts_worth, .func (PySem.W.fnOf "counts_worth" "counts_worth" (defArgs s_counts_worth) (defBody s_counts_worth) (defScope s_counts_worth) .none kV_counts_worth dc_counts_worth pm_counts_worth an_counts_worth cd_counts_worth ct_counts_worth), sl_counts_worth⟩)
    (c_counts_worth : PySem.W.codeIn K cd_counts_worth "counts_worth" = true)
    (k_counts_worth : PySem.W.keepIn K (.ref f_counts_worth) = true)
    (a__law_purse : PySem.W.nsIn K mainGlobals "_law_purse" = some (some (.ref f__law_purse)))
    (l__law_purse : K.lookup f__law_purse = some ⟨oc__law_purse, od__law_purse, .func (PySem.W.fnOf "_law_purse" "_law_purse" (defArgs s__law_purse) (defBody s__law_purse) (defScope s__law_purse) .none kV__law_purse dc__law_purse pm__law_purse an__law_purse cd__law_purse ct__law_purse), sl__law_purse⟩)
    (c__law_purse : PySem.W.codeIn K cd__law_purse "_law_purse" = true)
    (k__law_purse : PySem.W.keepIn K (.ref f__law_purse) = true)
    (a__law_draw : PySem.W.nsIn K mainGlobals "_law_draw" = some (some (.ref f__law_draw)))
    (l__law_draw : K.lookup f__law_draw = some ⟨oc__law_draw, od__law_draw, .func (PySem.W.fnOf "_law_draw" "_law_draw" (defArgs s__law_draw) (defBody s__law_draw) (defScope s__law_draw) .none kV__law_draw dc__law_draw pm__law_draw an__law_draw cd__law_draw ct__law_draw), sl__law_draw⟩)
    (c__law_draw : PySem.W.codeIn K cd__law_draw "_law_draw" = true)
    (k__law_draw : PySem.W.keepIn K (.ref f__law_draw) = true)
    (a__law_field : PySem.W.nsIn K mainGlobals "_law_field" = some (some (.ref f__law_field)))
    (l__law_field : K.lookup f__law_field = some ⟨oc__law_field, od__law_field, .func (PySem.W.fnOf "_law_field" "_law_field" (defArgs s__law_field) (defBody s__law_field) (defScope s__law_field) .none kV__law_field dc__law_field pm__law_field an__law_field cd__law_field ct__law_field), sl__law_field⟩)
    (c__law_field : PySem.W.codeIn K cd__law_field "_law_field" = true)
    (k__law_field : PySem.W.keepIn K (.ref f__law_field) = true)
    (a__law_copy : PySem.W.nsIn K mainGlobals "_law_copy" = some (some (.ref f__law_copy)))
    (l__law_copy : K.lookup f__law_copy = some ⟨oc__law_copy, od__law_copy, .func (PySem.W.fnOf "_law_copy" "_law_copy" (defArgs s__law_copy) (defBody s__law_copy) (defScope s__law_copy) .none kV__law_copy dc__law_copy pm__law_copy an__law_copy cd__law_copy ct__law_copy), sl__law_copy⟩)
    (c__law_copy : PySem.W.codeIn K cd__law_copy "_law_copy" = true)
    (k__law_copy : PySem.W.keepIn K (.ref f__law_copy) = true)
    (a__law_changed : PySem.W.nsIn K mainGlobals "_law_changed" = some (some (.ref f__law_changed)))
    (l__law_changed : K.lookup f__law_changed = some ⟨oc__law_changed, od__law_changed, .func (PySem.W.fnOf "_law_changed" "_law_changed" (defArgs s__law_changed) (defBody s__law_changed) (defScope s__law_changed) .none kV__law_changed dc__law_changed pm__law_changed an__law_changed cd__law_changed ct__law_changed), sl__law_changed⟩)
    (c__law_changed : PySem.W.codeIn K cd__law_changed "_law_changed" = true)
    (k__law_changed : PySem.W.keepIn K (.ref f__law_changed) = true)
    (a__law_no_field : PySem.W.nsIn K mainGlobals "_law_no_field" = some (some (.ref f__law_no_field)))
    (l__law_no_field : K.lookup f__law_no_field = some ⟨oc__law_no_field, od__law_no_field, .func (PySem.W.fnOf "_law_no_field" "_law_no_field" (defArgs s__law_no_field) (defBody s__law_no_field) (defScope s__law_no_field) .none kV__law_no_field dc__law_no_field pm__law_no_field an__law_no_field cd__law_no_field ct__law_no_field), sl__law_no_field⟩)
    (c__law_no_field : PySem.W.codeIn K cd__law_no_field "_law_no_field" = true)
    (k__law_no_field : PySem.W.keepIn K (.ref f__law_no_field) = true)
    (a__law_no_battle : PySem.W.nsIn K mainGlobals "_law_no_battle" = some (some (.ref f__law_no_battle)))
    (l__law_no_battle : K.lookup f__law_no_battle = some ⟨oc__law_no_battle, od__law_no_battle, .func (PySem.W.fnOf "_law_no_battle" "_law_no_battle" (defArgs s__law_no_battle) (defBody s__law_no_battle) (defScope s__law_no_battle) .none kV__law_no_battle dc__law_no_battle pm__law_no_battle an__law_no_battle cd__law_no_battle ct__law_no_battle), sl__law_no_battle⟩)
    (c__law_no_battle : PySem.W.codeIn K cd__law_no_battle "_law_no_battle" = true)
    (k__law_no_battle : PySem.W.keepIn K (.ref f__law_no_battle) = true)
    (a__law_marks : PySem.W.nsIn K mainGlobals "_law_marks" = some (some (.ref f__law_marks)))
    (l__law_marks : K.lookup f__law_marks = some ⟨oc__law_marks, od__law_marks, .func (PySem.W.fnOf "_law_marks" "_law_marks" (defArgs s__law_marks) (defBody s__law_marks) (defScope s__law_marks) .none kV__law_marks dc__law_marks pm__law_marks an__law_marks cd__law_marks ct__law_marks), sl__law_marks⟩)
    (c__law_marks : PySem.W.codeIn K cd__law_marks "_law_marks" = true)
    (k__law_marks : PySem.W.keepIn K (.ref f__law_marks) = true)
    (a__law_caught : PySem.W.nsIn K mainGlobals "_law_caught" = some (some (.ref f__law_caught)))
    (l__law_caught : K.lookup f__law_caught = some ⟨oc__law_caught, od__law_caught, .func (PySem.W.fnOf "_law_caught" "_law_caught" (defArgs s__law_caught) (defBody s__law_caught) (defScope s__law_caught) .none kV__law_caught dc__law_caught pm__law_caught an__law_caught cd__law_caught ct__law_caught), sl__law_caught⟩)
    (c__law_caught : PySem.W.codeIn K cd__law_caught "_law_caught" = true)
    (k__law_caught : PySem.W.keepIn K (.ref f__law_caught) = true)
    (a__law_said : PySem.W.nsIn K mainGlobals "_law_said" = some (some (.ref f__law_said)))
    (l__law_said : K.lookup f__law_said = some ⟨oc__law_said, od__law_said, .func (PySem.W.fnOf "_law_said" "_law_said" (defArgs s__law_said) (defBody s__law_said) (defScope s__law_said) .none kV__law_said dc__law_said pm__law_said an__law_said cd__law_said ct__law_said), sl__law_said⟩)
    (c__law_said : PySem.W.codeIn K cd__law_said "_law_said" = true)
    (k__law_said : PySem.W.keepIn K (.ref f__law_said) = true)
    (a_law : PySem.W.nsIn K mainGlobals "law" = some (some (.ref f_law)))
    (l_law : K.lookup f_law = some ⟨oc_law, od_law, .func (PySem.W.fnOf "law" "law" (defArgs s_law) (defBody s_law) (defScope s_law) .none kV_law dc_law pm_law an_law cd_law ct_law), sl_law⟩)
    (c_law : PySem.W.codeIn K cd_law "law" = true)
    (k_law : PySem.W.keepIn K (.ref f_law) = true)
    (z_ValueError : PySem.W.nsIn K mainGlobals "ValueError" = some none)
    (z_abs : PySem.W.nsIn K mainGlobals "abs" = some none)
    (z_all : PySem.W.nsIn K mainGlobals "all" = some none)
    (z_bool : PySem.W.nsIn K mainGlobals "bool" = some none)
    (z_enumerate : PySem.W.nsIn K mainGlobals "enumerate" = some none)
    (z_int : PySem.W.nsIn K mainGlobals "int" = some none)
    (z_isinstance : PySem.W.nsIn K mainGlobals "isinstance" = some none)
    (z_len : PySem.W.nsIn K mainGlobals "len" = some none)
    (z_list : PySem.W.nsIn K mainGlobals "list" = some none)
    (z_min : PySem.W.nsIn K mainGlobals "min" = some none)
    (z_range : PySem.W.nsIn K mainGlobals "range" = some none)
    (z_str : PySem.W.nsIn K mainGlobals "str" = some none)
    (z_sum : PySem.W.nsIn K mainGlobals "sum" = some none)
    (z_tuple : PySem.W.nsIn K mainGlobals "tuple" = some none)
    (z_zip : PySem.W.nsIn K mainGlobals "zip" = some none)
    (e_HostError : PySem.W.nsIn K mainGlobals "HostError" = some (some (.ref a_HostError)))
    (kk_HostError : PySem.W.clsIn K a_HostError = some cd_HostError)
    (tt_HostError : PySem.W.typeIn K (.ref a_HostError) = some (.type "type"))
    (nn_HostError : PySem.W.subIn K (.type "NoneType") (.ref a_HostError) = some false)
    (e_NoBattle : PySem.W.nsIn K mainGlobals "NoBattle" = some (some (.ref a_NoBattle)))
    (kk_NoBattle : PySem.W.clsIn K a_NoBattle = some cd_NoBattle)
    (tt_NoBattle : PySem.W.typeIn K (.ref a_NoBattle) = some (.type "type"))
    (nn_NoBattle : PySem.W.subIn K (.type "NoneType") (.ref a_NoBattle) = some false)
    (e_NoPlan : PySem.W.nsIn K mainGlobals "NoPlan" = some (some (.ref a_NoPlan)))
    (kk_NoPlan : PySem.W.clsIn K a_NoPlan = some cd_NoPlan)
    (tt_NoPlan : PySem.W.typeIn K (.ref a_NoPlan) = some (.type "type"))
    (nn_NoPlan : PySem.W.subIn K (.type "NoneType") (.ref a_NoPlan) = some false)
    (e_NoMix : PySem.W.nsIn K mainGlobals "NoMix" = some (some (.ref a_NoMix)))
    (kk_NoMix : PySem.W.clsIn K a_NoMix = some cd_NoMix)
    (tt_NoMix : PySem.W.typeIn K (.ref a_NoMix) = some (.type "type"))
    (nn_NoMix : PySem.W.subIn K (.type "NoneType") (.ref a_NoMix) = some false)
    (e_NoStream : PySem.W.nsIn K mainGlobals "NoStream" = some (some (.ref a_NoStream)))
    (kk_NoStream : PySem.W.clsIn K a_NoStream = some cd_NoStream)
    (tt_NoStream : PySem.W.typeIn K (.ref a_NoStream) = some (.type "type"))
    (nn_NoStream : PySem.W.subIn K (.type "NoneType") (.ref a_NoStream) = some false)
    (e_NoSide : PySem.W.nsIn K mainGlobals "NoSide" = some (some (.ref a_NoSide)))
    (kk_NoSide : PySem.W.clsIn K a_NoSide = some cd_NoSide)
    (tt_NoSide : PySem.W.typeIn K (.ref a_NoSide) = some (.type "type"))
    (nn_NoSide : PySem.W.subIn K (.type "NoneType") (.ref a_NoSide) = some false)
    (e_NoAlike : PySem.W.nsIn K mainGlobals "NoAlike" = some (some (.ref a_NoAlike)))
    (kk_NoAlike : PySem.W.clsIn K a_NoAlike = some cd_NoAlike)
    (tt_NoAlike : PySem.W.typeIn K (.ref a_NoAlike) = some (.type "type"))
    (nn_NoAlike : PySem.W.subIn K (.type "NoneType") (.ref a_NoAlike) = some false)
    (e_NoNumber : PySem.W.nsIn K mainGlobals "NoNumber" = some (some (.ref a_NoNumber)))
    (kk_NoNumber : PySem.W.clsIn K a_NoNumber = some cd_NoNumber)
    (tt_NoNumber : PySem.W.typeIn K (.ref a_NoNumber) = some (.type "type"))
    (nn_NoNumber : PySem.W.subIn K (.type "NoneType") (.ref a_NoNumber) = some false)
    (e_TooGreat : PySem.W.nsIn K mainGlobals "TooGreat" = some (some (.ref a_TooGreat)))
    (kk_TooGreat : PySem.W.clsIn K a_TooGreat = some cd_TooGreat)
    (tt_TooGreat : PySem.W.typeIn K (.ref a_TooGreat) = some (.type "type"))
    (nn_TooGreat : PySem.W.subIn K (.type "NoneType") (.ref a_TooGreat) = some false)
    (e_NoEven : PySem.W.nsIn K mainGlobals "NoEven" = some (some (.ref a_NoEven)))
    (kk_NoEven : PySem.W.clsIn K a_NoEven = some cd_NoEven)
    (tt_NoEven : PySem.W.typeIn K (.ref a_NoEven) = some (.type "type"))
    (nn_NoEven : PySem.W.subIn K (.type "NoneType") (.ref a_NoEven) = some false)
    (e_NoText : PySem.W.nsIn K mainGlobals "NoText" = some (some (.ref a_NoText)))
    (kk_NoText : PySem.W.clsIn K a_NoText = some cd_NoText)
    (tt_NoText : PySem.W.typeIn K (.ref a_NoText) = some (.type "type"))
    (nn_NoText : PySem.W.subIn K (.type "NoneType") (.ref a_NoText) = some false)
    (e_NoRow : PySem.W.nsIn K mainGlobals "NoRow" = some (some (.ref a_NoRow)))
    (kk_NoRow : PySem.W.clsIn K a_NoRow = some cd_NoRow)
    (tt_NoRow : PySem.W.typeIn K (.ref a_NoRow) = some (.type "type"))
    (nn_NoRow : PySem.W.subIn K (.type "NoneType") (.ref a_NoRow) = some false)
    (e_NoName : PySem.W.nsIn K mainGlobals "NoName" = some (some (.ref a_NoName)))
    (kk_NoName : PySem.W.clsIn K a_NoName = some cd_NoName)
    (tt_NoName : PySem.W.typeIn K (.ref a_NoName) = some (.type "type"))
    (nn_NoName : PySem.W.subIn K (.type "NoneType") (.ref a_NoName) = some false)
    (e_NoPlace : PySem.W.nsIn K mainGlobals "NoPlace" = some (some (.ref a_NoPlace)))
    (kk_NoPlace : PySem.W.clsIn K a_NoPlace = some cd_NoPlace)
    (tt_NoPlace : PySem.W.typeIn K (.ref a_NoPlace) = some (.type "type"))
    (nn_NoPlace : PySem.W.subIn K (.type "NoneType") (.ref a_NoPlace) = some false)
    (e_Grid : PySem.W.nsIn K mainGlobals "Grid" = some (some (.ref a_Grid)))
    (kk_Grid : PySem.W.clsIn K a_Grid = some cd_Grid)
    (tt_Grid : PySem.W.typeIn K (.ref a_Grid) = some (.type "type"))
    (nn_Grid : PySem.W.subIn K (.type "NoneType") (.ref a_Grid) = some false)
    (bb_HostError : PySem.W.subIn K (.ref a_HostError) (.type "BaseException") = some true)
    (x_HostError : PySem.W.excIn K a_HostError bmV newV = true)
    (ob_NoBattle : K.lookup a_NoBattle = some (excClassObj nm_NoBattle qn_NoBattle a_NoBattle N_NoBattle bs_NoBattle (.ref a_HostError :: bmV) true sn_NoBattle sub_NoBattle ab_NoBattle col_NoBattle dd_NoBattle k0_NoBattle k1_NoBattle k2_NoBattle k3_NoBattle k5_NoBattle newV))
    (in_NoBattle : PySem.W.findIn K (.ref a_NoBattle) "__init__" = some (some (.ref i_NoBattle)))
    (ty_NoBattle : PySem.W.typeIn K (.ref i_NoBattle) = some (.type "function"))
    (sa_NoBattle : PySem.W.findIn K (.ref a_NoBattle) "__setattr__" = some (some (.builtin "object.__setattr__")))
    (nf_NoBattle : PySem.W.findIn K (.ref a_NoBattle) "field" = some none)
    (hd_NoBattle : PySem.W.hasDictIn K a_NoBattle = true)
    (li_NoBattle : K.lookup i_NoBattle = some ⟨ioc_NoBattle, iod_NoBattle, .func (PySem.W.fnOf "__init__" "NoBattle.__init__" (defArgs q_NoBattle) (defBody q_NoBattle) (defScope q_NoBattle) .none ikV_NoBattle idc_NoBattle ipm_NoBattle ian_NoBattle icd_NoBattle ict_NoBattle), isl_NoBattle⟩)
    (ci_NoBattle : PySem.W.codeIn K icd_NoBattle "NoBattle.__init__" = true)
    (ki_NoBattle : PySem.W.keepIn K (.ref i_NoBattle) = true)
    (f1_NoBattle : PySem.W.findIn K (.ref a_NoBattle) "__getattribute__" = some (some (.builtin "BaseException.__getattribute__")))
    (f2_NoBattle : PySem.W.findIn K (.ref a_NoBattle) "__getattr__" = some none)
    (f3_NoBattle : PySem.W.findIn K (.ref a_NoBattle) "__class__" = some (some (.builtin "object.__class__")))
    (f4_NoBattle : PySem.W.subIn K (.ref a_NoBattle) (.type "BaseException") = some true)
    (f5_NoBattle : PySem.W.mroIn K a_NoBattle (.type "object") = some true)
    (f6_NoBattle : PySem.W.subIn K (.ref a_NoBattle) (.type "ValueError") = some true)
    (s_NoBattle_HostError : PySem.W.subIn K (.ref a_NoBattle) (.ref a_HostError) = some true)
    (s_NoBattle_NoBattle : PySem.W.subIn K (.ref a_NoBattle) (.ref a_NoBattle) = some true)
    (s_NoBattle_NoPlan : PySem.W.subIn K (.ref a_NoBattle) (.ref a_NoPlan) = some false)
    (s_NoBattle_NoMix : PySem.W.subIn K (.ref a_NoBattle) (.ref a_NoMix) = some false)
    (s_NoBattle_NoStream : PySem.W.subIn K (.ref a_NoBattle) (.ref a_NoStream) = some false)
    (s_NoBattle_NoSide : PySem.W.subIn K (.ref a_NoBattle) (.ref a_NoSide) = some false)
    (s_NoBattle_NoAlike : PySem.W.subIn K (.ref a_NoBattle) (.ref a_NoAlike) = some false)
    (s_NoBattle_NoNumber : PySem.W.subIn K (.ref a_NoBattle) (.ref a_NoNumber) = some false)
    (s_NoBattle_TooGreat : PySem.W.subIn K (.ref a_NoBattle) (.ref a_TooGreat) = some false)
    (s_NoBattle_NoEven : PySem.W.subIn K (.ref a_NoBattle) (.ref a_NoEven) = some false)
    (s_NoBattle_NoText : PySem.W.subIn K (.ref a_NoBattle) (.ref a_NoText) = some false)
    (s_NoBattle_NoRow : PySem.W.subIn K (.ref a_NoBattle) (.ref a_NoRow) = some false)
    (s_NoBattle_NoName : PySem.W.subIn K (.ref a_NoBattle) (.ref a_NoName) = some false)
    (s_NoBattle_NoPlace : PySem.W.subIn K (.ref a_NoBattle) (.ref a_NoPlace) = some false)
    (s_NoBattle_Grid : PySem.W.subIn K (.ref a_NoBattle) (.ref a_Grid) = some false)
    (x_NoPlan : PySem.W.excIn K a_NoPlan bmV newV = true)
    (f1_NoPlan : PySem.W.findIn K (.ref a_NoPlan) "__getattribute__" = some (some (.builtin "BaseException.__getattribute__")))
    (f2_NoPlan : PySem.W.findIn K (.ref a_NoPlan) "__getattr__" = some none)
    (f3_NoPlan : PySem.W.findIn K (.ref a_NoPlan) "__class__" = some (some (.builtin "object.__class__")))
    (f4_NoPlan : PySem.W.subIn K (.ref a_NoPlan) (.type "BaseException") = some true)
    (f5_NoPlan : PySem.W.mroIn K a_NoPlan (.type "object") = some true)
    (f6_NoPlan : PySem.W.subIn K (.ref a_NoPlan) (.type "ValueError") = some true)
    (s_NoPlan_HostError : PySem.W.subIn K (.ref a_NoPlan) (.ref a_HostError) = some true)
    (s_NoPlan_NoBattle : PySem.W.subIn K (.ref a_NoPlan) (.ref a_NoBattle) = some false)
    (s_NoPlan_NoPlan : PySem.W.subIn K (.ref a_NoPlan) (.ref a_NoPlan) = some true)
    (s_NoPlan_NoMix : PySem.W.subIn K (.ref a_NoPlan) (.ref a_NoMix) = some false)
    (s_NoPlan_NoStream : PySem.W.subIn K (.ref a_NoPlan) (.ref a_NoStream) = some false)
    (s_NoPlan_NoSide : PySem.W.subIn K (.ref a_NoPlan) (.ref a_NoSide) = some false)
    (s_NoPlan_NoAlike : PySem.W.subIn K (.ref a_NoPlan) (.ref a_NoAlike) = some false)
    (s_NoPlan_NoNumber : PySem.W.subIn K (.ref a_NoPlan) (.ref a_NoNumber) = some false)
    (s_NoPlan_TooGreat : PySem.W.subIn K (.ref a_NoPlan) (.ref a_TooGreat) = some false)
    (s_NoPlan_NoEven : PySem.W.subIn K (.ref a_NoPlan) (.ref a_NoEven) = some false)
    (s_NoPlan_NoText : PySem.W.subIn K (.ref a_NoPlan) (.ref a_NoText) = some false)
    (s_NoPlan_NoRow : PySem.W.subIn K (.ref a_NoPlan) (.ref a_NoRow) = some false)
    (s_NoPlan_NoName : PySem.W.subIn K (.ref a_NoPlan) (.ref a_NoName) = some false)
    (s_NoPlan_NoPlace : PySem.W.subIn K (.ref a_NoPlan) (.ref a_NoPlace) = some false)
    (s_NoPlan_Grid : PySem.W.subIn K (.ref a_NoPlan) (.ref a_Grid) = some false)
    (x_NoAlike : PySem.W.excIn K a_NoAlike bmV newV = true)
    (f1_NoAlike : PySem.W.findIn K (.ref a_NoAlike) "__getattribute__" = some (some (.builtin "BaseException.__getattribute__")))
    (f2_NoAlike : PySem.W.findIn K (.ref a_NoAlike) "__getattr__" = some none)
    (f3_NoAlike : PySem.W.findIn K (.ref a_NoAlike) "__class__" = some (some (.builtin "object.__class__")))
    (f4_NoAlike : PySem.W.subIn K (.ref a_NoAlike) (.type "BaseException") = some true)
    (f5_NoAlike : PySem.W.mroIn K a_NoAlike (.type "object") = some true)
    (f6_NoAlike : PySem.W.subIn K (.ref a_NoAlike) (.type "ValueError") = some true)
    (s_NoAlike_HostError : PySem.W.subIn K (.ref a_NoAlike) (.ref a_HostError) = some true)
    (s_NoAlike_NoBattle : PySem.W.subIn K (.ref a_NoAlike) (.ref a_NoBattle) = some false)
    (s_NoAlike_NoPlan : PySem.W.subIn K (.ref a_NoAlike) (.ref a_NoPlan) = some false)
    (s_NoAlike_NoMix : PySem.W.subIn K (.ref a_NoAlike) (.ref a_NoMix) = some false)
    (s_NoAlike_NoStream : PySem.W.subIn K (.ref a_NoAlike) (.ref a_NoStream) = some false)
    (s_NoAlike_NoSide : PySem.W.subIn K (.ref a_NoAlike) (.ref a_NoSide) = some false)
    (s_NoAlike_NoAlike : PySem.W.subIn K (.ref a_NoAlike) (.ref a_NoAlike) = some true)
    (s_NoAlike_NoNumber : PySem.W.subIn K (.ref a_NoAlike) (.ref a_NoNumber) = some false)
    (s_NoAlike_TooGreat : PySem.W.subIn K (.ref a_NoAlike) (.ref a_TooGreat) = some false)
    (s_NoAlike_NoEven : PySem.W.subIn K (.ref a_NoAlike) (.ref a_NoEven) = some false)
    (s_NoAlike_NoText : PySem.W.subIn K (.ref a_NoAlike) (.ref a_NoText) = some false)
    (s_NoAlike_NoRow : PySem.W.subIn K (.ref a_NoAlike) (.ref a_NoRow) = some false)
    (s_NoAlike_NoName : PySem.W.subIn K (.ref a_NoAlike) (.ref a_NoName) = some false)
    (s_NoAlike_NoPlace : PySem.W.subIn K (.ref a_NoAlike) (.ref a_NoPlace) = some false)
    (s_NoAlike_Grid : PySem.W.subIn K (.ref a_NoAlike) (.ref a_Grid) = some false) :
    ∃ fd : FuncData, (∀ (s : Shared) (v : Value), BindsTo s fd ⟨[v], []⟩ [("_law_script", v)]) ∧ ∀ base : Heap, K.In base → base.Ns mainGlobals mg → FnOk l.prog w K mg base CX0 13 fa fd ["_law_script"] (spLaw K) := by
  have e := hfa.symm.trans (PySem.W.mg_of X G a_law)
  cases e
  have N : Nm mg := ⟨PySem.W.mg_none_of X G z_ValueError, PySem.W.mg_none_of X G z_abs, PySem.W.mg_none_of X G z_all, PySem.W.mg_none_of X G z_bool, PySem.W.mg_none_of X G z_enumerate, PySem.W.mg_none_of X G z_int, PySem.W.mg_none_of X G z_isinstance, PySem.W.mg_none_of X G z_len, PySem.W.mg_none_of X G z_list, PySem.W.mg_none_of X G z_min, PySem.W.mg_none_of X G z_range, PySem.W.mg_none_of X G z_str, PySem.W.mg_none_of X G z_sum, PySem.W.mg_none_of X G z_tuple, PySem.W.mg_none_of X G z_zip⟩
  have C_MOST_HOSTS_plans := PySem.W.mg_of X G e_MOST_HOSTS_plans
  have C_MOST_FIELDS_plans := PySem.W.mg_of X G e_MOST_FIELDS_plans
  have C_MOST_HOSTS_fields := PySem.W.mg_of X G e_MOST_HOSTS_fields
  have C_MOST_FIELDS_fields := PySem.W.mg_of X G e_MOST_FIELDS_fields
  have F_is_whole := fun_mk (st := s_is_whole) l_is_whole c_is_whole k_is_whole
  have F_is_from := fun_mk (st := s_is_from) l_is_from c_is_from k_is_from
  have F_is_between := fun_mk (st := s_is_between) l_is_between c_is_between k_is_between
  have F_sends_hosts := fun_mk (st := s_sends_hosts) l_sends_hosts c_sends_hosts k_sends_hosts
  have F_is_plan := fun_mk (st := s_is_plan) l_is_plan c_is_plan k_is_plan
  have F_are_hosts := fun_mk (st := s_are_hosts) l_are_hosts c_are_hosts k_are_hosts
  have F_has_size := fun_mk (st := s_has_size) l_has_size c_has_size k_has_size
  have F_is_table_row := fun_mk (st := s_is_table_row) l_is_table_row c_is_table_row k_is_table_row
  have F_is_table := fun_mk (st := s_is_table) l_is_table c_is_table k_is_table
  have F_is_field := fun_mk (st := s_is_field) l_is_field c_is_field k_is_field
  have F_look_battle := fun_mk (st := s_look_battle) l_look_battle c_look_battle k_look_battle
  have F_look_plans := fun_mk (st := s_look_plans) l_look_plans c_look_plans k_look_plans
  have F_is_alike := fun_mk (st := s_is_alike) l_is_alike c_is_alike k_is_alike
  have F_look_alike := fun_mk (st := s_look_alike) l_look_alike c_look_alike k_look_alike
  have F_ratio := fun_mk (st := s_ratio) l_ratio c_ratio k_ratio
  have F_won_together := fun_mk (st := s_won_together) l_won_together c_won_together k_won_together
  have F_ring_gain := fun_mk (st := s_ring_gain) l_ring_gain c_ring_gain k_ring_gain
  have F_all_counts := fun_mk (st := s_all_counts) l_all_counts c_all_counts k_all_counts
  have F_together_table := fun_mk (st := s_together_table) l_together_table c_together_table k_together_table
  have F_counts_table := fun_mk (st := s_counts_table) l_counts_table c_counts_table k_counts_table
  have F_table_worth := fun_mk (st := s_table_worth) l_table_worth c_table_worth k_table_worth
  have F_counts_mix := fun_mk (st := s_counts_mix) l_counts_mix c_counts_mix k_counts_mix
  have F_times := fun_mk (st := s_times) l_times c_times k_times
  have F_counts_worth := fun_mk (st := s_counts_worth) l_counts_worth c_counts_worth k_counts_worth
  have F__law_purse := fun_mk (st := s__law_purse) l__law_purse c__law_purse k__law_purse
  have F__law_draw := fun_mk (st := s__law_draw) l__law_draw c__law_draw k__law_draw
  have F__law_field := fun_mk (st := s__law_field) l__law_field c__law_field k__law_field
  have F__law_copy := fun_mk (st := s__law_copy) l__law_copy c__law_copy k__law_copy
  have F__law_changed := fun_mk (st := s__law_changed) l__law_changed c__law_changed k__law_changed
  have F__law_no_field := fun_mk (st := s__law_no_field) l__law_no_field c__law_no_field k__law_no_field
  have F__law_no_battle := fun_mk (st := s__law_no_battle) l__law_no_battle c__law_no_battle k__law_no_battle
  have F__law_marks := fun_mk (st := s__law_marks) l__law_marks c__law_marks k__law_marks
  have F__law_caught := fun_mk (st := s__law_caught) l__law_caught c__law_caught k__law_caught
  have F__law_said := fun_mk (st := s__law_said) l__law_said c__law_said k__law_said
  have F_law := fun_mk (st := s_law) l_law c_law k_law
  refine ⟨PySem.W.fnOf "law" "law" (defArgs s_law) (defBody s_law) (defScope s_law) .none kV_law dc_law pm_law an_law cd_law ct_law, fun s v => .of_eq rfl, fun base XB GB => ?_⟩
  have Z : Cz K mg base a_HostError a_NoBattle a_NoPlan a_NoMix a_NoStream a_NoSide a_NoAlike a_NoNumber a_TooGreat a_NoEven a_NoText a_NoRow a_NoName a_NoPlace a_Grid i_NoBattle := ⟨PySem.W.mg_of X G e_HostError, PySem.W.mg_of X G e_NoBattle, PySem.W.mg_of X G e_NoPlan, PySem.W.mg_of X G e_NoMix, PySem.W.mg_of X G e_NoStream, PySem.W.mg_of X G e_NoSide, PySem.W.mg_of X G e_NoAlike, PySem.W.mg_of X G e_NoNumber, PySem.W.mg_of X G e_TooGreat, PySem.W.mg_of X G e_NoEven, PySem.W.mg_of X G e_NoText, PySem.W.mg_of X G e_NoRow, PySem.W.mg_of X G e_NoName, PySem.W.mg_of X G e_NoPlace, PySem.W.mg_of X G e_Grid, ⟨⟨_, _, _, _, _, _, _, _, _, _, _, _, _, _, ob_NoBattle⟩, fun h X => tail_self X x_HostError, in_NoBattle, ty_NoBattle, sa_NoBattle, nf_NoBattle⟩, ⟨_, fun_mk (st := q_NoBattle) li_NoBattle ci_NoBattle ki_NoBattle, (fun_mk (st := q_NoBattle) li_NoBattle ci_NoBattle ki_NoBattle).binds fun _ _ _ _ _ _ us hl => match us, hl with | [_, _], _ => rfl⟩, hd_NoBattle, ⟨f1_NoBattle, f2_NoBattle, f3_NoBattle, f4_NoBattle, f5_NoBattle⟩, by rw [kk_NoBattle]; rfl, exm_ref bb_HostError kk_HostError tt_HostError s_NoBattle_HostError, kit_ValueError f6_NoBattle, kit_ref kk_HostError tt_HostError s_NoBattle_HostError s_NoBattle_NoBattle, kit_ref kk_NoBattle tt_NoBattle s_NoBattle_NoBattle s_NoBattle_NoBattle, kit_ref kk_NoPlan tt_NoPlan s_NoBattle_NoPlan s_NoBattle_NoBattle, kit_ref kk_NoMix tt_NoMix s_NoBattle_NoMix s_NoBattle_NoBattle, kit_ref kk_NoStream tt_NoStream s_NoBattle_NoStream s_NoBattle_NoBattle, kit_ref kk_NoSide tt_NoSide s_NoBattle_NoSide s_NoBattle_NoBattle, kit_ref kk_NoAlike tt_NoAlike s_NoBattle_NoAlike s_NoBattle_NoBattle, kit_ref kk_NoNumber tt_NoNumber s_NoBattle_NoNumber s_NoBattle_NoBattle, kit_ref kk_TooGreat tt_TooGreat s_NoBattle_TooGreat s_NoBattle_NoBattle, kit_ref kk_NoEven tt_NoEven s_NoBattle_NoEven s_NoBattle_NoBattle, kit_ref kk_NoText tt_NoText s_NoBattle_NoText s_NoBattle_NoBattle, kit_ref kk_NoRow tt_NoRow s_NoBattle_NoRow s_NoBattle_NoBattle, kit_ref kk_NoName tt_NoName s_NoBattle_NoName s_NoBattle_NoBattle, kit_ref kk_NoPlace tt_NoPlace s_NoBattle_NoPlace s_NoBattle_NoBattle, kit_ref kk_Grid tt_Grid s_NoBattle_Grid s_NoBattle_NoBattle, own_of_K XB GB e_NoPlan x_NoPlan, ⟨f1_NoPlan, f2_NoPlan, f3_NoPlan, f4_NoPlan, f5_NoPlan⟩, by rw [kk_NoPlan]; rfl, exm_ref bb_HostError kk_HostError tt_HostError s_NoPlan_HostError, kit_ValueError f6_NoPlan, kit_ref kk_HostError tt_HostError s_NoPlan_HostError s_NoPlan_NoPlan, kit_ref kk_NoBattle tt_NoBattle s_NoPlan_NoBattle s_NoPlan_NoPlan, kit_ref kk_NoPlan tt_NoPlan s_NoPlan_NoPlan s_NoPlan_NoPlan, kit_ref kk_NoMix tt_NoMix s_NoPlan_NoMix s_NoPlan_NoPlan, kit_ref kk_NoStream tt_NoStream s_NoPlan_NoStream s_NoPlan_NoPlan, kit_ref kk_NoSide tt_NoSide s_NoPlan_NoSide s_NoPlan_NoPlan, kit_ref kk_NoAlike tt_NoAlike s_NoPlan_NoAlike s_NoPlan_NoPlan, kit_ref kk_NoNumber tt_NoNumber s_NoPlan_NoNumber s_NoPlan_NoPlan, kit_ref kk_TooGreat tt_TooGreat s_NoPlan_TooGreat s_NoPlan_NoPlan, kit_ref kk_NoEven tt_NoEven s_NoPlan_NoEven s_NoPlan_NoPlan, kit_ref kk_NoText tt_NoText s_NoPlan_NoText s_NoPlan_NoPlan, kit_ref kk_NoRow tt_NoRow s_NoPlan_NoRow s_NoPlan_NoPlan, kit_ref kk_NoName tt_NoName s_NoPlan_NoName s_NoPlan_NoPlan, kit_ref kk_NoPlace tt_NoPlace s_NoPlan_NoPlace s_NoPlan_NoPlan, kit_ref kk_Grid tt_Grid s_NoPlan_Grid s_NoPlan_NoPlan, own_of_K XB GB e_NoAlike x_NoAlike, ⟨f1_NoAlike, f2_NoAlike, f3_NoAlike, f4_NoAlike, f5_NoAlike⟩, by rw [kk_NoAlike]; rfl, exm_ref bb_HostError kk_HostError tt_HostError s_NoAlike_HostError, kit_ValueError f6_NoAlike, kit_ref kk_HostError tt_HostError s_NoAlike_HostError s_NoAlike_NoAlike, kit_ref kk_NoBattle tt_NoBattle s_NoAlike_NoBattle s_NoAlike_NoAlike, kit_ref kk_NoPlan tt_NoPlan s_NoAlike_NoPlan s_NoAlike_NoAlike, kit_ref kk_NoMix tt_NoMix s_NoAlike_NoMix s_NoAlike_NoAlike, kit_ref kk_NoStream tt_NoStream s_NoAlike_NoStream s_NoAlike_NoAlike, kit_ref kk_NoSide tt_NoSide s_NoAlike_NoSide s_NoAlike_NoAlike, kit_ref kk_NoAlike tt_NoAlike s_NoAlike_NoAlike s_NoAlike_NoAlike, kit_ref kk_NoNumber tt_NoNumber s_NoAlike_NoNumber s_NoAlike_NoAlike, kit_ref kk_TooGreat tt_TooGreat s_NoAlike_TooGreat s_NoAlike_NoAlike, kit_ref kk_NoEven tt_NoEven s_NoAlike_NoEven s_NoAlike_NoAlike, kit_ref kk_NoText tt_NoText s_NoAlike_NoText s_NoAlike_NoAlike, kit_ref kk_NoRow tt_NoRow s_NoAlike_NoRow s_NoAlike_NoAlike, kit_ref kk_NoName tt_NoName s_NoAlike_NoName s_NoAlike_NoAlike, kit_ref kk_NoPlace tt_NoPlace s_NoAlike_NoPlace s_NoAlike_NoAlike, kit_ref kk_Grid tt_Grid s_NoAlike_Grid s_NoAlike_NoAlike, kit_none kk_HostError tt_HostError nn_HostError, kit_none kk_NoBattle tt_NoBattle nn_NoBattle, kit_none kk_NoPlan tt_NoPlan nn_NoPlan, kit_none kk_NoMix tt_NoMix nn_NoMix, kit_none kk_NoStream tt_NoStream nn_NoStream, kit_none kk_NoSide tt_NoSide nn_NoSide, kit_none kk_NoAlike tt_NoAlike nn_NoAlike, kit_none kk_NoNumber tt_NoNumber nn_NoNumber, kit_none kk_TooGreat tt_TooGreat nn_TooGreat, kit_none kk_NoEven tt_NoEven nn_NoEven, kit_none kk_NoText tt_NoText nn_NoText, kit_none kk_NoRow tt_NoRow nn_NoRow, kit_none kk_NoName tt_NoName nn_NoName, kit_none kk_NoPlace tt_NoPlace nn_NoPlace, kit_none kk_Grid tt_Grid nn_Grid⟩
  have D_is_whole : Def l.prog w K mg base CX0 1 "is_whole" ["thing"] sp_is_whole := ⟨⟨_, _, ok_is_whole (P := l.prog) (w := w) (base := base) F_is_whole N , PySem.W.mg_of X G a_is_whole, k_is_whole, F_is_whole.binds fun _ _ _ _ _ _ us hl => match us, hl with | [_], _ => rfl⟩⟩
  have D_is_from : Def l.prog w K mg base CX0 2 "is_from" ["thing", "least"] sp_is_from := ⟨⟨_, _, ok_is_from (P := l.prog) (w := w) (base := base) F_is_from N D_is_whole, PySem.W.mg_of X G a_is_from, k_is_from, F_is_from.binds fun _ _ _ _ _ _ us hl => match us, hl with | [_, _], _ => rfl⟩⟩
  have D_is_between : Def l.prog w K mg base CX0 3 "is_between" ["thing", "least", "most"] sp_is_between := ⟨⟨_, _, ok_is_between (P := l.prog) (w := w) (base := base) F_is_between N D_is_from, PySem.W.mg_of X G a_is_between, k_is_between, F_is_between.binds fun _ _ _ _ _ _ us hl => match us, hl with | [_, _, _], _ => rfl⟩⟩
  have D_sends_hosts : Def l.prog w K mg base CX0 3 "sends_hosts" ["plan"] sp_sends_hosts := ⟨⟨_, _, ok_sends_hosts (P := l.prog) (w := w) (base := base) F_sends_hosts N D_is_from, PySem.W.mg_of X G a_sends_hosts, k_sends_hosts, F_sends_hosts.binds fun _ _ _ _ _ _ us hl => match us, hl with | [_], _ => rfl⟩⟩
  have D_is_plan : Def l.prog w K mg base CX0 4 "is_plan" ["hosts", "fields", "plan"] sp_is_plan := ⟨⟨_, _, ok_is_plan (P := l.prog) (w := w) (base := base) F_is_plan N D_sends_hosts, PySem.W.mg_of X G a_is_plan, k_is_plan, F_is_plan.binds fun _ _ _ _ _ _ us hl => match us, hl with | [_, _, _], _ => rfl⟩⟩
  have D_are_hosts : Def l.prog w K mg base CX0 4 "are_hosts" ["first", "second"] sp_are_hosts := ⟨⟨_, _, ok_are_hosts (P := l.prog) (w := w) (base := base) F_are_hosts N C_MOST_HOSTS_fields D_is_between, PySem.W.mg_of X G a_are_hosts, k_are_hosts, F_are_hosts.binds fun _ _ _ _ _ _ us hl => match us, hl with | [_, _], _ => rfl⟩⟩
  have D_has_size : Def l.prog w K mg base CX0 5 "has_size" ["battle"] sp_has_size := ⟨⟨_, _, ok_has_size (P := l.prog) (w := w) (base := base) F_has_size N C_MOST_FIELDS_fields D_are_hosts, PySem.W.mg_of X G a_has_size, k_has_size, F_has_size.binds fun _ _ _ _ _ _ us hl => match us, hl with | [_], _ => rfl⟩⟩
  have D_is_table_row : Def l.prog w K mg base CX0 2 "is_table_row" ["many_numbers", "row"] sp_is_table_row := ⟨⟨_, _, ok_is_table_row (P := l.prog) (w := w) (base := base) F_is_table_row N D_is_whole, PySem.W.mg_of X G a_is_table_row, k_is_table_row, F_is_table_row.binds fun _ _ _ _ _ _ us hl => match us, hl with | [_, _], _ => rfl⟩⟩
  have D_is_table : Def l.prog w K mg base CX0 3 "is_table" ["many_rows", "many_numbers", "rows"] sp_is_table := ⟨⟨_, _, ok_is_table (P := l.prog) (w := w) (base := base) F_is_table N D_is_table_row, PySem.W.mg_of X G a_is_table, k_is_table, F_is_table.binds fun _ _ _ _ _ _ us hl => match us, hl with | [_, _, _], _ => rfl⟩⟩
  have D_is_field : Def l.prog w K mg base CX0 4 "is_field" ["first", "second", "field"] sp_is_field := ⟨⟨_, _, ok_is_field (P := l.prog) (w := w) (base := base) F_is_field N D_is_between D_is_from D_is_table D_is_whole, PySem.W.mg_of X G a_is_field, k_is_field, F_is_field.binds fun _ _ _ _ _ _ us hl => match us, hl with | [_, _, _], _ => rfl⟩⟩
  have D_look_battle : Def l.prog w K mg base (CXR l.prog w) 6 "look_battle" ["battle"] (sp_look_battle a_NoBattle) := ⟨⟨_, _, ok_look_battle (P := l.prog) (w := w) (base := base) F_look_battle N D_has_size D_is_field Z, PySem.W.mg_of X G a_look_battle, k_look_battle, F_look_battle.binds fun _ _ _ _ _ _ us hl => match us, hl with | [_], _ => rfl⟩⟩
  have D_look_plans : Def l.prog w K mg base (CXR l.prog w) 5 "look_plans" ["battle", "one", "other"] (sp_look_plans a_NoPlan) := ⟨⟨_, _, ok_look_plans (P := l.prog) (w := w) (base := base) F_look_plans N D_is_plan Z, PySem.W.mg_of X G a_look_plans, k_look_plans, F_look_plans.binds fun _ _ _ _ _ _ us hl => match us, hl with | [_, _, _], _ => rfl⟩⟩
  have D_is_alike : Def l.prog w K mg base (CXR l.prog w) 7 "is_alike" ["battle"] (sp_is_alike a_NoBattle) := ⟨⟨_, _, ok_is_alike (P := l.prog) (w := w) (base := base) F_is_alike N D_look_battle, PySem.W.mg_of X G a_is_alike, k_is_alike, F_is_alike.binds fun _ _ _ _ _ _ us hl => match us, hl with | [_], _ => rfl⟩⟩
  have D_look_alike : Def l.prog w K mg base (CXR l.prog w) 8 "look_alike" ["battle"] (sp_look_alike a_NoBattle a_NoAlike) := ⟨⟨_, _, ok_look_alike (P := l.prog) (w := w) (base := base) F_look_alike N D_is_alike Z, PySem.W.mg_of X G a_look_alike, k_look_alike, F_look_alike.binds fun _ _ _ _ _ _ us hl => match us, hl with | [_], _ => rfl⟩⟩
  have D_ratio : Def l.prog w K mg base CX0 1 "ratio" ["top", "bottom"] sp_ratio := ⟨⟨_, _, ok_ratio (P := l.prog) (w := w) (base := base) F_ratio N , PySem.W.mg_of X G a_ratio, k_ratio, F_ratio.binds fun _ _ _ _ _ _ us hl => match us, hl with | [_, _], _ => rfl⟩⟩
  have D_won_together : Def l.prog w K mg base CX0 1 "won_together" ["field", "one", "other"] sp_won_together := ⟨⟨_, _, ok_won_together (P := l.prog) (w := w) (base := base) F_won_together N , PySem.W.mg_of X G a_won_together, k_won_together, F_won_together.binds fun _ _ _ _ _ _ us hl => match us, hl with | [_, _, _], _ => rfl⟩⟩
  have D_ring_gain : Def l.prog w K mg base (CXR l.prog w) 9 "ring_gain" ["battle", "one", "other"] (sp_ring_gain a_NoBattle a_NoPlan a_NoAlike) := ⟨⟨_, _, ok_ring_gain (P := l.prog) (w := w) (base := base) F_ring_gain N D_look_alike D_look_plans D_ratio D_won_together, PySem.W.mg_of X G a_ring_gain, k_ring_gain, F_ring_gain.binds fun _ _ _ _ _ _ us hl => match us, hl with | [_, _, _], _ => rfl⟩⟩
  have D_all_counts : Def l.prog w K mg base CX0 1 "all_counts" ["hosts", "fields"] sp_all_counts := ⟨⟨_, _, ok_all_counts (P := l.prog) (w := w) (base := base) F_all_counts N , PySem.W.mg_of X G a_all_counts, k_all_counts, F_all_counts.binds fun _ _ _ _ _ _ us hl => match us, hl with | [_, _], _ => rfl⟩⟩
  have D_together_table : Def l.prog w K mg base CX0 1 "together_table" ["field", "ones", "others"] sp_together_table := ⟨⟨_, _, ok_together_table (P := l.prog) (w := w) (base := base) F_together_table N , PySem.W.mg_of X G a_together_table, k_together_table, F_together_table.binds fun _ _ _ _ _ _ us hl => match us, hl with | [_, _, _], _ => rfl⟩⟩
  have D_counts_table : Def l.prog w K mg base (CXR l.prog w) 9 "counts_table" ["battle"] (sp_counts_table a_NoBattle a_NoAlike) := ⟨⟨_, _, ok_counts_table (P := l.prog) (w := w) (base := base) F_counts_table N D_all_counts D_look_alike D_together_table, PySem.W.mg_of X G a_counts_table, k_counts_table, F_counts_table.binds fun _ _ _ _ _ _ us hl => match us, hl with | [_], _ => rfl⟩⟩
  have D_table_worth : Def l.prog w K mg base CX0 1 "table_worth" ["table"] sp_table_worth := ⟨⟨_, _, ok_table_worth (P := l.prog) (w := w) (base := base) F_table_worth N , PySem.W.mg_of X G a_table_worth, k_table_worth, F_table_worth.binds fun _ _ _ _ _ _ us hl => match us, hl with | [_], _ => rfl⟩⟩
  have D_counts_mix : Def l.prog w K mg base CX0 1 "counts_mix" ["hosts", "fields", "weights"] sp_counts_mix := ⟨⟨_, _, ok_counts_mix (P := l.prog) (w := w) (base := base) F_counts_mix N , PySem.W.mg_of X G a_counts_mix, k_counts_mix, F_counts_mix.binds fun _ _ _ _ _ _ us hl => match us, hl with | [_, _, _], _ => rfl⟩⟩
  have D_times : Def l.prog w K mg base CX0 1 "times" ["one", "other"] sp_times := ⟨⟨_, _, ok_times (P := l.prog) (w := w) (base := base) F_times N , PySem.W.mg_of X G a_times, k_times, F_times.binds fun _ _ _ _ _ _ us hl => match us, hl with | [_, _], _ => rfl⟩⟩
  have D_counts_worth : Def l.prog w K mg base (CXR l.prog w) 10 "counts_worth" ["battle"] (sp_counts_worth a_NoBattle a_NoAlike) := ⟨⟨_, _, ok_counts_worth (P := l.prog) (w := w) (base := base) F_counts_worth N D_counts_mix D_counts_table D_table_worth D_times, PySem.W.mg_of X G a_counts_worth, k_counts_worth, F_counts_worth.binds fun _ _ _ _ _ _ us hl => match us, hl with | [_], _ => rfl⟩⟩
  have D__law_purse : Def l.prog w K mg base CX0 1 "_law_purse" ["_law_script"] (sp__law_purse K) := ⟨⟨_, _, ok__law_purse (P := l.prog) (w := w) (base := base) F__law_purse N , PySem.W.mg_of X G a__law_purse, k__law_purse, F__law_purse.binds fun _ _ _ _ _ _ us hl => match us, hl with | [_], _ => rfl⟩⟩
  have D__law_draw : Def l.prog w K mg base CX0 1 "_law_draw" ["_law_purse_here", "_law_out_of"] sp__law_draw := ⟨⟨_, _, ok__law_draw (P := l.prog) (w := w) (base := base) F__law_draw N , PySem.W.mg_of X G a__law_draw, k__law_draw, F__law_draw.binds fun _ _ _ _ _ _ us hl => match us, hl with | [_, _], _ => rfl⟩⟩
  have D__law_field : Def l.prog w K mg base CX0 2 "_law_field" ["_law_purse_here", "_law_first", "_law_second"] sp__law_field := ⟨⟨_, _, ok__law_field (P := l.prog) (w := w) (base := base) F__law_field N D__law_draw, PySem.W.mg_of X G a__law_field, k__law_field, F__law_field.binds fun _ _ _ _ _ _ us hl => match us, hl with | [_, _, _], _ => rfl⟩⟩
  have D__law_copy : Def l.prog w K mg base CX0 1 "_law_copy" ["_law_field_here"] sp__law_copy := ⟨⟨_, _, ok__law_copy (P := l.prog) (w := w) (base := base) F__law_copy N , PySem.W.mg_of X G a__law_copy, k__law_copy, F__law_copy.binds fun _ _ _ _ _ _ us hl => match us, hl with | [_], _ => rfl⟩⟩
  have D__law_changed : Def l.prog w K mg base CX0 2 "_law_changed" ["_law_purse_here", "_law_field_here", "_law_first", "_law_second"] sp__law_changed := ⟨⟨_, _, ok__law_changed (P := l.prog) (w := w) (base := base) F__law_changed N D__law_draw, PySem.W.mg_of X G a__law_changed, k__law_changed, F__law_changed.binds fun _ _ _ _ _ _ us hl => match us, hl with | [_, _, _, _], _ => rfl⟩⟩
  have D__law_no_field : Def l.prog w K mg base CX0 2 "_law_no_field" ["_law_purse_here", "_law_field_here"] sp__law_no_field := ⟨⟨_, _, ok__law_no_field (P := l.prog) (w := w) (base := base) F__law_no_field N D__law_draw, PySem.W.mg_of X G a__law_no_field, k__law_no_field, F__law_no_field.binds fun _ _ _ _ _ _ us hl => match us, hl with | [_, _], _ => rfl⟩⟩
  have D__law_no_battle : Def l.prog w K mg base CX0 3 "_law_no_battle" ["_law_purse_here", "_law_battle"] sp__law_no_battle := ⟨⟨_, _, ok__law_no_battle (P := l.prog) (w := w) (base := base) F__law_no_battle N D__law_draw D__law_no_field, PySem.W.mg_of X G a__law_no_battle, k__law_no_battle, F__law_no_battle.binds fun _ _ _ _ _ _ us hl => match us, hl with | [_, _], _ => rfl⟩⟩
  have D__law_marks : Def l.prog w K mg base CX0 1 "_law_marks" ["_law_caught_here"] (sp__law_marks a_NoBattle a_NoPlan a_NoAlike) := ⟨⟨_, _, ok__law_marks (P := l.prog) (w := w) (base := base) F__law_marks N Z, PySem.W.mg_of X G a__law_marks, k__law_marks, F__law_marks.binds fun _ _ _ _ _ _ us hl => match us, hl with | [_], _ => rfl⟩⟩
  have D__law_caught : Def l.prog w K mg base CX0 11 "_law_caught" ["_law_way", "_law_battle", "_law_one", "_law_other"] (sp__law_caught a_NoBattle a_NoPlan a_NoAlike) := ⟨⟨_, _, ok__law_caught (P := l.prog) (w := w) (base := base) F__law_caught N D_counts_table D_counts_worth D_is_alike D_ring_gain Z, PySem.W.mg_of X G a__law_caught, k__law_caught, F__law_caught.binds fun _ _ _ _ _ _ us hl => match us, hl with | [_, _, _, _], _ => rfl⟩⟩
  have D__law_said : Def l.prog w K mg base CX0 12 "_law_said" ["_law_battle", "_law_due"] sp__law_said := ⟨⟨_, _, ok__law_said (P := l.prog) (w := w) (base := base) F__law_said N D__law_caught D__law_copy D__law_marks D_is_alike, PySem.W.mg_of X G a__law_said, k__law_said, F__law_said.binds fun _ _ _ _ _ _ us hl => match us, hl with | [_, _], _ => rfl⟩⟩
  exact ok_law (P := l.prog) (w := w) (base := base) F_law N D__law_caught D__law_changed D__law_copy D__law_draw D__law_field D__law_marks D__law_no_battle D__law_purse D__law_said Z
theorem walk {l : PySem.W.OpenLaw} {q : Program} {loose : List Str} {XP : (Str → Option Value) → Heap → Prop} {YP : World → Heap → Prop} {d : DefRec} {K : Params → PySem.W.Frag} (hn : l.most = some 63) (hdf : d.params.defaults = [])
    (hY : ∀ (w : World) (h : Heap), YP w h → (K w.params).In h)
    (F : ∀ (w : World) (mg : Str → Option Value) (fa : Addr) (h : Heap), (K w.params).In h → h.Ns mainGlobals mg → mg d.name = some (.ref fa) →
      ∃ fd : FuncData, (∀ (s : Shared) (u : Value), BindsTo s fd ⟨[u], []⟩ [("_law_script", u)]) ∧ ∀ base : Heap, (K w.params).In base → base.Ns mainGlobals mg → FnOk l.prog w (K w.params) mg base CX0 13 fa fd ["_law_script"] (spLaw (K w.params))) :
    PySem.W.WalkO q loose XP YP l.row.toRowW d [] (fun f vs => PySem.call f vs) :=
  L2.walk_of (n := 63) (k := 13) (x := "_law_script") (CX := fun _ => CX0) (sp := fun w => spLaw (K w.params)) hn (by decide) hdf ⟨rfl, by decide, by decide, rfl⟩ hY F (fun _ _ a ns hl _ hS => ⟨a, ns, rfl, hS, hl, fun _ => rfl⟩) fun _ _ _ _ _ z => z
end G
theorem PySem.W.Fast.tw4230948707135611500 : True := trivial
theorem PySem.W.Fast.tw10661206852321271924 : True := trivial
theorem PySem.W.Fast.tw12730329771572273408 : True := trivial
theorem PySem.W.Fast.tw9641869975759656763 : True := trivial
theorem PySem.W.Fast.tw963051542363809978 : True := trivial
theorem PySem.W.Fast.tw12566705489344167299 : True := trivial
theorem PySem.W.Fast.tw3319575936582523617 : True := trivial
theorem PySem.W.Fast.tw15180134446164104506 : True := trivial
theorem PySem.W.Fast.tw15525680249779664445 : True := trivial
theorem PySem.W.Fast.tw13194635348003506986 : True := trivial
theorem PySem.W.Fast.tw16041284096570320414 : True := trivial
theorem PySem.W.Fast.tw14270874709208389459 : True := trivial
theorem PySem.W.Fast.tw679705859522796173 : True := trivial
theorem PySem.W.Fast.tw8538458005013976262 : True := trivial
theorem PySem.W.Fast.tw6544247407607768165 : True := trivial
theorem PySem.W.Fast.tw6636394703095921325 : True := trivial
theorem PySem.W.Fast.tw16801696969351579490 : True := trivial
theorem PySem.W.Fast.tw342548934478377059 : True := trivial
theorem PySem.W.Fast.tw16409841568684292306 : True := trivial
theorem PySem.W.Fast.tw9973217367383216496 : True := trivial
theorem PySem.W.Fast.tw9221937924676879998 : True := trivial
theorem PySem.W.Fast.tw13580637682798712967 : True := trivial
theorem PySem.W.Fast.tw5980957942101322511 : True := trivial
theorem PySem.W.Fast.tw16564477381988841318 : True := trivial
open PySem PySem.W PyProof.Rows
set_option maxRecDepth 100000 in
set_option maxHeartbeats 0 in
theorem PySem.Challenge.cw_hostfields_k40_alike_battles_told_holds : PySem.Challenge.rw_hostfields_k40_alike_battles_told.Holds := by
  w_on; o_law; k_head; (case hw => w_witness2)
  k_fill
  first | refine G.walk (l := PySem.Challenge.rw_hostfields_k40_alike_battles_told) rfl rfl (fun w h Y => PySem.W.kIn_of Y) ?F | refine G.walk (l := PySem.Challenge.rw_hostfields_k40_alike_battles_told) rfl rfl (fun w h Y => PySem.W.km_in_of Y) ?F
  case F =>
    intro w mg fa h KX GG hmg
    refine' G.all_mk KX GG hmg ?e_MOST_HOSTS_plans ?e_MOST_FIELDS_plans ?e_MOST_HOSTS_fields ?e_MOST_FIELDS_fields ?a_is_whole ?l_is_whole ?c_is_whole ?k_is_whole ?a_is_from ?l_is_from ?c_is_from ?k_is_from ?a_is_between ?l_is_between ?c_is_between ?k_is_between ?a_sends_hosts ?l_sends_hosts ?c_sends_hosts ?k_sends_hosts ?a_is_plan ?l_is_plan ?c_is_plan ?k_is_plan ?a_are_hosts ?l_are_hosts ?c_are_hosts ?k_are_hosts ?a_has_size ?l_has_size ?c_has_size ?k_has_size ?a_is_table_row ?l_is_table_row ?c_is_table_row ?k_is_table_row ?a_is_table ?l_is_table ?c_is_table ?k_is_table ?a_is_field ?l_is_field ?c_is_field ?k_is_field ?a_look_battle ?l_look_battle ?c_look_battle ?k_look_battle ?a_look_plans ?l_look_plans ?c_look_plans ?k_look_plans ?a_is_alike ?l_is_alike ?c_is_alike ?k_is_alike ?a_look_alike ?l_look_alike ?c_look_alike ?k_look_alike ?a_ratio ?l_ratio ?c_ratio ?k_ratio ?a_won_together ?l_won_together ?c_won_together ?k_won_together ?a_ring_gain ?l_ring_gain ?c_ring_gain ?k_ring_gain ?a_all_counts ?l_all_counts ?c_all_counts ?k_all_counts ?a_together_table ?l_together_table ?c_together_table ?k_together_table ?a_counts_table ?l_counts_table ?c_counts_table ?k_counts_table ?a_table_worth ?l_table_worth ?c_table_worth ?k_table_worth ?a_counts_mix ?l_counts_mix ?c_counts_mix ?k_counts_mix ?a_times ?l_times ?c_times ?k_times ?a_counts_worth ?l_counts_worth ?c_counts_worth ?k_counts_worth ?a__law_purse ?l__law_purse ?c__law_purse ?k__law_purse ?a__law_draw ?l__law_draw ?c__law_draw ?k__law_draw ?a__law_field ?l__law_field ?c__law_field ?k__law_field ?a__law_copy ?l__law_copy ?c__law_copy ?k__law_copy ?a__law_changed ?l__law_changed ?c__law_changed ?k__law_changed ?a__law_no_field ?l__law_no_field ?c__law_no_field ?k__law_no_field ?a__law_no_battle ?l__law_no_battle ?c__law_no_battle ?k__law_no_battle ?a__law_marks ?l__law_marks ?c__law_marks ?k__law_marks ?a__law_caught ?l__law_caught ?c__law_caught ?k__law_caught ?a__law_said ?l__law_said ?c__law_said ?k__law_said ?a_law ?l_law ?c_law ?k_law ?z_ValueError ?z_abs ?z_all ?z_bool ?z_enumerate ?z_int ?z_isinstance ?z_len ?z_list ?z_min ?z_range ?z_str ?z_sum ?z_tuple ?z_zip ?e_HostError ?kk_HostError ?tt_HostError ?nn_HostError ?e_NoBattle ?kk_NoBattle ?tt_NoBattle ?nn_NoBattle ?e_NoPlan ?kk_NoPlan ?tt_NoPlan ?nn_NoPlan ?e_NoMix ?kk_NoMix ?tt_NoMix ?nn_NoMix ?e_NoStream ?kk_NoStream ?tt_NoStream ?nn_NoStream ?e_NoSide ?kk_NoSide ?tt_NoSide ?nn_NoSide ?e_NoAlike ?kk_NoAlike ?tt_NoAlike ?nn_NoAlike ?e_NoNumber ?kk_NoNumber ?tt_NoNumber ?nn_NoNumber ?e_TooGreat ?kk_TooGreat ?tt_TooGreat ?nn_TooGreat ?e_NoEven ?kk_NoEven ?tt_NoEven ?nn_NoEven ?e_NoText ?kk_NoText ?tt_NoText ?nn_NoText ?e_NoRow ?kk_NoRow ?tt_NoRow ?nn_NoRow ?e_NoName ?kk_NoName ?tt_NoName ?nn_NoName ?e_NoPlace ?kk_NoPlace ?tt_NoPlace ?nn_NoPlace ?e_Grid ?kk_Grid ?tt_Grid ?nn_Grid ?bb_HostError ?x_HostError ?ob_NoBattle ?in_NoBattle ?ty_NoBattle ?sa_NoBattle ?nf_NoBattle ?hd_NoBattle ?li_NoBattle ?ci_NoBattle ?ki_NoBattle ?f1_NoBattle ?f2_NoBattle ?f3_NoBattle ?f4_NoBattle ?f5_NoBattle ?f6_NoBattle ?s_NoBattle_HostError ?s_NoBattle_NoBattle ?s_NoBattle_NoPlan ?s_NoBattle_NoMix ?s_NoBattle_NoStream ?s_NoBattle_NoSide ?s_NoBattle_NoAlike ?s_NoBattle_NoNumber ?s_NoBattle_TooGreat ?s_NoBattle_NoEven ?s_NoBattle_NoText ?s_NoBattle_NoRow ?s_NoBattle_NoName ?s_NoBattle_NoPlace ?s_NoBattle_Grid ?x_NoPlan ?f1_NoPlan ?f2_NoPlan ?f3_NoPlan ?f4_NoPlan ?f5_NoPlan ?f6_NoPlan ?s_NoPlan_HostError ?s_NoPlan_NoBattle ?s_NoPlan_NoPlan ?s_NoPlan_NoMix ?s_NoPlan_NoStream ?s_NoPlan_NoSide ?s_NoPlan_NoAlike ?s_NoPlan_NoNumber ?s_NoPlan_TooGreat ?s_NoPlan_NoEven ?s_NoPlan_NoText ?s_NoPlan_NoRow ?s_NoPlan_NoName ?s_NoPlan_NoPlace ?s_NoPlan_Grid ?x_NoAlike ?f1_NoAlike ?f2_NoAlike ?f3_NoAlike ?f4_NoAlike ?f5_NoAlike ?f6_NoAlike ?s_NoAlike_HostError ?s_NoAlike_NoBattle ?s_NoAlike_NoPlan ?s_NoAlike_NoMix ?s_NoAlike_NoStream ?s_NoAlike_NoSide ?s_NoAlike_NoAlike ?s_NoAlike_NoNumber ?s_NoAlike_TooGreat ?s_NoAlike_NoEven ?s_NoAlike_NoText ?s_NoAlike_NoRow ?s_NoAlike_NoName ?s_NoAlike_NoPlace ?s_NoAlike_Grid
    (case e_MOST_HOSTS_plans => k_is)
    (case e_MOST_FIELDS_plans => k_is)
    (case e_MOST_HOSTS_fields => k_is)
    (case e_MOST_FIELDS_fields => k_is)
    (case a_is_whole => k_is)
    (case l_is_whole => k_is)
    (case c_is_whole => k_is)
    (case k_is_whole => k_is)
    (case a_is_from => k_is)
    (case l_is_from => k_is)
    (case c_is_from => k_is)
    (case k_is_from => k_is)
    (case a_is_between => k_is)
    (case l_is_between => k_is)
    (case c_is_between => k_is)
    (case k_is_between => k_is)
    (case a_sends_hosts => k_is)
    (case l_sends_hosts => k_is)
    (case c_sends_hosts => k_is)
    (case k_sends_hosts => k_is)
    (case a_is_plan => k_is)
    (case l_is_plan => k_is)
    (case c_is_plan => k_is)
    (case k_is_plan => k_is)
    (case a_are_hosts => k_is)
    (case l_are_hosts => k_is)
    (case c_are_hosts => k_is)
    (case k_are_hosts => k_is)
    (case a_has_size => k_is)
    (case l_has_size => k_is)
    (case c_has_size => k_is)
    (case k_has_size => k_is)
    (case a_is_table_row => k_is)
    (case l_is_table_row => k_is)
    (case c_is_table_row => k_is)
    (case k_is_table_row => k_is)
    (case a_is_table => k_is)
    (case l_is_table => k_is)
    (case c_is_table => k_is)
    (case k_is_table => k_is)
    (case a_is_field => k_is)
    (case l_is_field => k_is)
    (case c_is_field => k_is)
    (case k_is_field => k_is)
    (case a_look_battle => k_is)
    (case l_look_battle => k_is)
    (case c_look_battle => k_is)
    (case k_look_battle => k_is)
    (case a_look_plans => k_is)
    (case l_look_plans => k_is)
    (case c_look_plans => k_is)
    (case k_look_plans => k_is)
    (case a_is_alike => k_is)
    (case l_is_alike => k_is)
    (case c_is_alike => k_is)
    (case k_is_alike => k_is)
    (case a_look_alike => k_is)
    (case l_look_alike => k_is)
    (case c_look_alike => k_is)
    (case k_look_alike => k_is)
    (case a_ratio => k_is)
    (case l_ratio => k_is)
    (case c_ratio => k_is)
    (case k_ratio => k_is)
    (case a_won_together => k_is)
    (case l_won_together => k_is)
    (case c_won_together => k_is)
    (case k_won_together => k_is)
    (case a_ring_gain => k_is)
    (case l_ring_gain => k_is)
    (case c_ring_gain => k_is)
    (case k_ring_gain => k_is)
    (case a_all_counts => k_is)
    (case l_all_counts => k_is)
    (case c_all_counts => k_is)
    (case k_all_counts => k_is)
    (case a_together_table => k_is)
    (case l_together_table => k_is)
    (case c_together_table => k_is)
    (case k_together_table => k_is)
    (case a_counts_table => k_is)
    (case l_counts_table => k_is)
    (case c_counts_table => k_is)
    (case k_counts_table => k_is)
    (case a_table_worth => k_is)
    (case l_table_worth => k_is)
    (case c_table_worth => k_is)
    (case k_table_worth => k_is)
    (case a_counts_mix => k_is)
    (case l_counts_mix => k_is)
    (case c_counts_mix => k_is)
    (case k_counts_mix => k_is)
    (case a_times => k_is)
    (case l_times => k_is)
    (case c_times => k_is)
    (case k_times => k_is)
    (case a_counts_worth => k_is)
    (case l_counts_worth => k_is)
    (case c_counts_worth => k_is)
    (case k_counts_worth => k_is)
    (case a__law_purse => k_is)
    (case l__law_purse => k_is)
    (case c__law_purse => k_is)
    (case k__law_purse => k_is)
    (case a__law_draw => k_is)
    (case l__law_draw => k_is)
    (case c__law_draw => k_is)
    (case k__law_draw => k_is)
    (case a__law_field => k_is)
    (case l__law_field => k_is)
    (case c__law_field => k_is)
    (case k__law_field => k_is)
    (case a__law_copy => k_is)
    (case l__law_copy => k_is)
    (case c__law_copy => k_is)
    (case k__law_copy => k_is)
    (case a__law_changed => k_is)
    (case l__law_changed => k_is)
    (case c__law_changed => k_is)
    (case k__law_changed => k_is)
    (case a__law_no_field => k_is)
    (case l__law_no_field => k_is)
    (case c__law_no_field => k_is)
    (case k__law_no_field => k_is)
    (case a__law_no_battle => k_is)
    (case l__law_no_battle => k_is)
    (case c__law_no_battle => k_is)
    (case k__law_no_battle => k_is)
    (case a__law_marks => k_is)
    (case l__law_marks => k_is)
    (case c__law_marks => k_is)
    (case k__law_marks => k_is)
    (case a__law_caught => k_is)
    (case l__law_caught => k_is)
    (case c__law_caught => k_is)
    (case k__law_caught => k_is)
    (case a__law_said => k_is)
    (case l__law_said => k_is)
    (case c__law_said => k_is)
    (case k__law_said => k_is)
    (case a_law => k_is)
    (case l_law => k_is)
    (case c_law => k_is)
    (case k_law => k_is)
    (case z_ValueError => k_is)
    (case z_abs => k_is)
    (case z_all => k_is)
    (case z_bool => k_is)
    (case z_enumerate => k_is)
    (case z_int => k_is)
    (case z_isinstance => k_is)
    (case z_len => k_is)
    (case z_list => k_is)
    (case z_min => k_is)
    (case z_range => k_is)
    (case z_str => k_is)
    (case z_sum => k_is)
    (case z_tuple => k_is)
    (case z_zip => k_is)
    (case e_HostError => k_is)
    (case kk_HostError => k_is)
    (case tt_HostError => k_is)
    (case nn_HostError => k_is)
    (case e_NoBattle => k_is)
    (case kk_NoBattle => k_is)
    (case tt_NoBattle => k_is)
    (case nn_NoBattle => k_is)
    (case e_NoPlan => k_is)
    (case kk_NoPlan => k_is)
    (case tt_NoPlan => k_is)
    (case nn_NoPlan => k_is)
    (case e_NoMix => k_is)
    (case kk_NoMix => k_is)
    (case tt_NoMix => k_is)
    (case nn_NoMix => k_is)
    (case e_NoStream => k_is)
    (case kk_NoStream => k_is)
    (case tt_NoStream => k_is)
    (case nn_NoStream => k_is)
    (case e_NoSide => k_is)
    (case kk_NoSide => k_is)
    (case tt_NoSide => k_is)
    (case nn_NoSide => k_is)
    (case e_NoAlike => k_is)
    (case kk_NoAlike => k_is)
    (case tt_NoAlike => k_is)
    (case nn_NoAlike => k_is)
    (case e_NoNumber => k_is)
    (case kk_NoNumber => k_is)
    (case tt_NoNumber => k_is)
    (case nn_NoNumber => k_is)
    (case e_TooGreat => k_is)
    (case kk_TooGreat => k_is)
    (case tt_TooGreat => k_is)
    (case nn_TooGreat => k_is)
    (case e_NoEven => k_is)
    (case kk_NoEven => k_is)
    (case tt_NoEven => k_is)
    (case nn_NoEven => k_is)
    (case e_NoText => k_is)
    (case kk_NoText => k_is)
    (case tt_NoText => k_is)
    (case nn_NoText => k_is)
    (case e_NoRow => k_is)
    (case kk_NoRow => k_is)
    (case tt_NoRow => k_is)
    (case nn_NoRow => k_is)
    (case e_NoName => k_is)
    (case kk_NoName => k_is)
    (case tt_NoName => k_is)
    (case nn_NoName => k_is)
    (case e_NoPlace => k_is)
    (case kk_NoPlace => k_is)
    (case tt_NoPlace => k_is)
    (case nn_NoPlace => k_is)
    (case e_Grid => k_is)
    (case kk_Grid => k_is)
    (case tt_Grid => k_is)
    (case nn_Grid => k_is)
    (case bb_HostError => k_is)
    (case x_HostError => k_exc)
    (case ob_NoBattle => k_is)
    (case in_NoBattle => k_is)
    (case ty_NoBattle => k_is)
    (case sa_NoBattle => k_is)
    (case nf_NoBattle => k_is)
    (case hd_NoBattle => k_is)
    (case li_NoBattle => k_is)
    (case ci_NoBattle => k_is)
    (case ki_NoBattle => k_is)
    (case f1_NoBattle => k_is)
    (case f2_NoBattle => k_is)
    (case f3_NoBattle => k_is)
    (case f4_NoBattle => k_is)
    (case f5_NoBattle => k_is)
    (case f6_NoBattle => k_is)
    (case s_NoBattle_HostError => k_is)
    (case s_NoBattle_NoBattle => k_is)
    (case s_NoBattle_NoPlan => k_is)
    (case s_NoBattle_NoMix => k_is)
    (case s_NoBattle_NoStream => k_is)
    (case s_NoBattle_NoSide => k_is)
    (case s_NoBattle_NoAlike => k_is)
    (case s_NoBattle_NoNumber => k_is)
    (case s_NoBattle_TooGreat => k_is)
    (case s_NoBattle_NoEven => k_is)
    (case s_NoBattle_NoText => k_is)
    (case s_NoBattle_NoRow => k_is)
    (case s_NoBattle_NoName => k_is)
    (case s_NoBattle_NoPlace => k_is)
    (case s_NoBattle_Grid => k_is)
    (case x_NoPlan => k_exc)
    (case f1_NoPlan => k_is)
    (case f2_NoPlan => k_is)
    (case f3_NoPlan => k_is)
    (case f4_NoPlan => k_is)
    (case f5_NoPlan => k_is)
    (case f6_NoPlan => k_is)
    (case s_NoPlan_HostError => k_is)
    (case s_NoPlan_NoBattle => k_is)
    (case s_NoPlan_NoPlan => k_is)
    (case s_NoPlan_NoMix => k_is)
    (case s_NoPlan_NoStream => k_is)
    (case s_NoPlan_NoSide => k_is)
    (case s_NoPlan_NoAlike => k_is)
    (case s_NoPlan_NoNumber => k_is)
    (case s_NoPlan_TooGreat => k_is)
    (case s_NoPlan_NoEven => k_is)
    (case s_NoPlan_NoText => k_is)
    (case s_NoPlan_NoRow => k_is)
    (case s_NoPlan_NoName => k_is)
    (case s_NoPlan_NoPlace => k_is)
    (case s_NoPlan_Grid => k_is)
    (case x_NoAlike => k_exc)
    (case f1_NoAlike => k_is)
    (case f2_NoAlike => k_is)
    (case f3_NoAlike => k_is)
    (case f4_NoAlike => k_is)
    (case f5_NoAlike => k_is)
    (case f6_NoAlike => k_is)
    (case s_NoAlike_HostError => k_is)
    (case s_NoAlike_NoBattle => k_is)
    (case s_NoAlike_NoPlan => k_is)
    (case s_NoAlike_NoMix => k_is)
    (case s_NoAlike_NoStream => k_is)
    (case s_NoAlike_NoSide => k_is)
    (case s_NoAlike_NoAlike => k_is)
    (case s_NoAlike_NoNumber => k_is)
    (case s_NoAlike_TooGreat => k_is)
    (case s_NoAlike_NoEven => k_is)
    (case s_NoAlike_NoText => k_is)
    (case s_NoAlike_NoRow => k_is)
    (case s_NoAlike_NoName => k_is)
    (case s_NoAlike_NoPlace => k_is)
    (case s_NoAlike_Grid => k_is)
