import PyProof.Rows.All
import Wide.All
import OpenK.AllK
import Wide.FinOn
import Lean
import PyProof.EqAt
import PyProof.EqKinds
import PyProof.TupleCall
import PyProof.NeKinds
import PyProof.CompFree
import PyProof.EnumMake
import KE.KTryMore
import PyProof.ExcArgsOwn
import PyProof.ZipIter
import PyProof.ListRange
import KE.KIsAll
import PyProof.InstStoreFacts
import PyProof.ExcInit
import PyProof.ReprRoads
import PyProof.CallStr
import PyProof.StrLawsRepr
import PySem.Challenge.RW_hostfields_k44_mixes_of_rings
set_option Elab.async false
set_option linter.all false
set_option maxRecDepth 100000
/-! THE HAND LAYER, for ints, bools, texts, own classes, LISTS and tuples (index, slices, in, append, pop ..), calls, loops. Paste it whole ahead of your own text; what your proof does not reach may be deleted. -/
namespace L2
open PySem PySem.Spec PyProof.Rows

/-- a key: an int or a str -/
abbrev Key := Sum Int Str
def keyIs : Key → Value → Bool
  | .inl k, v => Value.isInt k v
  | .inr x, v => Value.isStrOf x v
def keyH (w : World) : Key → Int
  | .inl k => hashInt k
  | .inr x => hashStr w x
theorem keyIs_shape : ∀ {k : Key} {v : Value}, keyIs k v = true → (∃ i t, k = Sum.inl i ∧ v = Value.int i t) ∨ (∃ x t, k = Sum.inr x ∧ v = Value.str x t)
  | .inl i, v, h => by
    obtain ⟨t, e⟩ := Value.isInt_shape (k := i) (v := v) h
    exact .inl ⟨i, t, rfl, e⟩
  | .inr x, v, h => by
    obtain ⟨t, e⟩ := Value.isStrOf_shape (x := x) (v := v) h
    exact .inr ⟨x, t, rfl, e⟩
theorem key_ll (a b : Int) : decide ((Sum.inl a : Key) = Sum.inl b) = (a == b) := by
  by_cases e : a = b
  · subst e; simp
  · have h : ¬ (Sum.inl a : Key) = Sum.inl b := fun q => e (Sum.inl.inj q)
    rw [decide_eq_false h]
    exact (beq_eq_false_iff_ne.mpr e).symm
theorem key_rr (a b : Str) : decide ((Sum.inr a : Key) = Sum.inr b) = decide (a = b) := by
  by_cases e : a = b
  · subst e; simp
  · have h : ¬ (Sum.inr a : Key) = Sum.inr b := fun q => e (Sum.inr.inj q)
    rw [decide_eq_false h, decide_eq_false e]
theorem key_lr (a : Int) (b : Str) : decide ((Sum.inl a : Key) = Sum.inr b) = false := decide_eq_false (fun q => nomatch q)
theorem key_rl (a : Str) (b : Int) : decide ((Sum.inr a : Key) = Sum.inl b) = false := decide_eq_false (fun q => nomatch q)

def mixKind (prog : Program) (w : World) : PySem.KeyKind prog w Key where
  is := keyIs
  hash := keyH w
  inj := fun v a b ha hb => by
    rcases keyIs_shape ha with ⟨i, t, rfl, rfl⟩ | ⟨x, t, rfl, rfl⟩
    · rcases keyIs_shape hb with ⟨j, u, rfl, e⟩ | ⟨y, u, rfl, e⟩
      · injection e with e1 _; rw [e1]
      · exact nomatch e
    · rcases keyIs_shape hb with ⟨j, u, rfl, e⟩ | ⟨y, u, rfl, e⟩
      · exact nomatch e
      · injection e with e1 _; rw [e1]
  byValue := fun k v h => by
    rcases keyIs_shape h with ⟨i, t, rfl, rfl⟩ | ⟨x, t, rfl, rfl⟩ <;> rfl
  pyHash := fun hv h => by
    rcases keyIs_shape hv with ⟨i, t, rfl, rfl⟩ | ⟨x, t, rfl, rfl⟩
    · exact wpAny_pyHash_int h
    · exact wpAny_pyHash_str h
  eqBool := fun hu hv h => by
    rcases keyIs_shape hu with ⟨i, t, rfl, rfl⟩ | ⟨x, t, rfl, rfl⟩
    · rcases keyIs_shape hv with ⟨j, u, rfl, rfl⟩ | ⟨y, u, rfl, rfl⟩
      · rw [key_ll] at h; exact wpAny_eqBool_int h
      · rw [key_lr] at h; exact SeqAt.EqAt.int_str i t y u _ _ _ _ h
    · rcases keyIs_shape hv with ⟨j, u, rfl, rfl⟩ | ⟨y, u, rfl, rfl⟩
      · rw [key_rl] at h; exact SeqAt.EqAt.str_int x t j u _ _ _ _ h
      · rw [key_rr] at h; exact wpAny_eqBool_str h
  «strs» := fun k x t v h => by
    rcases keyIs_shape h with ⟨i, u, rfl, e⟩ | ⟨y, u, rfl, e⟩
    · exact nomatch e
    · injection e with e1 _
      subst e1
      cases v <;> rfl

end L2

namespace L2
open PySem PySem.Spec PyProof.Rows

/-- a value, without the heap -/
inductive V where
  | non | bl (b : Bool) | int (i : Int) | str (x : Str) | byt (b : Array UInt8) | flt (b : UInt64) | ref (a : Addr) | ty (n : String)
  deriving DecidableEq

def RelV : V → Value → Prop
  | .non, u => u = Value.none
  | .bl b, u => u = Value.bool b
  | .int i, u => ∃ t, u = Value.int i t
  | .str x, u => ∃ t, u = Value.str x t
  | .byt b, u => ∃ t, u = Value.bytes b t
  | .flt b, u => ∃ t, u = Value.float b t
  | .ref a, u => u = Value.ref a
  | .ty n, u => u = Value.type n

abbrev Vals : List V → List Value → Prop := Paired RelV
theorem Vals.length {xs : List V} {us : List Value} (r : Vals xs us) : xs.length = us.length := Paired.length r
theorem Vals.get : ∀ {xs : List V} {us : List Value} {i : Nat} {x : V}, Vals xs us → xs[i]? = some x → ∃ u, us[i]? = some u ∧ RelV x u
  | _, _, _, _, .nil, e => by simp at e
  | _, _, 0, _, .cons r _, e => by simp at e; subst e; exact ⟨_, rfl, r⟩
  | _, _, i + 1, x, .cons _ t, e => by
    obtain ⟨u, h1, h2⟩ := Vals.get (i := i) (x := x) t (by simpa using e)
    exact ⟨u, by simpa using h1, h2⟩
theorem Vals.set {x : V} {u : Value} (r : RelV x u) : ∀ {xs : List V} {us : List Value} (i : Nat), Vals xs us → Vals (xs.set i x) (us.set i u)
  | _, _, _, .nil => .nil
  | _, _, 0, .cons _ t => .cons r t
  | _, _, i + 1, .cons q t => .cons q (Vals.set r i t)
theorem Vals.append : ∀ {xs ys : List V} {us ws : List Value}, Vals xs us → Vals ys ws → Vals (xs ++ ys) (us ++ ws)
  | _, _, _, _, .nil, s => s
  | _, _, _, _, .cons r t, s => .cons r (Vals.append t s)
theorem Vals.take : ∀ {xs : List V} {us : List Value} (n : Nat), Vals xs us → Vals (xs.take n) (us.take n)
  | _, _, 0, _ => .nil
  | _, _, _ + 1, .nil => .nil
  | _, _, n + 1, .cons r t => .cons r (Vals.take n t)
theorem Vals.drop : ∀ {xs : List V} {us : List Value} (n : Nat), Vals xs us → Vals (xs.drop n) (us.drop n)
  | _, _, 0, r => r
  | _, _, _ + 1, .nil => .nil
  | _, _, n + 1, .cons _ t => Vals.drop n t
def RelO : Option V → Option Value → Prop
  | some v, some u => RelV v u
  | none, none => True
  | _, _ => False
def KV {κ : Type} : List (κ × V) → List (κ × Value) → Prop := Paired fun (p : κ × V) (q : κ × Value) => p.1 = q.1 ∧ RelV p.2 q.2

/-- a key of a dict (00_mix): an int or a text -/
def kV : Key → V
  | .inl i => .int i
  | .inr x => .str x

/-- what stands at a tracked address -/
inductive HO where
  /-- a list -/
  | lst (xs : List V)
  /-- a tuple (never changes) -/
  | tup (xs : List V)
  /-- a dict whose keys are ints and texts; one whose keys are tuples of ints and texts (the empty one is both) -/
  | dK (kvs : List (Key × V)) | dT (kvs : List (List Key × V))
  /-- a set of ints: its members, its size -/
  | set (S : Int → Bool) (n : Nat)
  /-- an instance of the class at C, its dict at dx, its attributes -/
  | ins (C dx : Addr) (fs : List (Str × V))
  /-- the dict of the instance at x -/
  | own (x : Addr)
  /-- the dict of an exception -/
  | xd (fs : List (Str × V))
  /-- a bound method, f of x -/
  | met (f x : Addr)
  /-- a range object lo, lo + 1, .. below hi -/
  | rng (lo hi : Int)
  /-- a thing that is known to the object (the script; a dict while a loop walks it): read, never written while it is so -/
  | frz (o : Obj) (u : HO)
  /-- a code object's table -/
  | tbl (ps : Array Value)
  /-- any other thing, by what is true of its one object (a def of one's own: SetO a S n := HO.ext fun h => ..) -/
  | ext (φ : Heap → Prop)

abbrev Hp := Addr → Option HO
def upd (H : Hp) (a : Addr) (o : HO) : Hp := fun b => if b = a then some o else H b
theorem upd_same {H : Hp} {a : Addr} {o : HO} : upd H a o a = some o := by unfold upd; rw [if_pos rfl]
theorem upd_ne {H : Hp} {a b : Addr} {o : HO} (h : b ≠ a) : upd H a o b = H b := by unfold upd; rw [if_neg h]
theorem ne_of_none {H : Hp} {a b : Addr} {o : HO} (h : H a = some o) (h' : H b = none) : a ≠ b := by
  intro e; subst e; rw [h] at h'; cases h'

section
variable (P : Program) (w : World)
def ObjOk (H : Hp) (h : Heap) (a : Addr) : HO → Prop
  | .lst xs => xs.length ≤ sizeLine ∧ ∃ (its : List Value) (n : Nat), Vals xs its ∧ h.get? a = some { cls := .type "list", data := .seq its.toArray n }
  | .tup xs => xs.length ≤ sizeLine ∧ ∃ its : List Value, Vals xs its ∧ IsTup h a its.toArray
  | .dK kvs => kvs.length ≤ sizeLine ∧ (a == sysModules) = false ∧ ∃ vs, KV kvs vs ∧ h.DictOf (mixKind P w) a vs
  | .dT kvs => kvs.length ≤ sizeLine ∧ (a == sysModules) = false ∧ ∃ xs : List (List Key × Addr × Value),
      Paired (fun (p : List Key × V) (q : List Key × Addr × Value) => p.1 = q.1 ∧ H q.2.1 = some (.tup (p.1.map kV)) ∧ RelV p.2 q.2.2) kvs xs ∧
      ∃ o es ep, h.get? a = some o ∧ o.ExactDict ∧ o.data = .dict es ep ∧ es.toList = xs.map (entryOfKey (tupleKind (mixKind P w))) ∧ (xs.map (·.1)).Nodup
  | .set S n => h.SetOf (intKind P w) a S n
  | .ins C dx fs => H dx = some (.own a) ∧ fs.length ≤ 1000 ∧ dx ≠ a ∧ h.get? a = some (PySem.W.instObj C dx) ∧
      ∃ mA, h.Ns1 dx mA ∧ (∀ f, RelO (fs.lookup f) (mA f)) ∧ PySem.Within mA (fs.map (·.1))
  | .own _ => ∃ o, h.get? a = some o
  | .xd fs => ∃ mA, h.Ns1 a mA ∧ ∀ f, RelO (fs.lookup f) (mA f)
  | .rng lo hi => ∃ t u v, h.get? a = some { cls := .type "range", data := .fields #[.int lo t, .int hi u, .int 1 v] }
  | .frz o u => h.get? a = some o ∧ ObjOk H h a u
  | .tbl ps => h.get? a = some { cls := .none, data := .fields ps }
  | .met f x => h.get? a = some (PySem.W.methodObj (.ref f) (.ref x))
  | .ext φ => φ h ∧ (∃ o, h.get? a = some o) ∧ ∀ h1 h2 : Heap, φ h1 → (∀ o, h1.get? a = some o → h2.get? a = some o) → φ h2
/-- the abstract heap is held -/
def HOk (H : Hp) (h : Heap) : Prop := ∀ a o, H a = some o → ObjOk P w H h a o
end

section
variable {P : Program} {w : World} {H H' : Hp} {h h' : Heap} {a : Addr} {o : HO}
theorem ObjOk.lt (x : ObjOk P w H h a o) : a < h.objs.size := by
  cases o with
  | lst xs => obtain ⟨_, _, _, _, e⟩ := x; exact Heap.lt_size e
  | tup xs => obtain ⟨_, _, _, p⟩ := x; exact p.lt
  | dK kvs => obtain ⟨_, _, _, _, o, _, _, e, _⟩ := x; exact Heap.lt_size e
  | dT kvs => obtain ⟨_, _, _, _, o, _, _, e, _⟩ := x; exact Heap.lt_size e
  | set S n => obtain ⟨o, _, _, _, e, _⟩ := x; exact Heap.lt_size e
  | ins C dx fs => obtain ⟨_, _, _, e, _⟩ := x; exact Heap.lt_size e
  | own y => obtain ⟨_, e⟩ := x; exact Heap.lt_size e
  | xd fs => obtain ⟨_, ⟨_, _, _, e, _⟩, _⟩ := x; exact Heap.lt_size e
  | rng lo hi => obtain ⟨_, _, _, e⟩ := x; exact Heap.lt_size e
  | frz ob u => obtain ⟨e, _⟩ := x; exact Heap.lt_size e
  | tbl ps => exact Heap.lt_size (show h.get? a = some _ from x)
  | met f y => exact Heap.lt_size (show h.get? a = some _ from x)
  | ext φ => obtain ⟨_, ⟨_, e⟩, _⟩ := x; exact Heap.lt_size e
theorem Paired.mapP {α β : Type} {F G : α → β → Prop} : ∀ {l₁ : List α} {l₂ : List β}, Paired F l₁ l₂ → (∀ a b, F a b → G a b) → Paired G l₁ l₂
  | _, _, .nil, _ => .nil
  | _, _, .cons r t, f => .cons (f _ _ r) (Paired.mapP t f)
/-- what an object's description leans on: its own object, its own dict, the tuples -/
theorem ObjOk.stay (x : ObjOk P w H h a o) (k : ∀ b u, (b = a ∨ H b = some (.own a)) → h.get? b = some u → h'.get? b = some u)
    (ho : ∀ b, H b = some (.own a) → H' b = some (.own a)) (ht : ∀ b xs, H b = some (.tup xs) → H' b = some (.tup xs)) : ObjOk P w H' h' a o := by
  induction o with
  | lst xs => obtain ⟨z, its, n, r, e⟩ := x; exact ⟨z, its, n, r, k _ _ (.inl rfl) e⟩
  | tup xs => obtain ⟨z, its, r, ob, e, c⟩ := x; exact ⟨z, its, r, ob, k _ _ (.inl rfl) e, c⟩
  | dK kvs => obtain ⟨z, y, vs, r, ob, es, ep, e, c⟩ := x; exact ⟨z, y, vs, r, ob, es, ep, k _ _ (.inl rfl) e, c⟩
  | dT kvs =>
    obtain ⟨z, y, xs, r, ob, es, ep, e, c⟩ := x
    exact ⟨z, y, xs, Paired.mapP r fun p q z => ⟨z.1, ht _ _ z.2.1, z.2.2⟩, ob, es, ep, k _ _ (.inl rfl) e, c⟩
  | set S n => obtain ⟨ob, es, ep, t, e, c⟩ := x; exact ⟨ob, es, ep, t, k _ _ (.inl rfl) e, c⟩
  | ins C dx fs =>
    obtain ⟨d, z, ne, e, mA, ⟨od, es, ep, e2, c⟩, r⟩ := x
    exact ⟨ho _ d, z, ne, k _ _ (.inl rfl) e, mA, ⟨od, es, ep, k _ _ (.inr d) e2, c⟩, r⟩
  | own y => obtain ⟨ob, e⟩ := x; exact ⟨ob, k _ _ (.inl rfl) e⟩
  | xd fs => obtain ⟨mA, ⟨od, es, ep, e, c⟩, r⟩ := x; exact ⟨mA, ⟨od, es, ep, k _ _ (.inl rfl) e, c⟩, r⟩
  | rng lo hi => obtain ⟨t, u, v, e⟩ := x; exact ⟨t, u, v, k _ _ (.inl rfl) e⟩
  | frz ob u ih => obtain ⟨e, q⟩ := x; exact ⟨k _ _ (.inl rfl) e, ih q⟩
  | tbl ps =>
    have e : h.get? a = some { cls := .none, data := .fields ps } := x
    show h'.get? a = some { cls := .none, data := .fields ps }
    exact k a _ (.inl rfl) e
  | met f y =>
    have e : h.get? a = some (PySem.W.methodObj (.ref f) (.ref y)) := x
    show h'.get? a = some (PySem.W.methodObj (.ref f) (.ref y))
    exact k a _ (.inl rfl) e
  | ext φ => obtain ⟨p, ⟨o, e⟩, st⟩ := x; exact ⟨st _ _ p fun o q => k _ _ (.inl rfl) q, ⟨o, k _ _ (.inl rfl) e⟩, st⟩
theorem HOk.lt (x : HOk P w H h) (e : H a = some o) : a < h.objs.size := (x a o e).lt
theorem HOk.fresh (x : HOk P w H h) (e : h.objs.size ≤ a) : H a = none := by
  cases q : H a with
  | none => rfl
  | some u => exact absurd (Nat.lt_of_lt_of_le (x.lt q) e) (Nat.lt_irrefl _)
/-- every object of the heap is kept -/
theorem HOk.kept (x : HOk P w H h) (k : ∀ b u, h.get? b = some u → h'.get? b = some u) : HOk P w H h' := fun a o e =>
  (x a o e).stay (fun b u _ q => k b u q) (fun _ q => q) fun _ _ q => q
/-- a new object is laid and tracked -/
theorem HOk.laid (x : HOk P w H h) (k : ∀ b u, h.get? b = some u → h'.get? b = some u) (hp : h.objs.size ≤ a) (new : ObjOk P w (upd H a o) h' a o) : HOk P w (upd H a o) h' := fun b u e => by
  have hn := x.fresh hp
  by_cases hb : b = a
  · subst hb; rw [upd_same] at e; cases e; exact new
  · rw [upd_ne hb] at e
    exact (x b u e).stay (fun c v _ q => k c v q) (fun c q => by rw [upd_ne (ne_of_none q hn)]; exact q) fun c xs q => by rw [upd_ne (ne_of_none q hn)]; exact q
end

/-- what may be read as u: it is u, or a known u -/
def Rd (H : Hp) (a : Addr) (u : HO) : Prop := H a = some u ∨ ∃ o, H a = some (.frz o u)
theorem Rd.of {H : Hp} {a : Addr} {u : HO} (h : H a = some u) : Rd H a u := .inl h
theorem Rd.ok {P : Program} {w : World} {H : Hp} {h : Heap} {a : Addr} {u : HO} (r : Rd H a u) (x : HOk P w H h) : ObjOk P w H h a u := by
  rcases r with r | ⟨o, r⟩
  · exact x a u r
  · obtain ⟨_, q⟩ := x a _ r
    exact q
/-- what may be written -/
def Mut : Option HO → Prop
  | some (.lst _) => True
  | some (.dK _) => True
  | some (.dT _) => True
  | some (.set _ _) => True
  | some (.ins _ _ _) => True
  | some (.ext _) => True
  | _ => False
section
variable {P : Program} {w : World} {H : Hp} {h h' : Heap} {x e : Addr} {o' : HO}
/-- the object at e is changed: x itself, or the dict of the instance x -/
theorem HOk.write (ok : HOk P w H h) (mu : Mut (H x)) (he : e = x ∨ H e = some (.own x)) (k : ∀ b u, b ≠ e → h.get? b = some u → h'.get? b = some u) (heo : ∃ u, h'.get? e = some u)
    (new : ObjOk P w (upd H x o') h' x o') : HOk P w (upd H x o') h' := fun b u q => by
  have nown : ∀ c y, H c = some (.own y) → c ≠ x := fun c y r z => by subst z; rw [r] at mu; exact mu
  have ntup : ∀ c xs, H c = some (.tup xs) → c ≠ x := fun c xs r z => by subst z; rw [r] at mu; exact mu
  by_cases hb : b = x
  · subst hb; rw [upd_same] at q; cases q; exact new
  · rw [upd_ne hb] at q
    by_cases hbe : b = e
    · have q' : H b = some (.own x) := by
        rcases he with z | z
        · exact absurd (hbe.trans z) hb
        · rw [hbe]; exact z
      rw [q] at q'; cases q'
      obtain ⟨v, hv⟩ := heo
      exact ⟨v, by rw [hbe]; exact hv⟩
    · refine (ok b u q).stay (fun c v hc r => k c v ?_ r) (fun c r => by rw [upd_ne (nown c b r)]; exact r) fun c xs r => by rw [upd_ne (ntup c xs r)]; exact r
      rcases hc with rfl | hc
      · exact hbe
      · rintro rfl
        rcases he with z | z
        · exact nown c b hc z
        · rw [hc] at z; cases z; exact hb rfl
end

/-! ### kept unless tracked; of the frames at fs (the callers') the slots may change (an exception that passes writes there); of the records at ex (iterators) nothing is said -/
structure Un (fs ex : List Addr) (H H' : Hp) (h h' : Heap) : Prop where
  keep : ∀ b o, h.get? b = some o → H b = none → b ∉ fs → b ∉ ex → h'.get? b = some o
  slot : ∀ b o, h.get? b = some o → H b = none → b ∈ fs → b ∉ ex → ∃ sl, h'.get? b = some { o with slots := sl }
  free : ∀ b o, h.get? b = some o → H b = none → b ∉ ex → H' b = none
  there : ∀ b o, h.get? b = some o → b ∉ ex → ∃ o', h'.get? b = some o'
  tups : ∀ b xs, H b = some (.tup xs) → H' b = some (.tup xs)
  frzs : ∀ b o u, H b = some (.frz o u) → H' b = some (.frz o u)
  tbls : ∀ b ps, H b = some (.tbl ps) → ∃ more, H' b = some (.tbl (ps ++ more))
section
variable {fs fs' ex ex' : List Addr} {H H1 H2 : Hp} {h h1 h2 h' : Heap} {a x e : Addr} {o : HO}
theorem Un.any (u : Un fs ex H H1 h h1) {b : Addr} {ob : Obj} (q : h.get? b = some ob) (n : H b = none) (hx : b ∉ ex) : ∃ sl, h1.get? b = some { ob with slots := sl } := by
  by_cases hb : b ∈ fs
  · exact u.slot b ob q n hb hx
  · exact ⟨ob.slots, u.keep b ob q n hb hx⟩
theorem Un.trans (a : Un fs ex H H1 h h1) (b : Un fs ex H1 H2 h1 h2) : Un fs ex H H2 h h2 where
  keep := fun c ob q n hc hx => b.keep c ob (a.keep c ob q n hc hx) (a.free c ob q n hx) hc hx
  slot := fun c ob q n hc hx => by
    obtain ⟨sl, e1⟩ := a.slot c ob q n hc hx
    obtain ⟨sl', e2⟩ := b.slot c _ e1 (a.free c ob q n hx) hc hx
    exact ⟨sl', e2⟩
  free := fun c ob q n hx => by
    obtain ⟨o', e1⟩ := a.there c ob q hx
    exact b.free c o' e1 (a.free c ob q n hx) hx
  there := fun c ob q hx => by
    obtain ⟨o', e1⟩ := a.there c ob q hx
    exact b.there c o' e1 hx
  tups := fun c xs q => b.tups c xs (a.tups c xs q)
  frzs := fun c ob xs q => b.frzs c ob xs (a.frzs c ob xs q)
  tbls := fun c ps q => by
    obtain ⟨m1, e1⟩ := a.tbls c ps q
    obtain ⟨m2, e2⟩ := b.tbls c _ e1
    exact ⟨m1 ++ m2, by rw [e2, Array.append_assoc]⟩
theorem Un.kept (k : ∀ b u, h.get? b = some u → h'.get? b = some u) : Un fs ex H H h h' :=
  ⟨fun b ob q _ _ _ => k b ob q, fun b ob q _ _ _ => ⟨ob.slots, k b ob q⟩, fun _ _ _ n _ => n, fun b ob q _ => ⟨ob, k b ob q⟩, fun _ _ q => q, fun _ _ _ q => q, fun _ ps q => ⟨#[], by rw [q]; simp⟩⟩
theorem Un.refl : Un fs ex H H h h := Un.kept fun _ _ q => q
theorem Un.laid (k : ∀ b u, h.get? b = some u → h'.get? b = some u) (hp : h.objs.size ≤ a) (hn : H a = none) : Un fs ex H (upd H a o) h h' where
  keep := fun b u q _ _ _ => k b u q
  slot := fun b u q _ _ _ => ⟨u.slots, k b u q⟩
  free := fun b u q n _ => by rw [upd_ne (Nat.ne_of_lt (Nat.lt_of_lt_of_le (Heap.lt_size q) hp))]; exact n
  there := fun b u q _ => ⟨u, k b u q⟩
  tups := fun b xs q => by rw [upd_ne (ne_of_none q hn)]; exact q
  frzs := fun b u xs q => by rw [upd_ne (ne_of_none q hn)]; exact q
  tbls := fun b ps q => ⟨#[], by rw [upd_ne (ne_of_none q hn), q]; simp⟩
theorem Un.write (mu : Mut (H x)) (he : e = x ∨ H e = some (.own x)) (k : ∀ b u, b ≠ e → h.get? b = some u → h'.get? b = some u) (heo : ∃ u, h'.get? e = some u) : Un fs ex H (upd H x o) h h' := by
  have hx : ∀ b, H b = none → b ≠ x := fun b n z => by subst z; rw [n] at mu; exact mu
  have hb : ∀ b, H b = none → b ≠ e := fun b n z => by
    subst z
    rcases he with r | r
    · exact hx b n r
    · rw [n] at r; cases r
  have hm : ∀ b u, H b = some u → ¬ Mut (some u) → b ≠ x := fun b u q nm z => by subst z; rw [q] at mu; exact nm mu
  refine ⟨fun b u q n _ _ => k b u (hb b n) q, fun b u q n _ _ => ⟨u.slots, k b u (hb b n) q⟩, fun b u q n _ => by rw [upd_ne (hx b n)]; exact n, fun b u q _ => ?_,
    fun b xs q => by rw [upd_ne (hm b _ q fun z => z)]; exact q, fun b u xs q => by rw [upd_ne (hm b _ q fun z => z)]; exact q, fun b ps q => ⟨#[], by rw [upd_ne (hm b _ q fun z => z), q]; simp⟩⟩
  by_cases hbe : b = e
  · subst hbe; exact heo
  · exact ⟨u, k b u hbe q⟩
end

/-! ### the heap without what is tracked -/
def trk (h : Heap) (H : Hp) : List Addr := (List.range h.objs.size).filter fun a => (H a).isSome
def hidT (h : Heap) (H : Hp) : Heap := PySem.W.hideAll h (trk h H)
theorem hidT_size (h : Heap) (H : Hp) : (hidT h H).objs.size = h.objs.size := PySem.W.hideAll_size _ _
theorem hidT_get {h : Heap} {H : Hp} {b : Addr} {o : Obj} (e : h.get? b = some o) (n : H b = none) : (hidT h H).get? b = some o :=
  PySem.W.hideAll_get _ e fun hm => by
    have q : (H b).isSome = true := (List.mem_filter.mp hm).2
    rw [n] at q; simp at q
theorem of_hidT {h : Heap} {H : Hp} {b : Addr} {o : Obj} (e : (hidT h H).get? b = some o) : h.get? b = some o ∧ H b = none := by
  have e' : h.get? b = some o := PySem.W.of_hideAll (trk h H) e
  refine ⟨e', ?_⟩
  cases q : H b with
  | none => rfl
  | some x =>
    have hm : b ∈ trk h H := List.mem_filter.mpr ⟨List.mem_range.mpr (Heap.lt_size e'), by simp [q]⟩
    have z : (hidT h H).get? b = none := PySem.W.hideAll_none (trk h H) hm
    rw [z] at e; cases e

/-! ### OpenK's ledger, filled with every new object but one -/
def allNews (g h : Heap) (L : Addr) : List (Addr × Obj) := (List.range h.objs.size).filterMap fun a => if a = L ∨ (g.get? a).isSome = true then none else (h.get? a).map fun o => (a, o)
def rest (g h : Heap) (L d : Addr) : List (Addr × Obj) := (allNews g h L).filter fun p => decide (p.1 ≠ d)
end L2

namespace L2
open PySem PySem.Spec PyProof.Rows

/-- the module's facts, over the base: the heap at the law's entry without what is tracked there -/
structure Mod (K : PySem.W.Frag) (mg : Str → Option Value) (base : Heap) : Prop where
  kin : K.In base
  glob : base.Ns mainGlobals mg
  blt : ∃ mb, base.Ns builtinsNs mb ∧ ∀ x : Str, x ≠ "__name__" → mb x = bootBuiltins x
  nolimit : base.NoLimit

/-- the context: a def's body (or a comprehension's block) running. base: fixed through the whole law; s₀, H₀: the entry; outer: the frames whose slots others may change (a def's callers); stack: all frames that run;
   ex: iterators that were made ahead of the entry and are walked here (a comprehension's); fn: the names whose cells were made at the entry (a def: all; a comprehension's block: its own); calm: not within an except suite; pn: pins that every state bears; xe: what is wanted of an exception that leaves the code -/
structure Cx where
  prog : Program
  w : World
  K : PySem.W.Frag
  mg : Str → Option Value
  base : Heap
  A : Around
  N : List Str
  s₀ : Shared
  H₀ : Hp
  env : Env
  outer : List Env
  stack : List Env
  ex : List Addr
  fn : Str → Bool
  calm : Bool
  pn : List (Addr × Obj)
  xe : Value → Shared → Prop
/-- the callers' frames -/
def frs (l : List Env) : List Addr := l.filterMap (·.frame)
abbrev Cx.fs (X : Cx) : List Addr := frs X.outer

def Vis (sc : Scope) (x : Str) : Prop := sc.names.lookup x = some .local ∨ sc.names.lookup x = some .cell ∨ sc.names.lookup x = some .free
def Loc (sc : Scope) (x : Str) : Prop := sc.names.lookup x = some .local ∨ sc.names.lookup x = some .cell
def Look (env : Env) (h : Heap) (m : Str → Option Value) (x : Str) (u : Value) : Prop :=
  (env.kindOf x = some .local ∧ m x = some u) ∨ ((env.kindOf x = some .cell ∨ env.kindOf x = some .free) ∧ ∃ c, env.cells.lookup x = some c ∧ h.IsCell c (some u))

structure Cx.Ok (X : Cx) : Prop where
  mod : Mod X.K X.mg X.base
  kind : X.env.scope.kind = .function
  glob : X.env.globals = mainGlobals
  blt : X.env.builtins = builtinsNs
  above : X.s₀.heap.objs.size ≤ X.env.locals
  inj : ∀ x y c, X.env.cells.lookup x = some c → X.env.cells.lookup y = some c → x = y
  has : ∀ x, (X.env.kindOf x = some .cell ∨ X.env.kindOf x = some .free) → ∃ c, X.env.cells.lookup x = some c
  cab : ∀ x c, X.fn x = true → X.env.cells.lookup x = some c → X.s₀.heap.objs.size ≤ c
  hd : X.calm = true → X.A.handled = none
  frames : X.A.frames = some X.stack
  stk : X.stack = X.outer ∨ (X.stack = X.env :: X.outer ∧ X.env.frame = some X.env.locals)
  exf : ∀ b ∈ X.ex, b ≠ X.env.locals ∧ ∀ x c, X.env.cells.lookup x = some c → c ≠ b
  bs : ∀ b o, X.base.get? b = some o → X.s₀.heap.get? b = some o ∧ X.H₀ b = none
  bsz : X.base.objs.size ≤ X.s₀.heap.objs.size
  noex : ∀ b o, X.base.get? b = some o → b ∉ X.ex
  exfs : ∀ b ∈ X.ex, b ∉ X.fs
  funs : X.s₀.heap.FunFrames X.base X.outer
  frf : ∀ b ∈ X.fs, X.H₀ b = none

structure Inv (X : Cx) (pins : List (Addr × Obj)) (σ : List (Option V)) (H : Hp) (s : Shared) : Prop where
  ok : X.Ok
  os : s.os = X.s₀.os
  bare : AllBare s.gens
  base : Un X.fs X.ex X.H₀ H X.s₀.heap s.heap
  loc : ∃ m, s.heap.Ns X.env.locals m ∧ ∀ (i : Nat) (x : Str) (v : V), X.N[i]? = some x → σ[i]? = some (some v) → Vis X.env.scope x → ∃ u, RelV v u ∧ Look X.env s.heap m x u
  cell : ∀ x c, X.env.cells.lookup x = some c → ∃ v, s.heap.IsCell c v
  free : H X.env.locals = none
  freeC : ∀ x c, X.env.cells.lookup x = some c → H c = none
  pin : ∀ p ∈ X.pn ++ pins, s.heap.get? p.1 = some p.2 ∧ H p.1 = none ∧ p.1 ≠ X.env.locals ∧ p.1 ∉ X.fs ∧ ∀ v, p.2.data ≠ .cell v
  hok : HOk X.prog X.w H s.heap
  len : σ.length = X.N.length

section
variable {X : Cx} {pins : List (Addr × Obj)} {σ : List (Option V)} {H H' : Hp} {s : Shared} {h' : Heap}

theorem Cx.Ok.nofr (ok : X.Ok) {b : Addr} {o : Obj} (e : X.base.get? b = some o) : b ∉ X.fs := fun hb => by
  have := (ok.funs.mem hb).1
  rw [e] at this; cases this
theorem Inv.bs (I : Inv X pins σ H s) : ∀ b o, X.base.get? b = some o → s.heap.get? b = some o ∧ H b = none := fun b o e =>
  ⟨I.base.keep b o (I.ok.bs b o e).1 (I.ok.bs b o e).2 (I.ok.nofr e) (I.ok.noex b o e), I.base.free b o (I.ok.bs b o e).1 (I.ok.bs b o e).2 (I.ok.noex b o e)⟩
theorem Inv.bk (I : Inv X pins σ H s) : ∀ b o, X.base.get? b = some o → s.heap.get? b = some o := fun b o e => (I.bs b o e).1
theorem Inv.mod (I : Inv X pins σ H s) : Mod X.K X.mg X.base := I.ok.mod
theorem Inv.kIn (I : Inv X pins σ H s) : X.K.In s.heap := I.ok.mod.kin.keeps I.bk
theorem Inv.lt (I : Inv X pins σ H s) : X.env.locals < s.heap.objs.size := let ⟨_, hn, _⟩ := I.loc; hn.lt
theorem Inv.sz (I : Inv X pins σ H s) : X.s₀.heap.objs.size ≤ s.heap.objs.size := Nat.le_trans I.ok.above (Nat.le_of_lt I.lt)
theorem Inv.nofs (I : Inv X pins σ H s) {a : Addr} (h : s.heap.objs.size ≤ a) : a ∉ X.fs := fun hb => by
  obtain ⟨_, o, ho, _⟩ := I.ok.funs.mem hb
  exact absurd (Nat.lt_of_lt_of_le (Heap.lt_size ho) (Nat.le_trans I.sz h)) (Nat.lt_irrefl _)
theorem Inv.cne (I : Inv X pins σ H s) : ∀ x c, X.env.cells.lookup x = some c → c ≠ X.env.locals := fun x c e z => by
  obtain ⟨v, o, ho, hd⟩ := I.cell x c e
  obtain ⟨m, ⟨o', es, ep, ho', hd', _⟩, _⟩ := I.loc
  rw [z, ho'] at ho; cases ho; rw [hd'] at hd; cases hd
theorem Inv.funs (I : Inv X pins σ H s) : s.heap.FunFrames X.base X.outer := by
  have all : ∀ (l : List Env), (∀ b ∈ frs l, b ∈ X.fs) → X.s₀.heap.FunFrames X.base l → s.heap.FunFrames X.base l := by
    intro l
    induction l with
    | nil => intro _ _; trivial
    | cons env r ih =>
      intro hs hl
      obtain ⟨hk, ⟨L, o, hf, hn, ho, hd⟩, hr⟩ := hl
      have hL : L ∈ X.fs := hs L (by unfold frs; rw [List.filterMap_cons, hf]; exact List.mem_cons_self)
      obtain ⟨sl, e⟩ := I.base.slot L o ho (I.ok.frf L hL) hL fun z => I.ok.exfs L z hL
      exact ⟨hk, ⟨L, _, hf, hn, e, hd⟩, ih (fun b hb => hs b (by unfold frs; rw [List.filterMap_cons, hf]; exact List.mem_cons_of_mem _ hb)) hr⟩
  exact all X.outer (fun _ hb => hb) I.ok.funs

/-- the frames that run, for a call -/
theorem Inv.stack (I : Inv X pins σ H s) : s.heap.FunFrames X.base X.stack := by
  rcases I.ok.stk with e | ⟨e, hf⟩
  · rw [e]; exact I.funs
  · rw [e]
    obtain ⟨m, hn, _⟩ := I.loc
    refine .cons (by rw [I.ok.kind]; decide) hf hn ?_ I.funs
    exact Heap.get?_none_of_le (Nat.le_trans I.ok.bsz I.ok.above)
theorem Inv.stkSub (I : Inv X pins σ H s) : ∀ b ∈ frs X.stack, b ∈ X.env.locals :: X.fs := fun b hb => by
  rcases I.ok.stk with e | ⟨e, hf⟩
  · rw [e] at hb; exact List.mem_cons_of_mem _ hb
  · rw [e] at hb
    unfold frs at hb
    rw [List.filterMap_cons, hf] at hb
    exact hb
theorem Inv.stkFree (I : Inv X pins σ H s) : ∀ b ∈ frs X.stack, H b = none := fun b hb => by
  rcases List.mem_cons.mp (I.stkSub b hb) with e | hb
  · rw [e]; exact I.free
  · obtain ⟨_, o, ho, _⟩ := I.ok.funs.mem hb
    exact I.base.free b o ho (I.ok.frf b hb) fun z => I.ok.exfs b z hb

/-- THE STEP: the untracked objects but the frame and the records at ch are kept (the callers' frames up to slots), the frame's map is kept, the new abstract heap is held -/
theorem Inv.step {g' : Array GenState} {t' : Nat} {d' : Drawn} {ch : List Addr} (I : Inv X pins σ H s)
    (hch : ∀ b ∈ ch, (b ∈ X.ex ∨ X.s₀.heap.objs.size ≤ b) ∧ b ≠ X.env.locals ∧ (∀ x c, X.env.cells.lookup x = some c → c ≠ b) ∧ ∀ p ∈ X.pn ++ pins, p.1 ≠ b)
    (keep : ∀ b o, b ≠ X.env.locals → b ∉ X.fs → b ∉ ch → s.heap.get? b = some o → H b = none → h'.get? b = some o)
    (slot : ∀ b o, b ≠ X.env.locals → b ∈ X.fs → b ∉ ch → s.heap.get? b = some o → H b = none → ∃ sl, h'.get? b = some { o with slots := sl }) (free : ∀ b o, b ∉ ch → s.heap.get? b = some o → H b = none → H' b = none)
    (there : ∀ b o, b ∉ ch → s.heap.get? b = some o → ∃ o', h'.get? b = some o')
    (tups : ∀ b xs, H b = some (.tup xs) → H' b = some (.tup xs)) (frzs : ∀ b o u, H b = some (.frz o u) → H' b = some (.frz o u)) (tbls : ∀ b ps, H b = some (.tbl ps) → ∃ more, H' b = some (.tbl (ps ++ more)))
    (ns : ∀ m, s.heap.Ns X.env.locals m → h'.Ns X.env.locals m) (hok : HOk X.prog X.w H' h') (hg : AllBare g') :
    Inv X pins σ H' { s with heap := h', gens := g', drawn := d', toks := t' } := by
  have neL : ∀ b o, X.s₀.heap.get? b = some o → b ≠ X.env.locals := fun b o e => Nat.ne_of_lt (Nat.lt_of_lt_of_le (Heap.lt_size e) I.ok.above)
  have neC : ∀ b o, X.s₀.heap.get? b = some o → b ∉ X.ex → b ∉ ch := fun b o e hx hb => by
    rcases (hch b hb).1 with z | z
    · exact hx z
    · exact absurd (Nat.lt_of_lt_of_le (Heap.lt_size e) z) (Nat.lt_irrefl _)
  have cellK : ∀ x c, X.env.cells.lookup x = some c → ∀ v, s.heap.IsCell c v → h'.IsCell c v := fun x c e v ⟨o, ho, hd⟩ => by
    have nch : c ∉ ch := fun z => (hch c z).2.2.1 x c e rfl
    by_cases hc : c ∈ X.fs
    · obtain ⟨sl, q⟩ := slot c o (I.cne x c e) hc nch ho (I.freeC x c e)
      exact ⟨_, q, hd⟩
    · exact ⟨o, keep c o (I.cne x c e) hc nch ho (I.freeC x c e), hd⟩
  refine ⟨I.ok, I.os, hg, ⟨fun b o e n hb hx => ?_, fun b o e n hb hx => ?_, fun b o e n hx => ?_, fun b o e hx => ?_, fun b xs e => tups b xs (I.base.tups b xs e), fun b o xs e => frzs b o xs (I.base.frzs b o xs e), fun b ps e => ?_⟩, ?_, fun x c e => ?_, ?_, fun x c e => ?_, fun p hp => ?_, hok, I.len⟩
  · exact keep b o (neL b o e) hb (neC b o e hx) (I.base.keep b o e n hb hx) (I.base.free b o e n hx)
  · obtain ⟨sl, e1⟩ := I.base.slot b o e n hb hx
    obtain ⟨sl', e2⟩ := slot b _ (neL b o e) hb (neC b o e hx) e1 (I.base.free b o e n hx)
    exact ⟨sl', e2⟩
  · obtain ⟨o', e1⟩ := I.base.there b o e hx
    exact free b o' (neC b o e hx) e1 (I.base.free b o e n hx)
  · obtain ⟨o', e1⟩ := I.base.there b o e hx
    exact there b o' (neC b o e hx) e1
  · obtain ⟨m1, e1⟩ := I.base.tbls b ps e
    obtain ⟨m2, e2⟩ := tbls b _ e1
    exact ⟨m1 ++ m2, by rw [e2, Array.append_assoc]⟩
  · obtain ⟨m, hn, hl⟩ := I.loc
    refine ⟨m, ns m hn, fun i x v e1 e2 e3 => ?_⟩
    obtain ⟨u, r, l⟩ := hl i x v e1 e2 e3
    refine ⟨u, r, ?_⟩
    rcases l with l | ⟨k, c, e, z⟩
    · exact .inl l
    · exact .inr ⟨k, c, e, cellK x c e _ z⟩
  · obtain ⟨v, z⟩ := I.cell x c e
    exact ⟨v, cellK x c e v z⟩
  · obtain ⟨m, ⟨o, _, _, ho, _⟩, _⟩ := I.loc
    exact free _ o (fun z => (hch _ z).2.1 rfl) ho I.free
  · obtain ⟨v, o, ho, hd⟩ := I.cell x c e
    exact free c o (fun z => (hch c z).2.2.1 x c e rfl) ho (I.freeC x c e)
  · obtain ⟨e, n, ne, nf, d⟩ := I.pin p hp
    have nch : p.1 ∉ ch := fun z => (hch p.1 z).2.2.2 p hp rfl
    exact ⟨keep p.1 p.2 ne nf nch e n, free p.1 p.2 nch e n, ne, nf, d⟩
/-- .. where the frame's own object is kept too -/
theorem Inv.un {t' : Nat} (I : Inv X pins σ H s) (u : Un X.fs [] H H' s.heap h') (hok : HOk X.prog X.w H' h') : Inv X pins σ H' { s with heap := h', toks := t' } := by
  obtain ⟨m, ⟨o, es, ep, ho, r⟩, _⟩ := id I.loc
  obtain ⟨sl, hL⟩ := u.any ho I.free (by simp)
  exact I.step (g' := s.gens) (d' := s.drawn) (ch := []) (fun _ z => nomatch z) (fun b o _ hb _ e n => u.keep b o e n hb (by simp)) (fun b o _ hb _ e n => u.slot b o e n hb (by simp)) (fun b o _ e n => u.free b o e n (by simp)) (fun b o _ e => u.there b o e (by simp)) u.tups u.frzs u.tbls (fun m' hm => by
    obtain ⟨o', es', ep', ho', r'⟩ := hm
    rw [ho] at ho'; cases ho'
    exact ⟨_, es', ep', hL, r'⟩) hok I.bare
/-- behind a call (or a comprehension's block): the slots of this frame may have changed too, the records at ch may have turned -/
theorem Inv.call {g' : Array GenState} {t' : Nat} {d' : Drawn} {ch : List Addr} (I : Inv X pins σ H s) (u : Un (frs X.stack) ch H H' s.heap h') (hok : HOk X.prog X.w H' h') (hg : AllBare g')
    (hch : ∀ b ∈ ch, (b ∈ X.ex ∨ X.s₀.heap.objs.size ≤ b) ∧ b ≠ X.env.locals ∧ (∀ x c, X.env.cells.lookup x = some c → c ≠ b) ∧ ∀ p ∈ X.pn ++ pins, p.1 ≠ b) :
    Inv X pins σ H' { s with heap := h', gens := g', drawn := d', toks := t' } := by
  obtain ⟨m, ⟨o, es, ep, ho, r⟩, _⟩ := id I.loc
  obtain ⟨sl, hL⟩ := u.any ho I.free fun z => (hch _ z).2.1 rfl
  exact I.step (ch := ch) hch (fun b o hL hb hc e n => u.keep b o e n (fun z => (List.mem_cons.mp (I.stkSub b z)).elim hL hb) hc) (fun b o _ _ hc e n => u.any e n hc) (fun b o hc e n => u.free b o e n hc) (fun b o hc e => u.there b o e hc) u.tups u.frzs u.tbls (fun m' hm => by
    obtain ⟨o', es', ep', ho', r'⟩ := hm
    rw [ho] at ho'; cases ho'
    exact ⟨_, es', ep', hL, r'⟩) hok hg
/-- an untracked record of ours (an iterator) has turned -/
theorem Inv.turned {t' : Nat} {it : Addr} (I : Inv X pins σ H s) (k : ∀ b o, b ≠ it → s.heap.get? b = some o → h'.get? b = some o) (hn : H it = none) (hL : it ≠ X.env.locals)
    (h1 : it ∈ X.ex ∨ X.s₀.heap.objs.size ≤ it) (h2 : ∀ x c, X.env.cells.lookup x = some c → c ≠ it) (h3 : ∀ p ∈ X.pn ++ pins, p.1 ≠ it) : Inv X pins σ H { s with heap := h', toks := t' } := by
  have nit : ∀ b u, H b = some u → b ≠ it := fun b u e z => by rw [z, hn] at e; cases e
  refine I.step (g' := s.gens) (d' := s.drawn) (ch := [it]) (fun b hb => ?_) (fun b o _ _ hc e _ => k b o (fun z => hc (by simp [z])) e) (fun b o _ _ hc e _ => ⟨o.slots, k b o (fun z => hc (by simp [z])) e⟩) (fun _ _ _ _ n => n)
    (fun b o hc e => ⟨o, k b o (fun z => hc (by simp [z])) e⟩) (fun _ _ e => e) (fun _ _ _ e => e) (fun b ps e => ⟨#[], by rw [e]; simp⟩) (fun m hm => ?_) (fun b u e => ?_) I.bare
  · have e : b = it := by simpa using hb
    subst e
    exact ⟨h1, hL, h2, h3⟩
  · obtain ⟨o, es, ep, ho, r⟩ := hm
    exact ⟨o, es, ep, k _ o (Ne.symm hL) ho, r⟩
  · refine (I.hok b u e).stay (fun c v hc q => k c v ?_ q) (fun _ q => q) fun _ _ q => q
    rcases hc with z | z
    · rw [z]; exact nit b u e
    · exact nit c _ z
theorem Inv.tok (I : Inv X pins σ H s) (t : Nat) : Inv X pins σ H { s with toks := t } := I.un (h' := s.heap) (t' := t) Un.refl I.hok
/-- all objects kept -/
theorem Inv.kept {t' : Nat} (I : Inv X pins σ H s) (k : ∀ b u, s.heap.get? b = some u → h'.get? b = some u) : Inv X pins σ H { s with heap := h', toks := t' } := I.un (Un.kept k) (I.hok.kept k)
/-- a new object laid and tracked -/
theorem Inv.laid {a : Addr} {o : HO} {t' : Nat} (I : Inv X pins σ H s) (k : ∀ b u, s.heap.get? b = some u → h'.get? b = some u) (hp : s.heap.objs.size ≤ a) (new : ObjOk X.prog X.w (upd H a o) h' a o) :
    Inv X pins σ (upd H a o) { s with heap := h', toks := t' } := I.un (Un.laid k hp (I.hok.fresh hp)) (I.hok.laid k hp new)
/-- an object written -/
theorem Inv.write {x e : Addr} {o : HO} {t' : Nat} (I : Inv X pins σ H s) (mu : Mut (H x)) (he : e = x ∨ H e = some (.own x)) (k : ∀ b u, b ≠ e → s.heap.get? b = some u → h'.get? b = some u) (heo : ∃ u, h'.get? e = some u)
    (new : ObjOk X.prog X.w (upd H x o) h' x o) : Inv X pins σ (upd H x o) { s with heap := h', toks := t' } := I.un (Un.write mu he k heo) (I.hok.write mu he k heo new)
theorem Inv.pins_of {pins' : List (Addr × Obj)} (I : Inv X pins σ H s) (h : ∀ p ∈ pins', s.heap.get? p.1 = some p.2 ∧ H p.1 = none ∧ p.1 ≠ X.env.locals ∧ p.1 ∉ X.fs ∧ ∀ v, p.2.data ≠ .cell v) : Inv X pins' σ H s :=
  ⟨I.ok, I.os, I.bare, I.base, I.loc, I.cell, I.free, I.freeC, fun p hp => (List.mem_append.mp hp).elim (fun z => I.pin p (List.mem_append_left _ z)) (h p), I.hok, I.len⟩

theorem nodup_ix {N : List Str} (hN : N.Nodup) {i j : Nat} {x : Str} (a : N[i]? = some x) (b : N[j]? = some x) : i = j := by
  obtain ⟨h1, e1⟩ := List.getElem?_eq_some_iff.mp a
  obtain ⟨h2, e2⟩ := List.getElem?_eq_some_iff.mp b
  exact (List.getElem_inj hN).mp (e1.trans e2.symm)

/-- a name is stored; what changed -/
theorem store_ok2 {M : Model} {A : Around} {E : Value → Shared → Prop} {i : Nat} {x : Str} {v : V} {u : Value} {Q : Unit → Shared → Prop} (I : Inv X pins σ H s) (hN : X.N.Nodup) (hi : X.N[i]? = some x) (hx : Loc X.env.scope x) (r : RelV v u)
    (h : ∀ s', Inv X pins (σ.set i (some v)) H s' → (∃ a, Heap.SameBut a s.heap s'.heap ∧ (a = X.env.locals ∨ X.env.cells.lookup x = some a)) → Q () s') (hf : X.fn x = true ∨ X.env.scope.names.lookup x = some .local := by first | exact .inl rfl | exact .inr rfl | assumption) : wpAny M A (storeName X.env x u) Q E s := by
  obtain ⟨m, hn, hl⟩ := id I.loc
  have hcls : (X.env.scope.kind == .class || (X.env.scope.kind == .module && X.env.locals != X.env.globals)) = false := by rw [I.ok.kind]; rfl
  have hiσ : i < σ.length := by rw [I.len]; exact (List.getElem?_eq_some_iff.mp hi).1
  have cne := I.cne
  have tracked : ∀ {a : Addr} {h' : Heap}, (∃ o, s.heap.get? a = some o ∧ H a = none) → Heap.SameBut a s.heap h' → HOk X.prog X.w H h' := fun {a h'} ha hs b ob e => by
    obtain ⟨_, _, hfree⟩ := ha
    refine (I.hok b ob e).stay (fun c w' hc q => (hs.2 c ?_).trans q) (fun _ q => q) fun _ _ q => q
    rintro rfl
    rcases hc with rfl | hc
    · rw [hfree] at e; cases e
    · rw [hfree] at hc; cases hc
  rcases hx with hk | hk
  · refine wpAny_storeName_local hk hn (fun h' hn' hs => ?_) hcls
    obtain ⟨oL, _, _, hoL, _⟩ := id hn
    refine h _ ⟨I.ok, I.os, I.bare, ⟨fun b o e n hb hx => ?_, fun b o e n hb hx => ?_, I.base.free, fun b o e hx => ?_, I.base.tups, I.base.frzs, I.base.tbls⟩, ⟨_, hn', fun j y v' e1 e2 e3 => ?_⟩, fun y c e => ?_, I.free, I.freeC, fun p hp => ?_, tracked ⟨oL, hoL, I.free⟩ hs, by simpa using I.len⟩ ⟨_, hs, .inl rfl⟩
    · exact (hs.2 b (Nat.ne_of_lt (Nat.lt_of_lt_of_le (Heap.lt_size e) I.ok.above))).trans (I.base.keep b o e n hb hx)
    · obtain ⟨sl, e1⟩ := I.base.slot b o e n hb hx
      exact ⟨sl, (hs.2 b (Nat.ne_of_lt (Nat.lt_of_lt_of_le (Heap.lt_size e) I.ok.above))).trans e1⟩
    · obtain ⟨o', e1⟩ := I.base.there b o e hx
      exact ⟨o', (hs.2 b (Nat.ne_of_lt (Nat.lt_of_lt_of_le (Heap.lt_size e) I.ok.above))).trans e1⟩
    · by_cases hj : j = i
      · subst hj
        rw [hi] at e1; cases e1
        rw [List.getElem?_set_self hiσ] at e2
        cases e2
        exact ⟨u, r, .inl ⟨hk, by simp⟩⟩
      · rw [List.getElem?_set_ne (Ne.symm hj)] at e2
        obtain ⟨u', r', q⟩ := hl j y v' e1 e2 e3
        refine ⟨u', r', ?_⟩
        rcases q with ⟨k, e⟩ | ⟨k, c, e, z⟩
        · refine .inl ⟨k, ?_⟩
          have : y ≠ x := fun e => hj (nodup_ix hN e1 (e ▸ hi))
          simp [this, e]
        · exact .inr ⟨k, c, e, z.sameBut hs (cne y c e)⟩
    · obtain ⟨w', z⟩ := I.cell y c e
      exact ⟨w', z.sameBut hs (cne y c e)⟩
    · obtain ⟨e, n, ne, nf, d⟩ := I.pin p hp
      exact ⟨(hs.2 p.1 ne).trans e, n, ne, nf, d⟩
  · have hfn : X.fn x = true := by
      rcases hf with z | z
      · exact z
      · rw [z] at hk; cases hk
    obtain ⟨c, hc⟩ := I.ok.has x (.inl hk)
    obtain ⟨w', z⟩ := I.cell x c hc
    refine wpAny_storeName_cell I.ok.kind hk hc z (fun h' hc' hs => ?_)
    obtain ⟨oc, hoc, hocd⟩ := id z
    refine h { s with heap := h' } ⟨I.ok, I.os, I.bare, ⟨fun b o e n hb hx => ?_, fun b o e n hb hx => ?_, I.base.free, fun b o e hx => ?_, I.base.tups, I.base.frzs, I.base.tbls⟩, ⟨m, hn.sameBut hs (Ne.symm (cne x c hc)), fun j y v' e1 e2 e3 => ?_⟩, fun y c' e => ?_, I.free, I.freeC, fun p hp => ?_, tracked ⟨oc, hoc, I.freeC x c hc⟩ hs, by simpa using I.len⟩ ⟨c, hs, .inr hc⟩
    · exact (hs.2 b (Nat.ne_of_lt (Nat.lt_of_lt_of_le (Heap.lt_size e) (I.ok.cab x c hfn hc)))).trans (I.base.keep b o e n hb hx)
    · obtain ⟨sl, e1⟩ := I.base.slot b o e n hb hx
      exact ⟨sl, (hs.2 b (Nat.ne_of_lt (Nat.lt_of_lt_of_le (Heap.lt_size e) (I.ok.cab x c hfn hc)))).trans e1⟩
    · obtain ⟨o', e1⟩ := I.base.there b o e hx
      exact ⟨o', (hs.2 b (Nat.ne_of_lt (Nat.lt_of_lt_of_le (Heap.lt_size e) (I.ok.cab x c hfn hc)))).trans e1⟩
    · by_cases hj : j = i
      · subst hj
        rw [hi] at e1; cases e1
        rw [List.getElem?_set_self hiσ] at e2
        cases e2
        exact ⟨u, r, .inr ⟨.inl hk, c, hc, hc'⟩⟩
      · rw [List.getElem?_set_ne (Ne.symm hj)] at e2
        obtain ⟨u', r', q⟩ := hl j y v' e1 e2 e3
        refine ⟨u', r', ?_⟩
        rcases q with q | ⟨k, c', e, z'⟩
        · exact .inl q
        · refine .inr ⟨k, c', e, z'.sameBut hs ?_⟩
          rintro rfl
          exact hj (nodup_ix hN e1 (I.ok.inj _ _ _ e hc ▸ hi))
    · by_cases hcc : c' = c
      · subst hcc; exact ⟨_, hc'⟩
      · obtain ⟨w2, z2⟩ := I.cell y c' e
        exact ⟨w2, z2.sameBut hs hcc⟩
    · obtain ⟨e, n, ne, nf, d⟩ := I.pin p hp
      refine ⟨(hs.2 p.1 ?_).trans e, n, ne, nf, d⟩
      intro q
      rw [q, hoc] at e
      have q' : oc = p.2 := Option.some.inj e
      exact d w' (by rw [← q']; exact hocd)
theorem store_ok {M : Model} {A : Around} {E : Value → Shared → Prop} {i : Nat} {x : Str} {v : V} {u : Value} {Q : Unit → Shared → Prop} (I : Inv X pins σ H s) (hN : X.N.Nodup) (hi : X.N[i]? = some x) (hx : Loc X.env.scope x) (r : RelV v u)
    (h : ∀ s', Inv X pins (σ.set i (some v)) H s' → Q () s') (hf : X.fn x = true ∨ X.env.scope.names.lookup x = some .local := by first | exact .inl rfl | exact .inr rfl | assumption) : wpAny M A (storeName X.env x u) Q E s :=
  store_ok2 I hN hi hx r (fun s' I' _ => h s' I') hf
/-- behind a call or a block, the state as it is -/
theorem Inv.call' {s' : Shared} {ch : List Addr} (I : Inv X pins σ H s) (ho : s'.os = s.os) (u : Un (frs X.stack) ch H H' s.heap s'.heap) (hok : HOk X.prog X.w H' s'.heap) (hg : AllBare s'.gens)
    (hch : ∀ b ∈ ch, (b ∈ X.ex ∨ X.s₀.heap.objs.size ≤ b) ∧ b ≠ X.env.locals ∧ (∀ x c, X.env.cells.lookup x = some c → c ≠ b) ∧ ∀ p ∈ X.pn ++ pins, p.1 ≠ b) : Inv X pins σ H' s' := by
  obtain ⟨h', g', d', t', o'⟩ := s'
  have e : o' = s.os := ho
  subst e
  exact I.call (g' := g') (t' := t') (d' := d') u hok hg hch
end

/-! ### the judgements -/
/-- an exception: its class, its own dict's address (where it has one), the abstract heap behind it -/
abbrev XK := Value → Option Addr → Hp → Prop
abbrev St := List (Option V)
abbrev VK := V → Hp → Prop
/-- an expression's reading; a test's; an argument list's -/
abbrev TE := St → Hp → VK → Prop
abbrev TT := St → Hp → (Bool → Hp → Prop) → Prop
abbrev TA := St → Hp → (List V → Hp → Prop) → Prop
/-- what is wanted behind a statement -/
structure Ends where
  nx : St → Hp → Prop
  rt : VK
  bk : St → Hp → Prop := fun _ _ => False
  ct : St → Hp → Prop := fun _ _ => False
abbrev TS := Ends → St → Hp → Prop

def EP (X : Cx) (pins : List (Addr × Obj)) (σ : St) (Q : VK) (u : Value) (s' : Shared) : Prop := ∃ v H', Inv X pins σ H' s' ∧ RelV v u ∧ Q v H'
def TP (X : Cx) (pins : List (Addr × Obj)) (σ : St) (Q : Bool → Hp → Prop) (b : Bool) (s' : Shared) : Prop := ∃ H', Inv X pins σ H' s' ∧ Q b H'
def AP (X : Cx) (pins : List (Addr × Obj)) (σ : St) (Q : List V → Hp → Prop) (us : List Value) (s' : Shared) : Prop := ∃ vs H', Inv X pins σ H' s' ∧ Vals vs us ∧ Q vs H'
def SP (X : Cx) (pins : List (Addr × Obj)) (D : Ends) (f : Flow) (s' : Shared) : Prop :=
  match f with
  | .next => ∃ σ' H', Inv X pins σ' H' s' ∧ D.nx σ' H'
  | .brk => ∃ σ' H', Inv X pins σ' H' s' ∧ D.bk σ' H'
  | .cont => ∃ σ' H', Inv X pins σ' H' s' ∧ D.ct σ' H'
  | .ret u => ∃ v σ' H', Inv X pins σ' H' s' ∧ RelV v u ∧ D.rt v H'

def PE (X : Cx) (e : Expr) (t : TE) : Prop :=
  ∀ (pins : List (Addr × Obj)) (s : Shared) (σ : St) (H : Hp) (Q : VK), Inv X pins σ H s → t σ H Q → wpAny (model X.prog X.w) X.A (eval e X.env) (EP X pins σ Q) X.xe s
def PT (X : Cx) (e : Expr) (t : TT) : Prop :=
  ∀ (pins : List (Addr × Obj)) (s : Shared) (σ : St) (H : Hp) (Q : Bool → Hp → Prop), Inv X pins σ H s → t σ H Q → wpAny (model X.prog X.w) X.A (isTrue e X.env (eval e X.env)) (TP X pins σ Q) X.xe s
/-- a test whatever its 'whole' is (and, or) -/
def PW (X : Cx) (e : Expr) (t : TT) : Prop :=
  ∀ (whole : Sem Value) (pins : List (Addr × Obj)) (s : Shared) (σ : St) (H : Hp) (Q : Bool → Hp → Prop), Inv X pins σ H s → t σ H Q → wpAny (model X.prog X.w) X.A (isTrue e X.env whole) (TP X pins σ Q) X.xe s
theorem PW.pt {X : Cx} {e : Expr} {t : TT} (h : PW X e t) : PT X e t := h _
/-- an argument list (no star), from the left -/
def PA (X : Cx) (es : List Expr) (t : TA) : Prop :=
  ∀ (pos : Pos) (pins : List (Addr × Obj)) (s : Shared) (σ : St) (H : Hp) (Q : List V → Hp → Prop), Inv X pins σ H s → t σ H Q → wpAny (model X.prog X.w) X.A (spliced (backTo pos (starEach es X.env))) (AP X pins σ Q) X.xe s
def PS (X : Cx) (st : Stmt) (t : TS) : Prop :=
  ∀ (pins : List (Addr × Obj)) (s : Shared) (σ : St) (H : Hp) (D : Ends), Inv X pins σ H s → t D σ H → wpAny (model X.prog X.w) X.A (exec st X.env) (SP X pins D) X.xe s
def PSs (X : Cx) (st : List Stmt) (t : TS) : Prop :=
  ∀ (pins : List (Addr × Obj)) (s : Shared) (σ : St) (H : Hp) (D : Ends), Inv X pins σ H s → t D σ H → wpAny (model X.prog X.w) X.A (execs st X.env) (SP X pins D) X.xe s
/-- weaken the end -/
theorem thn {α : Type} {t : Sem α} {Q Q' : α → Shared → Prop} {M : Model} {A : Around} {E : Value → Shared → Prop} {s : Shared} (h : wpAny M A t Q E s) (hQ : ∀ a s, Q a s → Q' a s) : wpAny M A t Q' E s := wpAny_mono h hQ fun _ _ x => x
end L2

namespace L2
open PySem PySem.Spec PyProof.Rows
section
variable {X : Cx}

/-- two expressions in a row -/
theorem bin {a b : Expr} {ta tb : TE} (ha : PE X a ta) (hb : PE X b tb) {pins : List (Addr × Obj)} {s : Shared} {σ : St} {H : Hp} {R : V → V → Hp → Prop} (I : Inv X pins σ H s) (h : ta σ H fun x H1 => tb σ H1 fun y H2 => R x y H2)
    {α : Type} {Q : α → Shared → Prop} {f : Value → Value → Sem α}
    (hf : ∀ v u s2 x y H2, Inv X pins σ H2 s2 → RelV x v → RelV y u → R x y H2 → wpAny (model X.prog X.w) X.A (f v u) Q X.xe s2) :
    wpAny (model X.prog X.w) X.A (eval a X.env) (fun v s₁ => wpAny (model X.prog X.w) X.A (eval b X.env) (fun u s₂ => wpAny (model X.prog X.w) X.A (f v u) Q X.xe s₂) X.xe s₁) X.xe s := by
  refine thn (ha pins s σ H _ I h) fun v s1 ⟨x, H1, I1, r1, q1⟩ => ?_
  refine thn (hb pins s1 σ H1 _ I1 q1) fun u s2 ⟨y, H2, I2, r2, q2⟩ => ?_
  exact hf v u s2 x y H2 I2 r1 r2 q2

/-! ### names and constants -/
def tVar (i : Nat) : TE := fun σ H Q => ∃ v, σ[i]? = some (some v) ∧ Q v H
def tC (v : V) : TE := fun _ H Q => Q v H
theorem pe_var {i : Nat} {x : Str} {pos : Pos} (hN : X.N[i]? = some x) (hv : Vis X.env.scope x) (hd : (x == ("__debug__" : Str)) = false := by decide) (hcd : (x == ("__classdict__" : Str)) = false := by decide) : PE X (.Name x pos) (tVar i) := by
  intro pins s σ H Q I h
  obtain ⟨v, e, h⟩ := h
  obtain ⟨m, hn, hl⟩ := I.loc
  obtain ⟨u, r, l⟩ := hl i x v hN e hv
  have fin : EP X pins σ Q u s := ⟨v, H, I, r, h⟩
  rcases l with ⟨hk, hm⟩ | ⟨hk, c, hc, hcell⟩
  · exact wpAny_Name (wpAny_loadName_local I.ok.kind hk hn hm fin) hd
  · rcases hk with hk | hk
    · exact wpAny_Name (wpAny_loadName_cell I.ok.kind hk hc hcell fin) hd
    · exact wpAny_Name (wpAny_loadName_free I.ok.kind hk hc hcell fin hcd) hd
theorem pe_int {i j pos} : PE X (.Constant (.int i) j pos) (tC (.int i)) := fun _ _ _ H _ I h => wpAny_Constant_int ⟨.int i, H, I.tok _, ⟨_, rfl⟩, h⟩
theorem pe_bl {b j pos} : PE X (.Constant (.bool b) j pos) (tC (.bl b)) := fun _ _ _ H _ I h => Constant_bool ⟨.bl b, H, I, rfl, h⟩
theorem pe_non {j pos} : PE X (.Constant .none j pos) (tC .non) := fun _ _ _ H _ I h => Constant_none ⟨.non, H, I, rfl, h⟩
theorem pe_str {x j pos} : PE X (.Constant (.str x) j pos) (tC (.str x)) := fun _ _ _ H _ I h => Calls.Constant_str ⟨.str x, H, I.tok _, ⟨_, rfl⟩, h⟩

/-- a global name of the def -/
def Gl (X : Cx) (x : Str) : Prop := X.env.kindOf x = some .globalImplicit
theorem ld_glob {E : Value → Shared → Prop} {pins : List (Addr × Obj)} {s : Shared} {σ : St} {H : Hp} {x : Str} {u : Value} {pos : Pos} {Q : Value → Shared → Prop} (I : Inv X pins σ H s) (hg : Gl X x) (hm : X.mg x = some u) (h : Q u s)
    (hd : (x == ("__debug__" : Str)) = false := by decide) : wpAny (model X.prog X.w) X.A (eval (.Name x pos) X.env) Q E s :=
  Calls.Name_function_global I.ok.kind hg (Calls.loadGlobal_global (by rw [I.ok.glob]; exact I.mod.glob.keeps I.bk) hm h) hd
theorem ld_blt {E : Value → Shared → Prop} {pins : List (Addr × Obj)} {s : Shared} {σ : St} {H : Hp} {x : Str} {u : Value} {pos : Pos} {Q : Value → Shared → Prop} (I : Inv X pins σ H s) (hg : Gl X x) (hm : X.mg x = none) (hv : bootBuiltins x = some u) (h : Q u s)
    (hn : x ≠ "__name__" := by decide) (hd : (x == ("__debug__" : Str)) = false := by decide) : wpAny (model X.prog X.w) X.A (eval (.Name x pos) X.env) Q E s := by
  obtain ⟨mb, h1, h2⟩ := I.mod.blt
  exact Calls.Name_function_global I.ok.kind hg (Calls.loadGlobal_builtin (by rw [I.ok.glob]; exact I.mod.glob.keeps I.bk) hm (by rw [I.ok.blt]; exact h1.keeps I.bk) ((h2 x hn).trans hv) h) hd
/-- a module's constant, a class, a function, as a value -/
theorem pe_glob {x : Str} {v : V} {u : Value} {pos : Pos} (hg : Gl X x) (hm : X.mg x = some u) (r : RelV v u) (hd : (x == ("__debug__" : Str)) = false := by decide) : PE X (.Name x pos) (tC v) :=
  fun _ _ _ H _ I h => ld_glob I hg hm ⟨v, H, I, r, h⟩ hd
theorem pe_bltn {x : Str} {v : V} {u : Value} {pos : Pos} (hg : Gl X x) (hm : X.mg x = none) (hv : bootBuiltins x = some u) (r : RelV v u) (hn : x ≠ "__name__" := by decide) (hd : (x == ("__debug__" : Str)) = false := by decide) : PE X (.Name x pos) (tC v) :=
  fun _ _ _ H _ I h => ld_blt I hg hm hv ⟨v, H, I, r, h⟩ hn hd

/-! ### arithmetic -/
variable {a b : Expr} {ta tb : TE} {pos : Pos}
/-! ### comparisons -/
/-! ### and, or, not -/
variable {tA tB' : TT} {rest : List Expr}
def tAnd (t u : TT) : TT := fun σ H Q => t σ H fun c H1 => if c = true then u σ H1 Q else Q false H1
def tOr (t u : TT) : TT := fun σ H Q => t σ H fun c H1 => if c = true then Q true H1 else u σ H1 Q
def tNot (t : TT) : TT := fun σ H Q => t σ H fun c H1 => Q (!c) H1
theorem pw_and1 (ha : PT X a tA) : PW X (.BoolOp .And [a] pos) tA := by
  intro wh pins s σ H Q I h
  refine isTrue_and (thn (ha pins s σ H Q I h) fun c s1 e => ?_)
  cases c with
  | true => exact isTrue_and_nil e
  | false => exact e
theorem pw_or1 (ha : PT X a tA) : PW X (.BoolOp .Or [a] pos) tA := by
  intro wh pins s σ H Q I h
  refine isTrue_or (thn (ha pins s σ H Q I h) fun c s1 e => ?_)
  cases c with
  | false => exact isTrue_or_nil e
  | true => exact e
theorem pw_and (ha : PT X a tA) (hb : PW X (.BoolOp .And (b :: rest) pos) tB') : PW X (.BoolOp .And (a :: b :: rest) pos) (tAnd tA tB') := by
  intro wh pins s σ H Q I h
  refine isTrue_and (thn (ha pins s σ H _ I h) fun c s1 ⟨H1, I1, q1⟩ => ?_)
  cases c with
  | true => exact hb wh pins s1 σ H1 Q I1 q1
  | false => exact ⟨H1, I1, q1⟩
theorem pw_or (ha : PT X a tA) (hb : PW X (.BoolOp .Or (b :: rest) pos) tB') : PW X (.BoolOp .Or (a :: b :: rest) pos) (tOr tA tB') := by
  intro wh pins s σ H Q I h
  refine isTrue_or (thn (ha pins s σ H _ I h) fun c s1 ⟨H1, I1, q1⟩ => ?_)
  cases c with
  | true => exact ⟨H1, I1, q1⟩
  | false => exact hb wh pins s1 σ H1 Q I1 q1
theorem pt_not (ha : PT X a tA) : PT X (.UnaryOp .Not a pos) (tNot tA) := by
  intro pins s σ H Q I h
  exact isTrue_not (ha pins s σ H (fun c H1 => Q (!c) H1) I h)
theorem pe_one {op} {t : TE} (h : PE X a t) : PE X (.BoolOp op [a] pos) t := fun pins s σ H Q I hw => BoolOp_one (h pins s σ H Q I hw)
end
end L2

namespace L2
open PySem PySem.Spec PyProof.Rows

/-! ### a list, a tuple that is read: tracked, frozen, or an object of the module -/
def SqL (K : PySem.W.Frag) (H : Hp) (a : Addr) (xs : List V) : Prop :=
  Rd H a (.lst xs) ∨
    ∃ (o : Obj) (its : Array Value) (n : Nat), K.lookup a = some o ∧ o.cls = .type "list" ∧ o.dict = none ∧ o.data = .seq its n ∧ its.size ≤ sizeLine ∧ Vals xs its.toList
def SqT (K : PySem.W.Frag) (H : Hp) (a : Addr) (xs : List V) : Prop :=
  Rd H a (.tup xs) ∨
    ∃ (o : Obj) (its : Array Value) (n : Nat), K.lookup a = some o ∧ o.cls = .type "tuple" ∧ o.data = .seq its n ∧ its.size ≤ sizeLine ∧ Vals xs its.toList
def absV : Value → Option V
  | .none => some .non
  | .bool b => some (.bl b)
  | .int i _ => some (.int i)
  | .str x _ => some (.str x)
  | .bytes b _ => some (.byt b)
  | .float b _ => some (.flt b)
  | .ref a => some (.ref a)
  | .type n => some (.ty n)
  | _ => none
theorem RelV.abs {x : V} {u : Value} (r : RelV x u) : absV u = some x := by
  cases x with
  | non => cases r; rfl
  | bl _ => cases r; rfl
  | int _ => obtain ⟨t, rfl⟩ := r; rfl
  | str _ => obtain ⟨t, rfl⟩ := r; rfl
  | byt _ => obtain ⟨t, rfl⟩ := r; rfl
  | flt _ => obtain ⟨t, rfl⟩ := r; rfl
  | ref _ => cases r; rfl
  | ty _ => cases r; rfl
theorem RelV.inj {x y : V} {u : Value} (r : RelV x u) (q : RelV y u) : x = y := Option.some.inj (r.abs.symm.trans q.abs)
theorem Vals.inj : ∀ {xs ys : List V} {us : List Value}, Vals xs us → Vals ys us → xs = ys
  | _, _, _, .nil, .nil => rfl
  | _, _, _, .cons r t, .cons r' t' => by rw [r.inj r', Vals.inj t t']
section
variable {X : Cx} {pins : List (Addr × Obj)} {σ : St} {H : Hp} {s : Shared} {a : Addr} {xs ys : List V}
theorem SqL.of {K : PySem.W.Frag} (h : H a = some (.lst xs)) : SqL K H a xs := .inl (.inl h)
theorem SqT.of {K : PySem.W.Frag} (h : H a = some (.tup xs)) : SqT K H a xs := .inl (.inl h)
theorem Inv.list (I : Inv X pins σ H s) (h : SqL X.K H a xs) : ∃ its : List Value, Vals xs its ∧ PlainL s.heap a its.toArray ∧ xs.length ≤ sizeLine := by
  rcases h with h | ⟨o, its, n, hk, hc, hd, hs, hz, r⟩
  · obtain ⟨z, its, n, r, e⟩ := h.ok I.hok
    exact ⟨its, r, ⟨_, n, e, rfl, rfl, rfl⟩, z⟩
  · refine ⟨its.toList, r, ⟨o, n, I.kIn a o hk, hc, hd, by simpa using hs⟩, ?_⟩
    have e := r.length
    simp only [Array.length_toList] at e
    omega
theorem Inv.tuple (I : Inv X pins σ H s) (h : SqT X.K H a xs) : ∃ its : List Value, Vals xs its ∧ IsTup s.heap a its.toArray ∧ xs.length ≤ sizeLine := by
  rcases h with h | ⟨o, its, n, hk, hc, hs, hz, r⟩
  · obtain ⟨z, its, r, p⟩ := h.ok I.hok
    exact ⟨its, r, p, z⟩
  · refine ⟨its.toList, r, ⟨o, I.kIn a o hk, hc, n, by simpa using hs⟩, ?_⟩
    have e := r.length
    simp only [Array.length_toList] at e
    omega
theorem Inv.list_inj (I : Inv X pins σ H s) (h : SqL X.K H a xs) (h' : SqL X.K H a ys) : xs = ys := by
  obtain ⟨its, r, ⟨o, n, e, _, _, d⟩, _⟩ := I.list h
  obtain ⟨its', r', ⟨o', n', e', _, _, d'⟩, _⟩ := I.list h'
  rw [e] at e'; cases e'
  rw [d] at d'
  injection d' with d1 _
  have : its = its' := by simpa using congrArg Array.toList d1
  subst this
  exact r.inj r'
theorem Inv.tuple_inj (I : Inv X pins σ H s) (h : SqT X.K H a xs) (h' : SqT X.K H a ys) : xs = ys := by
  obtain ⟨its, r, ⟨o, e, _, n, d⟩, _⟩ := I.tuple h
  obtain ⟨its', r', ⟨o', e', _, n', d'⟩, _⟩ := I.tuple h'
  rw [e] at e'; cases e'
  rw [d] at d'
  injection d' with d1 _
  have : its = its' := by simpa using congrArg Array.toList d1
  subst this
  exact r.inj r'
end

/-! ### another wish about exceptions -/
abbrev Cx.wish (X : Cx) (E : Value → Shared → Prop) : Cx := { X with xe := E }
/-- no exception leaves -/
abbrev Cx.nox (X : Cx) : Cx := X.wish fun _ _ => False
theorem Cx.Ok.wish {X : Cx} (ok : X.Ok) (E : Value → Shared → Prop) : (X.wish E).Ok :=
  ⟨ok.mod, ok.kind, ok.glob, ok.blt, ok.above, ok.inj, ok.has, ok.cab, ok.hd, ok.frames, ok.stk, ok.exf, ok.bs, ok.bsz, ok.noex, ok.exfs, ok.funs, ok.frf⟩
theorem Cx.Ok.unwish {X : Cx} {E : Value → Shared → Prop} (ok : (X.wish E).Ok) : X.Ok :=
  ⟨ok.mod, ok.kind, ok.glob, ok.blt, ok.above, ok.inj, ok.has, ok.cab, ok.hd, ok.frames, ok.stk, ok.exf, ok.bs, ok.bsz, ok.noex, ok.exfs, ok.funs, ok.frf⟩
section
variable {X : Cx} {pins : List (Addr × Obj)} {σ : St} {H : Hp} {s : Shared} {E : Value → Shared → Prop}
theorem Inv.wish (I : Inv X pins σ H s) (E : Value → Shared → Prop) : Inv (X.wish E) pins σ H s := ⟨I.ok.wish E, I.os, I.bare, I.base, I.loc, I.cell, I.free, I.freeC, I.pin, I.hok, I.len⟩
theorem Inv.unwish (I : Inv (X.wish E) pins σ H s) : Inv X pins σ H s := ⟨I.ok.unwish, I.os, I.bare, I.base, I.loc, I.cell, I.free, I.freeC, I.pin, I.hok, I.len⟩
theorem SP.unwish {D : Ends} {f : Flow} {s' : Shared} (h : SP (X.wish E) pins D f s') : SP X pins D f s' := by
  cases f with
  | next => obtain ⟨σ', H', I, q⟩ := h; exact ⟨σ', H', I.unwish, q⟩
  | brk => obtain ⟨σ', H', I, q⟩ := h; exact ⟨σ', H', I.unwish, q⟩
  | cont => obtain ⟨σ', H', I, q⟩ := h; exact ⟨σ', H', I.unwish, q⟩
  | ret u => obtain ⟨v, σ', H', I, r, q⟩ := h; exact ⟨v, σ', H', I.unwish, r, q⟩
theorem PSs.nox {st : List Stmt} {t : TS} (h : PSs X.nox st t) : PSs X st t := fun pins s σ H D I hw =>
  wpAny_mono (h pins s σ H D (I.wish _) hw) (fun _ _ q => q.unwish) fun _ _ z => False.elim z
end

/-! ### blocks and small statements -/
section
variable {X : Cx} {st : Stmt} {rest : List Stmt} {t u : TS} {e : Expr} {te : TE} {pos : Pos}
def tNext : TS := fun D σ H => D.nx σ H
def tSeq (t u : TS) : TS := fun D σ H => t { D with nx := u D } σ H
theorem pss_nil : PSs X [] tNext := fun _ _ σ H _ I h => wpAny_execs_nil ⟨σ, H, I, h⟩
theorem pss_cons (h1 : PS X st t) (h2 : PSs X rest u) : PSs X (st :: rest) (tSeq t u) := by
  intro pins s σ H D I h
  refine wpAny_execs_cons (thn (h1 pins s σ H { D with nx := u D } I h) fun f s1 q => ?_)
  cases f with
  | next =>
    obtain ⟨σ', H', I', q⟩ := q
    exact h2 pins s1 σ' H' D I' q
  | ret v => exact q
  | brk => exact q
  | cont => exact q
theorem pss_one (h1 : PS X st t) : PSs X [st] t := by
  intro pins s σ H D I h
  refine wpAny_execs_cons (thn (h1 pins s σ H D I h) fun f s1 q => ?_)
  cases f with
  | next => exact wpAny_execs_nil q
  | ret v => exact q
  | brk => exact q
  | cont => exact q
/-- in a def's body nothing is shown -/
theorem Inv.quiet {pins : List (Addr × Obj)} {σ : St} {H : Hp} {s : Shared} (I : Inv X pins σ H s) : interactive X.env = false := by simp [interactive, I.ok.kind]
/-- an expression whose value is dropped -/
def tDrop (te : TE) : TS := fun D σ H => te σ H fun _ H1 => D.nx σ H1
theorem ps_expr (he : PE X e te) (hs : swapsWith e none pos.line X.env = pure false := by rfl) : PS X (.Expr e pos) (tDrop te) := by
  intro pins s σ H D I h
  exact wpAny_Expr_any (thn (he pins s σ H _ I h) fun v s1 ⟨x, H1, I1, r1, q1⟩ => ⟨σ, H1, I1, q1⟩) I.quiet hs
def tRet (te : TE) : TS := fun D σ H => te σ H D.rt
theorem ps_ret (he : PE X e te) : PS X (.Return (some e) pos) (tRet te) := by
  intro pins s σ H D I h
  exact wpAny_Return_some (thn (he pins s σ H _ I h) fun v s1 ⟨x, H1, I1, r1, q1⟩ => ⟨x, σ, H1, I1, r1, q1⟩)
def tIfS (c : TT) (t u : TS) : TS := fun D σ H => c σ H fun b H1 => if b = true then t D σ H1 else u D σ H1
theorem ps_if {c : Expr} {a b : List Stmt} {tc : TT} (hc : PT X c tc) (ha : PSs X a t) (hb : PSs X b u) : PS X (.If c a b pos) (tIfS tc t u) := by
  intro pins s σ H D I h
  refine wpAny_If (thn (hc pins s σ H _ I h) fun d s1 ⟨H1, I1, q1⟩ => ?_)
  cases d with
  | true => exact ha pins s1 σ H1 D I1 q1
  | false => exact hb pins s1 σ H1 D I1 q1
end

/-! ### targets -/
abbrev TG := V → St → Hp → (St → Hp → Prop) → Prop
abbrev TGs := List V → St → Hp → (St → Hp → Prop) → Prop
def PG (X : Cx) (target : Expr) (t : TG) : Prop :=
  ∀ (pins : List (Addr × Obj)) (s : Shared) (σ : St) (H : Hp) (v : V) (u : Value) (Q : St → Hp → Prop), Inv X pins σ H s → RelV v u → t v σ H Q →
    wpAny (model X.prog X.w) X.A (assign target X.env u) (fun _ s' => ∃ σ' H', Inv X pins σ' H' s' ∧ Q σ' H') X.xe s
/-- several targets, one after another -/
def PGs (X : Cx) (ts : List Expr) (t : TGs) : Prop :=
  ∀ (pins : List (Addr × Obj)) (s : Shared) (σ : St) (H : Hp) (vs : List V) (us : List Value) (Q : St → Hp → Prop), Inv X pins σ H s → Vals vs us → t vs σ H Q →
    wpAny (model X.prog X.w) X.A (assignInOrder ((assignEach ts X.env).map (·.2)) us) (fun _ s' => ∃ σ' H', Inv X pins σ' H' s' ∧ Q σ' H') X.xe s
/-- o[i] = v, by values -/
abbrev TSet := V → V → V → Hp → (Hp → Prop) → Prop
def PSet (X : Cx) (t : TSet) : Prop :=
  ∀ (pins : List (Addr × Obj)) (s : Shared) (σ : St) (H : Hp) (o i v : V) (ov iv u : Value) (Q : Hp → Prop), Inv X pins σ H s → RelV o ov → RelV i iv → RelV v u → t o i v H Q →
    wpAny (model X.prog X.w) X.A (setItem ov iv u) (fun _ s' => ∃ H', Inv X pins σ H' s' ∧ Q H') X.xe s
section
variable {X : Cx} {pos : Pos}
def gName (i : Nat) : TG := fun v σ H Q => Q (σ.set i (some v)) H
theorem pg_name {i : Nat} {x : Str} (hN : X.N.Nodup) (hi : X.N[i]? = some x) (hx : Loc X.env.scope x) (hf : X.fn x = true ∨ X.env.scope.names.lookup x = some .local := by first | exact .inl rfl | exact .inr rfl | assumption) : PG X (.Name x pos) (gName i) := by
  intro pins s σ H v u Q I r h
  exact wpAny_assign_Name (store_ok I hN hi hx r (fun s' I' => ⟨_, H, I', h⟩) hf)
def gNil : TGs := fun vs σ H Q => vs = [] ∧ Q σ H
def gCons (t : TG) (u : TGs) : TGs := fun vs σ H Q => ∃ v r, vs = v :: r ∧ t v σ H fun σ' H' => u r σ' H' Q
theorem pgs_nil : PGs X [] gNil := by
  intro pins s σ H vs us Q I r h
  obtain ⟨e, h⟩ := h
  subst e
  cases r
  exact assignInOrder_nil ⟨σ, H, I, h⟩
theorem pgs_cons {e : Expr} {es : List Expr} {t : TG} {u : TGs} (h1 : PG X e t) (h2 : PGs X es u)
    (hs : (assignEach (e :: es) X.env).map (·.2) = assign e X.env :: (assignEach es X.env).map (·.2) := by rfl) : PGs X (e :: es) (gCons t u) := by
  intro pins s σ H vs us Q I r h
  obtain ⟨v, vr, e1, h⟩ := h
  subst e1
  cases r with
  | cons r rr =>
    rw [hs]
    refine assignInOrder_cons (thn (h1 pins s σ H _ _ _ I r h) fun _ s1 ⟨σ1, H1, I1, q1⟩ => ?_)
    exact h2 pins s1 σ1 H1 _ _ Q I1 rr q1
/-- (a, b, ..) = a tuple of that length -/
def gTup (K : PySem.W.Frag) (n : Nat) (t : TGs) : TG := fun v σ H Q => ∃ a xs, v = .ref a ∧ SqT K H a xs ∧ xs.length = n ∧ t xs σ H Q
theorem pg_tup {es : List Expr} {k : Nat} {t : TGs} {n : Nat} (hc : X.calm = true) (h : PGs X es t)
    (hn : (assignEach es X.env).length = n := by rfl) (hst : (assignEach es X.env).findIdx? (·.1) = none := by rfl) : PG X (.Tuple es k pos) (gTup X.K n t) := by
  intro pins s σ H v u Q I r hw
  obtain ⟨a, xs, e1, hq, hl, hw⟩ := hw
  subst e1
  cases r
  obtain ⟨its, rv, ht, hz⟩ := I.tuple hq
  refine assign_Tuple_tuple (I.ok.hd hc) ht (by simp [hn, ← hl, rv.length]) hst fun h' hx => ?_
  have I1 : Inv X pins σ H { s with heap := h' } := I.kept (t' := s.toks) fun b o e => hx b o (Nat.ne_of_lt (Heap.lt_size e)) e
  exact h pins _ σ H xs _ Q I1 (by simpa using rv) hw
/-- o[i] = .. -/
def gSub (to ti : TE) (t : TSet) : TG := fun v σ H Q => to σ H fun o H1 => ti σ H1 fun i H2 => t o i v H2 fun H3 => Q σ H3
theorem pg_sub {o i : Expr} {to ti : TE} {t : TSet} (ho : PE X o to) (hi : PE X i ti) (hs : PSet X t)
    (ha : ∀ v, assign (.Subscript o i pos) X.env v = (do
      let ov ← holding [v] (eval o X.env)
      let iv ← holding [v, ov] (eval i X.env)
      standAt pos
      holding [v, ov, iv] (setItem ov iv v)
      release [v, ov, iv] []) := by intro _; rfl) : PG X (.Subscript o i pos) (gSub to ti t) := by
  intro pins s σ H v u Q I r h
  rw [ha]
  refine wpAny_bind (wpAny_holding (thn (ho pins s σ H _ I h) fun ov s1 ⟨x, H1, I1, r1, q1⟩ => ?_))
  refine wpAny_bind (wpAny_holding (thn (hi pins s1 σ H1 _ I1 q1) fun iv s2 ⟨y, H2, I2, r2, q2⟩ => ?_))
  refine wpAny_bind (wpAny_standAt (wpAny_bind (wpAny_holding (thn (hs pins s2 σ H2 x y v ov iv u _ I2 r1 r2 r q2) fun _ s3 ⟨H3, I3, q3⟩ => ?_))))
  exact wpAny_release ⟨σ, H3, I3, q3⟩
/-- target = value -/
def tAsg (te : TE) (g : TG) : TS := fun D σ H => te σ H fun x H1 => g x σ H1 D.nx
theorem ps_asg {tg e : Expr} {te : TE} {g : TG} (he : PE X e te) (hg : PG X tg g) (hs : swapsWithSole [tg] e pos.line X.env = pure false := by rfl) (hw : swappedStores [tg] e X.env = pure none := by rfl)
    (h1 : (assignEach [tg] X.env).map (·.2) = [assign tg X.env] := by rfl) : PS X (.Assign [tg] e pos) (tAsg te g) := by
  intro pins s σ H D I h
  refine wpAny_Assign_stores (thn (he pins s σ H _ I h) fun v s1 ⟨x, H1, I1, r1, q1⟩ => ?_) hs hw
  rw [h1]
  exact thn (hg pins s1 σ H1 x v _ I1 r1 q1) fun _ s2 q => q
/-- name = value -/
theorem ps_set {i : Nat} {x : Str} {e : Expr} {te : TE} {pos' : Pos} (hN : X.N.Nodup) (hi : X.N[i]? = some x) (hx : Loc X.env.scope x) (he : PE X e te) (hs : swapsWith e (some (.Name x pos')) pos.line X.env = pure false := by rfl) (hf : X.fn x = true ∨ X.env.scope.names.lookup x = some .local := by first | exact .inl rfl | exact .inr rfl | assumption) :
    PS X (.Assign [.Name x pos'] e pos) (tAsg te (gName i)) := by
  intro pins s σ H D I h
  refine wpAny_Assign_Name (thn (he pins s σ H _ I h) fun v s1 ⟨y, H1, I1, r1, q1⟩ => ?_) hs
  exact store_ok I1 hN hi hx r1 (fun s2 I2 => ⟨_, H1, I2, q1⟩) hf
end

/-! ### while -/
section
variable {X : Cx} {pos : Pos}
end

/-! ### what a loop or a comprehension walks -/
/-- at turn i: it yields x (the heap may grow), or it stops -/
structure It where
  go : Nat → Hp → Prop
  yld : Nat → Hp → V → Hp → Prop
  stop : Nat → Hp → Prop
/-- the iterator's own objects may turn: they are not the frame's, not pinned, younger than the entry (or a comprehension's own) -/
def FpOk (X : Cx) (pins : List (Addr × Obj)) (H : Hp) (b : Addr) : Prop :=
  H b = none ∧ b ≠ X.env.locals ∧ b ∉ X.fs ∧ (b ∈ X.ex ∨ X.s₀.heap.objs.size ≤ b) ∧ (∀ x c, X.env.cells.lookup x = some c → c ≠ b) ∧ ∀ p ∈ X.pn ++ pins, p.1 ≠ b
theorem Inv.fpOk {X : Cx} {pins : List (Addr × Obj)} {σ : St} {H H' : Hp} {s : Shared} {b : Addr} (I : Inv X pins σ H s) (hb : s.heap.objs.size ≤ b) (hn : H' b = none) : FpOk X pins H' b := by
  refine ⟨hn, Nat.ne_of_gt (Nat.lt_of_lt_of_le I.lt hb), I.nofs hb, .inr (Nat.le_trans I.sz hb), fun x c e z => ?_, fun p hp z => ?_⟩
  · obtain ⟨v, q⟩ := I.cell x c e
    exact absurd (Nat.lt_of_lt_of_le q.lt (by rw [z]; exact hb)) (Nat.lt_irrefl _)
  · exact absurd (Nat.lt_of_lt_of_le (Heap.lt_size (I.pin p hp).1) (by rw [z]; exact hb)) (Nat.lt_irrefl _)
structure Turn (P : Program) (w : World) (K : PySem.W.Frag) (tg : Expr) (J : It) (fp : List Addr) (it : Addr) (tn : Nat → Heap → Prop) : Prop where
  mem : it ∈ fp
  obj : ∀ i h, tn i h → ∀ b ∈ fp, ∃ o, h.get? b = some o ∧ ∀ v, o.data ≠ .cell v
  keep : ∀ i h h', tn i h → (∀ b ∈ fp, ∀ o, h.get? b = some o → h'.get? b = some o) → tn i h'
  item : ∀ (X : Cx), X.prog = P → X.w = w → X.K = K → X.calm = true → ∀ (i : Nat) (pins : List (Addr × Obj)) (s : Shared) (σ : St) (H : Hp) (E : Value → Shared → Prop), Inv X pins σ H s → (∀ b ∈ fp, FpOk X pins H b) → tn i s.heap → J.go i H →
    wpAny (model P w) X.A (pyNext (.ref it)) (fun r s1 => ∃ u, r = some u ∧
      wpAny (model P w) X.A (letOwnedTupleGo tg (.ref it) u) (fun _ s2 => ∃ x H', Inv X pins σ H' s2 ∧ RelV x u ∧ J.yld i H x H' ∧ tn (i + 1) s2.heap ∧ ∀ b ∈ fp, H' b = none) E s1) E s
  done : ∀ (X : Cx), X.prog = P → X.w = w → X.K = K → X.calm = true → ∀ (i : Nat) (pins : List (Addr × Obj)) (s : Shared) (σ : St) (H : Hp) (E : Value → Shared → Prop), Inv X pins σ H s → (∀ b ∈ fp, FpOk X pins H b) → tn i s.heap → J.stop i H →
    wpAny (model P w) X.A (pyNext (.ref it)) (fun r s1 => r = none ∧ Inv X pins σ H s1) E s
  self : ∀ (A : Around) (i : Nat) (s : Shared) (Q : Value → Shared → Prop) (E : Value → Shared → Prop), tn i s.heap → Q (.ref it) s → wpAny (model P w) A (pyIter (.ref it)) Q E s
abbrev TI := St → Hp → (It → Hp → Prop) → Prop
/-- an iterator has come -/
def PIE (X : Cx) (pins : List (Addr × Obj)) (σ : St) (tg : Expr) (R : It → Hp → Prop) (itv : Value) (s2 : Shared) : Prop :=
  ∃ (it : Addr) (fp : List Addr) (tn : Nat → Heap → Prop) (J : It) (H' : Hp), itv = .ref it ∧ Inv X pins σ H' s2 ∧ Turn X.prog X.w X.K tg J fp it tn ∧ tn 0 s2.heap ∧ (∀ b ∈ fp, FpOk X pins H' b) ∧ R J H'
def PI (X : Cx) (tg iter : Expr) (wi : TI) : Prop :=
  ∀ (pins : List (Addr × Obj)) (s : Shared) (σ : St) (H : Hp) (R : It → Hp → Prop), Inv X pins σ H s → wi σ H R →
    wpAny (model X.prog X.w) X.A (eval iter X.env) (fun v s1 => wpAny (model X.prog X.w) X.A (pyIter v) (PIE X pins σ tg R) X.xe s1) X.xe s

/-- the step ahead of the store is nothing for an iterator that keeps no tuple -/
theorem go_of {M : Model} {A : Around} {E : Value → Shared → Prop} {s : Shared} {tg : Expr} {it : Addr} {u : Value} {o : Obj} {n : String} {vs : Array Value} {Q : Unit → Shared → Prop} (ho : s.heap.get? it = some o) (hc : o.cls = .type n) (hd : o.data = .fields vs)
    (hn : ["enumerate", "zip", "dict_itemiterator", "dict_reverseitemiterator", "odict_iterator", "itertools.zip_longest", "itertools.pairwise"].contains n = false) (hQ : Q () s) : wpAny M A (letOwnedTupleGo tg (.ref it) u) Q E s := by
  unfold letOwnedTupleGo
  cases tg <;> first
    | exact wpAny_pure hQ
    | (cases u <;> first
        | exact wpAny_pure hQ
        | (refine wpAny_bind (wpAny_load ho ?_)
           rw [hc, hd]
           show wpAny M A (if (["enumerate", "zip", "dict_itemiterator", "dict_reverseitemiterator", "odict_iterator", "itertools.zip_longest", "itertools.pairwise"].contains n && vs[0]? == some (rawInt _)) = true then _ else _) Q E s
           rw [if_neg (by intro h; rw [hn, Bool.false_and] at h; cases h)]
           exact wpAny_pure hQ))

/-- the list at a, as it stands at each turn (a loop may append to it) -/
def Itl (K : PySem.W.Frag) (a : Addr) : It :=
  ⟨fun i H => ∃ xs x, SqL K H a xs ∧ xs[i]? = some x, fun i H x H' => H' = H ∧ ∀ xs, SqL K H a xs → xs[i]? = some x, fun i H => ∃ xs, SqL K H a xs ∧ xs.length ≤ i⟩
def Itt (K : PySem.W.Frag) (a : Addr) : It :=
  ⟨fun i H => ∃ xs x, SqT K H a xs ∧ xs[i]? = some x, fun i H x H' => H' = H ∧ ∀ xs, SqT K H a xs → xs[i]? = some x, fun i H => ∃ xs, SqT K H a xs ∧ xs.length ≤ i⟩
/-- lo, lo + 1, .. (n of them) -/
def Itr (lo : Int) (n : Nat) : It := ⟨fun i _ => i < n, fun i H x H' => H' = H ∧ x = .int (lo + i), fun i _ => n ≤ i⟩
theorem turn_list {P : Program} {w : World} {K : PySem.W.Frag} {tg : Expr} (a it : Addr) : Turn P w K tg (Itl K a) [it] it (fun i h => h.IsListIter it a i) where
  mem := by simp
  obj := fun i h st b hb => by
    have e : b = it := by simpa using hb
    subst e
    obtain ⟨o, e, c, d⟩ := st
    exact ⟨o, e, fun v z => by rw [d] at z; cases z⟩
  keep := fun i h h' st k => st.at fun o e => k it (by simp) o e
  item := by
    intro X hP hw hK hc i pins s σ H E I hf st hg
    subst hP hw hK
    obtain ⟨xs, x, hq, hx⟩ := hg
    obtain ⟨its, rv, p, hz⟩ := I.list hq
    obtain ⟨u, hu, ru⟩ := rv.get hx
    obtain ⟨f0, f1, f2, f3, f4, f5⟩ := hf it (by simp)
    refine wpAny_pyNext_list_item st p.isList (x := u) (by simpa using hu) fun h' st' sb => ?_
    have I1 : Inv X pins σ H { s with heap := h' } := I.turned (t' := s.toks) (fun b o hb e => (sb.2 b hb).trans e) f0 f1 f3 f4 f5
    obtain ⟨o, e, c, d⟩ := id st'
    exact ⟨u, rfl, go_of (s := { s with heap := h' }) e c d (by decide) ⟨x, H, I1, ru, ⟨rfl, fun ys hy => by rw [I.list_inj hy hq]; exact hx⟩, st', fun b hb => (hf b hb).1⟩⟩
  done := by
    intro X hP hw hK hc i pins s σ H E I hf st hg
    subst hP hw hK
    obtain ⟨xs, hq, hx⟩ := hg
    obtain ⟨its, rv, p, hz⟩ := I.list hq
    obtain ⟨f0, f1, f2, f3, f4, f5⟩ := hf it (by simp)
    have hl := rv.length
    exact wpAny_pyNext_list_end (I.ok.hd hc) st p.isList (by simp; omega) fun h' eb => ⟨rfl, I.turned (t' := s.toks) (fun b o hb e => eb b o hb e) f0 f1 f3 f4 f5⟩
  self := fun _ _ _ _ _ st h => wpAny_pyIter_listiter st h
theorem turn_tuple {P : Program} {w : World} {K : PySem.W.Frag} {tg : Expr} (a it : Addr) : Turn P w K tg (Itt K a) [it] it (fun i h => h.IsTupleIter it a i) where
  mem := by simp
  obj := fun i h st b hb => by
    have e : b = it := by simpa using hb
    subst e
    obtain ⟨o, e, c, d⟩ := st
    exact ⟨o, e, fun v z => by rw [d] at z; cases z⟩
  keep := fun i h h' st k => st.at fun o e => k it (by simp) o e
  item := by
    intro X hP hw hK hc i pins s σ H E I hf st hg
    subst hP hw hK
    obtain ⟨xs, x, hq, hx⟩ := hg
    obtain ⟨its, rv, p, hz⟩ := I.tuple hq
    obtain ⟨u, hu, ru⟩ := rv.get hx
    obtain ⟨f0, f1, f2, f3, f4, f5⟩ := hf it (by simp)
    refine wpAny_pyNext_tuple_item st (show s.heap.IsTuple a its.toArray from p) (x := u) (by simpa using hu) fun h' st' sb => ?_
    have I1 : Inv X pins σ H { s with heap := h' } := I.turned (t' := s.toks) (fun b o hb e => (sb.2 b hb).trans e) f0 f1 f3 f4 f5
    obtain ⟨o, e, c, d⟩ := id st'
    exact ⟨u, rfl, go_of (s := { s with heap := h' }) e c d (by decide) ⟨x, H, I1, ru, ⟨rfl, fun ys hy => by rw [I.tuple_inj hy hq]; exact hx⟩, st', fun b hb => (hf b hb).1⟩⟩
  done := by
    intro X hP hw hK hc i pins s σ H E I hf st hg
    subst hP hw hK
    obtain ⟨xs, hq, hx⟩ := hg
    obtain ⟨its, rv, p, hz⟩ := I.tuple hq
    obtain ⟨f0, f1, f2, f3, f4, f5⟩ := hf it (by simp)
    have hl := rv.length
    exact wpAny_pyNext_tuple_end (I.ok.hd hc) st (show s.heap.IsTuple a its.toArray from p) (by simp; omega) fun h' eb => ⟨rfl, I.turned (t' := s.toks) (fun b o hb e => eb b o hb e) f0 f1 f3 f4 f5⟩
  self := fun _ _ _ _ _ st h => wpAny_pyIter_tupleiter st h
theorem turn_range {P : Program} {w : World} {K : PySem.W.Frag} {tg : Expr} (it : Addr) (lo : Int) (n : Nat) : Turn P w K tg (Itr lo n) [it] it (fun i h => IsRangeIter h it (lo + (i : Nat) * 1) ((n : Int) - (i : Nat)) 1) where
  mem := by simp
  obj := fun i h st b hb => by
    have e : b = it := by simpa using hb
    subst e
    exact ⟨_, st, fun v z => by
      have z' : Data.fields _ = Data.cell v := z
      cases z'⟩
  keep := fun i h h' st k => k it (by simp) _ st
  item := by
    intro X hP hw hK hc i pins s σ H E I hf st hg
    subst hP hw hK
    obtain ⟨f0, f1, f2, f3, f4, f5⟩ := hf it (by simp)
    have W := Walks.range (prog := X.prog) (w := X.w) (I.ok.hd hc) it lo 1 n
    refine W.item i s _ _ hg st fun v h' tk hv st' kk => ?_
    obtain ⟨t, rfl⟩ := hv
    have I1 : Inv X pins σ H { s with heap := h', toks := tk } := I.turned (fun b o hb e => kk b o (by simpa using hb) e) f0 f1 f3 f4 f5
    refine ⟨_, rfl, go_of (s := { s with heap := h', toks := tk }) (n := "range_iterator") st' rfl rfl (by decide) ⟨.int (lo + i), H, I1, ⟨t, ?_⟩, ⟨rfl, rfl⟩, st', fun b hb => (hf b hb).1⟩⟩
    rw [Int.mul_one]
  done := by
    intro X hP hw hK hc i pins s σ H E I hf st hg
    subst hP hw hK
    obtain ⟨f0, f1, f2, f3, f4, f5⟩ := hf it (by simp)
    exact wpAny_pyNext_range_end (I.ok.hd hc) st (by have : n ≤ i := hg; omega) fun h' eb => ⟨rfl, I.turned (t' := s.toks) (fun b o hb e => eb b o hb e) f0 f1 f3 f4 f5⟩
  self := fun _ _ _ _ _ st h => wpAny_pyIter_rangeiter st h
end L2

namespace L2
open PySem PySem.Spec PyProof.Rows
section
variable {X : Cx} {tg : Expr}
/-- a range object just made, walked -/
theorem range_it {pins : List (Addr × Obj)} {σ : St} {H : Hp} {s : Shared} {R : It → Hp → Prop} {E : Value → Shared → Prop} {lo hi : Int} {t u v : Tok} {tk : Nat} (I : Inv X pins σ H s) (h1 : -(2 ^ 62) ≤ lo) (h2 : lo < 2 ^ 62) (h3 : -(2 ^ 62) ≤ hi) (h4 : hi < 2 ^ 62)
    (q : R (Itr lo (hi - lo).toNat) H) : wpAny (model X.prog X.w) X.A (pyIter (.ref s.heap.objs.size)) (PIE X pins σ tg R) E { s with heap := s.heap.push { cls := .type "range", data := .fields #[.int lo t, .int hi u, .int 1 v] }, toks := tk } := by
  refine wpAny_pyIter_range (IsRange.new ..) (small_one h1 h2 h3 h4) ?_
  have I1 : Inv X pins σ H { s with heap := s.heap.push { cls := .type "range", data := .fields #[.int lo t, .int hi u, .int 1 v] }, toks := tk } := I.kept fun b o e => Heap.get?_push_of_some _ e
  refine ⟨(s.heap.push { cls := .type "range", data := .fields #[.int lo t, .int hi u, .int 1 v] }).objs.size, [(s.heap.push { cls := .type "range", data := .fields #[.int lo t, .int hi u, .int 1 v] }).objs.size], _, _, H, rfl,
    I1.kept (t' := tk) fun b o e => Heap.get?_push_of_some _ e, turn_range _ lo (hi - lo).toNat, ?_, fun b hb => ?_, q⟩
  · have e1 : lo + ((0 : Nat) : Int) * 1 = lo := by simp
    have e2 : (((hi - lo).toNat : Nat) : Int) - ((0 : Nat) : Int) = Builtin.Range.rangeSize lo hi 1 := by rw [rangeSize_one]; split <;> omega
    show IsRangeIter _ _ (lo + ((0 : Nat) : Int) * 1) ((((hi - lo).toNat : Nat) : Int) - ((0 : Nat) : Int)) 1
    rw [e1, e2]
    exact Heap.get?_push_size _ rfl
  · have e : b = (s.heap.push { cls := .type "range", data := .fields #[.int lo t, .int hi u, .int 1 v] }).objs.size := by simpa using hb
    subst e
    exact I1.fpOk (Nat.le_refl _) (I1.hok.fresh (Nat.le_refl _))
/-! ### for -/
/-- W: the invariant by the turn and a measure; N: what the body is to reach -/
def tFor (wi : TI) (g : TG) (tb : TS) : TS := fun D σ H => wi σ H fun J H1 => ∃ W : Nat → Nat → St → Hp → Prop, (∃ m, W 0 m σ H1) ∧ ∀ i m σ H, W i m σ H →
  (J.stop i H ∧ D.nx σ H) ∨ (J.go i H ∧ ∃ N : St → Hp → Prop, (∀ σ' H', N σ' H' → ∃ m', m' < m ∧ W (i + 1) m' σ' H') ∧ ∀ x H', J.yld i H x H' → g x σ H' fun σ2 H2 => tb { D with nx := N, ct := N, bk := D.nx } σ2 H2)
/-- the records at fp as they stand -/
def pinsAt (fp : List Addr) (h : Heap) : List (Addr × Obj) := fp.filterMap fun b => (h.get? b).map fun o => (b, o)
theorem mem_pinsAt {fp : List Addr} {h : Heap} {b : Addr} {o : Obj} (hb : b ∈ fp) (e : h.get? b = some o) : (b, o) ∈ pinsAt fp h := List.mem_filterMap.mpr ⟨b, hb, by rw [e]; rfl⟩
theorem of_pinsAt {fp : List Addr} {h : Heap} {p : Addr × Obj} (hp : p ∈ pinsAt fp h) : p.1 ∈ fp ∧ h.get? p.1 = some p.2 := by
  obtain ⟨b, hb, e⟩ := List.mem_filterMap.mp hp
  cases q : h.get? b with
  | none => rw [q] at e; cases e
  | some o =>
    rw [q] at e
    have e' : (b, o) = p := Option.some.inj e
    subst e'
    exact ⟨hb, q⟩
theorem Inv.pinned {pins : List (Addr × Obj)} {σ : St} {H : Hp} {s : Shared} {fp : List Addr} (I : Inv X pins σ H s) (hf : ∀ b ∈ fp, FpOk X pins H b) (ho : ∀ b ∈ fp, ∃ o, s.heap.get? b = some o ∧ ∀ v, o.data ≠ .cell v) : Inv X (pins ++ pinsAt fp s.heap) σ H s :=
  I.pins_of fun p hp => (List.mem_append.mp hp).elim (fun z => I.pin p (List.mem_append_right _ z)) fun z => by
    obtain ⟨hb, e⟩ := of_pinsAt z
    obtain ⟨f0, f1, f2, _⟩ := hf p.1 hb
    obtain ⟨o, e', d⟩ := ho p.1 hb
    rw [e] at e'; cases e'
    exact ⟨e, f0, f1, f2, d⟩
theorem Inv.unpinned {pins pl : List (Addr × Obj)} {σ : St} {H : Hp} {s : Shared} (I : Inv X (pins ++ pl) σ H s) : Inv X pins σ H s := I.pins_of fun p hp => I.pin p (List.mem_append_right _ (List.mem_append_left _ hp))
theorem ps_for {iter : Expr} {body : List Stmt} {wi : TI} {g : TG} {tb : TS} {pos : Pos} (hp : PassesOwn (model X.prog X.w) X.A X.env X.xe) (hc : X.calm = true) (hi : PI X tg iter wi) (hg : PG X tg g) (hb : PSs X body tb)
    (hs : ∀ x, foldedSetIterable iter X.env x = pure x := by intro _; rfl) : PS X (.For tg iter body [] pos) (tFor wi g tb) := by
  intro pins s σ H D I h
  refine wpAny_For (thn (hi pins s σ H _ I h) fun v s1 h1 => thn h1 fun itv s2 h2 => ?_) hs
  obtain ⟨it, fp, tn, J, H2, e, I2, T, st2, f2, W, ⟨m0, w0⟩, turn⟩ := h2
  subst e
  -- what stays true of the iterator's objects through the loop
  have stat : ∀ {H' : Hp}, (∀ b ∈ fp, H' b = none) → ∀ b ∈ fp, FpOk X pins H' b := fun hn b hb => ⟨hn b hb, (f2 b hb).2⟩
  refine codeAny_forLoop_any (fun n s' => ∃ i σ' H', Inv X pins σ' H' s' ∧ tn i s'.heap ∧ (∀ b ∈ fp, H' b = none) ∧ W i n σ' H') ?_ m0 ⟨0, σ, H2, I2, st2, fun b hb => (f2 b hb).1, w0⟩
  rintro n s3 ⟨i, σ3, H3, I3, st3, fr3, w3⟩
  rcases turn i n σ3 H3 w3 with ⟨stop, qn⟩ | ⟨go, N, hN, step⟩
  · refine wpAny_passesOwn hp (thn (T.done X rfl rfl rfl hc i pins s3 σ3 H3 X.xe I3 (stat fr3) st3 stop) fun r s4 ⟨hr, I4⟩ => ?_)
    subst hr
    exact wpAny_execs_nil ⟨σ3, H3, I4, qn⟩
  · refine wpAny_passesOwn hp (thn (T.item X rfl rfl rfl hc i pins s3 σ3 H3 X.xe I3 (stat fr3) st3 go) fun r s4 ⟨u, hr, h4⟩ => ?_)
    subst hr
    refine wpAny_passesOwn hp (thn h4 fun _ s5 ⟨x, H5, I5, r5, y5, st5, fr5⟩ => ?_)
    have I5' := I5.pinned (stat fr5) (T.obj _ _ st5)
    refine wpAny_passesOwn hp (thn (hg _ s5 σ3 H5 x u _ I5' r5 (step x H5 y5)) fun _ s6 ⟨σ6, H6, I6, q6⟩ => ?_)
    refine wpAny_passesOwn hp (thn (hb _ s6 σ6 H6 _ I6 q6) fun f s7 q7 => ?_)
    have again : ∀ {σ7 : St} {H7 : Hp}, Inv X (pins ++ pinsAt fp s5.heap) σ7 H7 s7 → N σ7 H7 → ∃ m, m < n ∧ ∃ i σ' H', Inv X pins σ' H' s7 ∧ tn i s7.heap ∧ (∀ b ∈ fp, H' b = none) ∧ W i m σ' H' := fun {σ7 H7} I7 n7 => by
      obtain ⟨m', hm, w7⟩ := hN σ7 H7 n7
      refine ⟨m', hm, i + 1, σ7, H7, I7.unpinned, T.keep _ _ _ st5 fun b hb o e => (I7.pin (b, o) (List.mem_append_right _ (List.mem_append_right _ (mem_pinsAt hb e)))).1, fun b hb => ?_, w7⟩
      obtain ⟨o, e, d⟩ := T.obj _ _ st5 b hb
      exact (I7.pin (b, o) (List.mem_append_right _ (List.mem_append_right _ (mem_pinsAt hb e)))).2.1
    cases f with
    | next => obtain ⟨σ7, H7, I7, n7⟩ := q7; exact again I7 n7
    | cont => obtain ⟨σ7, H7, I7, n7⟩ := q7; exact again I7 n7
    | brk => obtain ⟨σ7, H7, I7, q7⟩ := q7; exact ⟨σ7, H7, I7.unpinned, q7⟩
    | ret v => obtain ⟨x7, σ7, H7, I7, r7, q7⟩ := q7; exact ⟨x7, σ7, H7, I7.unpinned, r7, q7⟩
end

/-! ### the forms one uses -/
/-- over a list that the body leaves as it is -/
theorem for_list {K : PySem.W.Frag} {a : Addr} {xs : List V} {g : TG} {tb : TS} {D : Ends} {σ : St} {H : Hp} (Pv : Nat → St → Hp → Prop) (h0 : Pv 0 σ H) (hl : ∀ i σ H, i ≤ xs.length → Pv i σ H → SqL K H a xs)
    (hs : ∀ i x σ H, xs[i]? = some x → Pv i σ H → g x σ H fun σ2 H2 => tb { D with nx := Pv (i + 1), ct := Pv (i + 1), bk := D.nx } σ2 H2) (hd : ∀ σ H, Pv xs.length σ H → D.nx σ H) :
    ∃ W : Nat → Nat → St → Hp → Prop, (∃ m, W 0 m σ H) ∧ ∀ i m σ H, W i m σ H →
      ((Itl K a).stop i H ∧ D.nx σ H) ∨ ((Itl K a).go i H ∧ ∃ N : St → Hp → Prop, (∀ σ' H', N σ' H' → ∃ m', m' < m ∧ W (i + 1) m' σ' H') ∧ ∀ x H', (Itl K a).yld i H x H' → g x σ H' fun σ2 H2 => tb { D with nx := N, ct := N, bk := D.nx } σ2 H2) := by
  refine ⟨fun i m σ H => m = xs.length - i ∧ i ≤ xs.length ∧ Pv i σ H, ⟨xs.length, by simp, Nat.zero_le _, h0⟩, ?_⟩
  rintro i m σ H ⟨rfl, hi, p⟩
  have q := hl i σ H hi p
  by_cases hlt : i < xs.length
  · refine .inr ⟨⟨xs, xs[i], q, by simp [hlt]⟩, Pv (i + 1), fun σ' H' p' => ⟨xs.length - (i + 1), by omega, rfl, hlt, p'⟩, fun x H' y => ?_⟩
    obtain ⟨e, y⟩ := y
    subst e
    exact hs i x σ _ (y xs q) p
  · have e : i = xs.length := by omega
    subst e
    exact .inl ⟨⟨xs, q, Nat.le_refl _⟩, hd σ H p⟩
theorem for_range {lo : Int} {n : Nat} {g : TG} {tb : TS} {D : Ends} {σ : St} {H : Hp} (Pv : Nat → St → Hp → Prop) (h0 : Pv 0 σ H)
    (hs : ∀ i σ H, i < n → Pv i σ H → g (.int (lo + i)) σ H fun σ2 H2 => tb { D with nx := Pv (i + 1), ct := Pv (i + 1), bk := D.nx } σ2 H2) (hd : ∀ σ H, Pv n σ H → D.nx σ H) :
    ∃ W : Nat → Nat → St → Hp → Prop, (∃ m, W 0 m σ H) ∧ ∀ i m σ H, W i m σ H →
      ((Itr lo n).stop i H ∧ D.nx σ H) ∨ ((Itr lo n).go i H ∧ ∃ N : St → Hp → Prop, (∀ σ' H', N σ' H' → ∃ m', m' < m ∧ W (i + 1) m' σ' H') ∧ ∀ x H', (Itr lo n).yld i H x H' → g x σ H' fun σ2 H2 => tb { D with nx := N, ct := N, bk := D.nx } σ2 H2) := by
  refine ⟨fun i m σ H => m = n - i ∧ i ≤ n ∧ Pv i σ H, ⟨n, by simp, Nat.zero_le _, h0⟩, ?_⟩
  rintro i m σ H ⟨rfl, hi, p⟩
  by_cases hlt : i < n
  · refine .inr ⟨hlt, Pv (i + 1), fun σ' H' p' => ⟨n - (i + 1), by omega, rfl, hlt, p'⟩, fun x H' y => ?_⟩
    obtain ⟨e, y⟩ := y
    subst e y
    exact hs i σ _ hlt p
  · have e : i = n := by omega
    subst e
    exact .inl ⟨Nat.le_refl _, hd σ H p⟩
end L2

namespace L2
open PySem PySem.Spec PyProof.Rows

abbrev R2 := V → V → Hp → VK → Prop
/-- a two-place operation on values: f is binaryOp op, inplaceOp op or compareOp op -/
def OpR (X : Cx) (f : Value → Value → Sem Value) (r : R2) : Prop :=
  ∀ (pins : List (Addr × Obj)) (s : Shared) (σ : St) (H : Hp) (x y : V) (v u : Value) (Q : VK), Inv X pins σ H s → RelV x v → RelV y u → r x y H Q →
    wpAny (model X.prog X.w) X.A (f v u) (EP X pins σ Q) X.xe s
/-- a call of a value that is known (a builtin, a type) with values -/
def CallR (X : Cx) (f : Value) (r : List V → Hp → VK → Prop) : Prop :=
  ∀ (pins : List (Addr × Obj)) (s : Shared) (σ : St) (H : Hp) (xs : List V) (us : List Value) (Q : VK), Inv X pins σ H s → Vals xs us → r xs H Q →
    wpAny (model X.prog X.w) X.A (call f us) (EP X pins σ Q) X.xe s
/-- a value's truth -/
def TruR (X : Cx) (r : V → Hp → (Bool → Hp → Prop) → Prop) : Prop :=
  ∀ (pins : List (Addr × Obj)) (s : Shared) (σ : St) (H : Hp) (x : V) (v : Value) (Q : Bool → Hp → Prop), Inv X pins σ H s → RelV x v → r x H Q →
    wpAny (model X.prog X.w) X.A (truthy v) (TP X pins σ Q) X.xe s

def tOp (r : R2) (ta tb : TE) : TE := fun σ H Q => ta σ H fun x H1 => tb σ H1 fun y H2 => r x y H2 Q
/-- ints in, under C, and a value out -/
def rI (C : Int → Int → Prop) (g : Int → Int → V) : R2 := fun x y H Q => ∃ i j, x = .int i ∧ y = .int j ∧ C i j ∧ Q (g i j) H
def rI0 (g : Int → Int → V) : R2 := fun x y H Q => ∃ i j, x = .int i ∧ y = .int j ∧ Q (g i j) H
section
variable {X : Cx} {a b c : Expr} {ta tb tc : TE} {pos : Pos}

theorem binT (ha : PE X a ta) (hb : PE X b tb) {pins : List (Addr × Obj)} {s : Shared} {σ : St} {H : Hp} {R : V → V → Hp → Prop} (I : Inv X pins σ H s)
    (h : ta σ H fun x H1 => tb σ H1 fun y H2 => R x y H2) {Q : Value → Shared → Prop} {f : Value → Value → Sem Value}
    (hf : ∀ v u s2 x y H2, Inv X pins σ H2 s2 → RelV x v → RelV y u → R x y H2 → wpAny (model X.prog X.w) X.A (f v u) Q X.xe s2) :
    wpAny (model X.prog X.w) X.A (eval a X.env) (fun v s₁ => wpAny (model X.prog X.w) X.A (eval b X.env) (fun u s₂ => wpAny (model X.prog X.w) X.A (f v u) Q X.xe s₂) X.xe s₁) X.xe s := by
  refine thn (ha pins s σ H _ I h) fun v s1 ⟨x, H1, I1, r1, q1⟩ => ?_
  refine thn (hb pins s1 σ H1 _ I1 q1) fun u s2 ⟨y, H2, I2, r2, q2⟩ => ?_
  exact hf v u s2 x y H2 I2 r1 r2 q2

theorem pe_op {op : Operator} {r : R2} (ho : OpR X (binaryOp op) r) (ha : PE X a ta) (hb : PE X b tb) : PE X (.BinOp a op b pos) (tOp r ta tb) := by
  intro pins s σ H Q I h
  exact wpAny_BinOp (binT ha hb I h fun v u s2 x y H2 I2 rx ry q => ho pins s2 σ H2 x y v u Q I2 rx ry q)
/-! ### ints -/
theorem opI {f : Value → Value → Sem Value} {C : Int → Int → Prop} {g : Int → Int → Int}
    (rule : ∀ (i j : Int) (t u : Tok) (s : Shared) (Q : Value → Shared → Prop) (E : Value → Shared → Prop), C i j → Q (.int (g i j) s.toks) { s with toks := s.toks + 1 } → wpAny (model X.prog X.w) X.A (f (.int i t) (.int j u)) Q E s) :
    OpR X f (rI C fun i j => .int (g i j)) := by
  intro pins s σ H x y v u Q I rx ry h
  obtain ⟨i, j, rfl, rfl, hc, q⟩ := h
  obtain ⟨t, rfl⟩ := rx
  obtain ⟨t', rfl⟩ := ry
  exact rule i j t t' s _ _ hc ⟨.int (g i j), H, I.tok _, ⟨_, rfl⟩, q⟩
theorem opI0 {f : Value → Value → Sem Value} {g : Int → Int → Int}
    (rule : ∀ (i j : Int) (t u : Tok) (s : Shared) (Q : Value → Shared → Prop) (E : Value → Shared → Prop), Q (.int (g i j) s.toks) { s with toks := s.toks + 1 } → wpAny (model X.prog X.w) X.A (f (.int i t) (.int j u)) Q E s) :
    OpR X f (rI0 fun i j => .int (g i j)) := by
  intro pins s σ H x y v u Q I rx ry h
  obtain ⟨i, j, rfl, rfl, q⟩ := h
  obtain ⟨t, rfl⟩ := rx
  obtain ⟨t', rfl⟩ := ry
  exact rule i j t t' s _ _ ⟨.int (g i j), H, I.tok _, ⟨_, rfl⟩, q⟩
theorem opB0 {f : Value → Value → Sem Value} {g : Int → Int → Bool}
    (rule : ∀ (i j : Int) (t u : Tok) (s : Shared) (Q : Value → Shared → Prop) (E : Value → Shared → Prop), Q (.bool (g i j)) s → wpAny (model X.prog X.w) X.A (f (.int i t) (.int j u)) Q E s) :
    OpR X f (rI0 fun i j => .bl (g i j)) := by
  intro pins s σ H x y v u Q I rx ry h
  obtain ⟨i, j, rfl, rfl, q⟩ := h
  obtain ⟨t, rfl⟩ := rx
  obtain ⟨t', rfl⟩ := ry
  exact rule i j t t' s _ _ ⟨.bl (g i j), H, I, rfl, q⟩

def CPow (i j : Int) : Prop := 0 ≤ j ∧ j ≤ 1000000 ∧ i.natAbs < 2 ^ 64
theorem op_add : OpR X (binaryOp .Add) (rI0 fun i j => .int (i + j)) := opI0 fun _ _ _ _ _ _ _ q => add_int q
theorem op_sub : OpR X (binaryOp .Sub) (rI0 fun i j => .int (i - j)) := opI0 fun _ _ _ _ _ _ _ q => sub_int q
theorem op_modN : OpR X (binaryOp .Mod) (rI (fun _ j => j ≠ 0) fun i j => .int (i.fmod j)) := opI fun _ _ _ _ _ _ _ hc q => mod_int' hc q
theorem op_pow : OpR X (binaryOp .Pow) (rI CPow fun i j => .int (i ^ j.toNat)) := opI fun _ _ _ _ _ _ _ hc q => pow_int_small hc.1 hc.2.1 hc.2.2 q
/-! ### bools among ints: n += (a < b) -/
end

/-! ### comparisons -/
/-- the scalars that == tells apart as data does -/
def scal : V → V → Bool
  | .non, .non => true | .non, .int _ => true | .int _, .non => true | .non, .bl _ => true | .bl _, .non => true | .non, .str _ => true | .str _, .non => true
  | .int _, .int _ => true | .bl _, .bl _ => true | .str _, .str _ => true | .byt _, .byt _ => true
  | .int _, .str _ => true | .str _, .int _ => true | .bl _, .str _ => true | .str _, .bl _ => true
  | _, _ => false
def rEq : R2 := fun x y H Q => scal x y = true ∧ Q (.bl (decide (x = y))) H
def rNe : R2 := fun x y H Q => scal x y = true ∧ Q (.bl (!decide (x = y))) H

theorem dec_int {i j : Int} : decide (V.int i = V.int j) = (i == j) := by
  rw [Bool.eq_iff_iff]
  simp
theorem dec_bl {i j : Bool} : decide (V.bl i = V.bl j) = (i == j) := by
  rw [Bool.eq_iff_iff]
  simp
theorem dec_str {i j : Str} : decide (V.str i = V.str j) = (i == j) := by
  rw [Bool.eq_iff_iff]
  simp
theorem dec_byt {i j : Array UInt8} : decide (V.byt i = V.byt j) = (i.toList == j.toList) := by
  rw [Bool.eq_iff_iff]
  cases i
  cases j
  simp

section
variable {X : Cx} {a b c : Expr} {ta tb tc : TE} {pos : Pos}
theorem fin_bl {pins : List (Addr × Obj)} {σ : St} {H : Hp} {s : Shared} {Q : VK} {k k' : Bool} (I : Inv X pins σ H s) (q : Q (.bl k) H) (e : k = k') : EP X pins σ Q (.bool k') s := by
  subst e
  exact ⟨.bl k, H, I, rfl, q⟩
theorem op_eq : OpR X (compareOp .Eq) rEq := by
  intro pins s σ H x y v u Q I rx ry h
  obtain ⟨hs, q⟩ := h
  cases x with
  | non =>
    cases rx
    cases y with
    | non => cases ry; exact PySem.EqNone.eq_none_none (fin_bl I q (by simp))
    | bl j => cases ry; exact PySem.EqNone.eq_none_bool (fin_bl I q (by simp))
    | int j => obtain ⟨t', rfl⟩ := ry; exact PySem.EqNone.eq_none_int (fin_bl I q (by simp))
    | str j => obtain ⟨t', rfl⟩ := ry; exact PySem.EqNone.eq_none_str (fin_bl I q (by simp))
    | _ => exact absurd (show false = true from hs) Bool.false_ne_true
  | bl i =>
    cases rx
    cases y with
    | non => cases ry; exact PySem.EqNone.eq_bool_none (fin_bl I q (by simp))
    | bl j => cases ry; exact eq_bool (fin_bl I q dec_bl)
    | str j => obtain ⟨t', rfl⟩ := ry; exact PySem.EqMixed.eq_bool_str (fin_bl I q (by simp))
    | _ => exact absurd (show false = true from hs) Bool.false_ne_true
  | int i =>
    obtain ⟨t, rfl⟩ := rx
    cases y with
    | non => cases ry; exact PySem.EqNone.eq_int_none (fin_bl I q (by simp))
    | int j => obtain ⟨t', rfl⟩ := ry; exact eq_int (fin_bl I q dec_int)
    | str j => obtain ⟨t', rfl⟩ := ry; exact PySem.EqMixed.eq_int_str (fin_bl I q (by simp))
    | _ => exact absurd (show false = true from hs) Bool.false_ne_true
  | str i =>
    obtain ⟨t, rfl⟩ := rx
    cases y with
    | non => cases ry; exact PySem.EqNone.eq_str_none (fin_bl I q (by simp))
    | bl j => cases ry; exact PySem.EqMixed.eq_str_bool (fin_bl I q (by simp))
    | int j => obtain ⟨t', rfl⟩ := ry; exact PySem.EqMixed.eq_str_int (fin_bl I q (by simp))
    | str j => obtain ⟨t', rfl⟩ := ry; exact eq_str (fin_bl I q dec_str)
    | _ => exact absurd (show false = true from hs) Bool.false_ne_true
  | byt i =>
    obtain ⟨t, rfl⟩ := rx
    cases y with
    | byt j => obtain ⟨t', rfl⟩ := ry; exact PySem.W.eq_bytes (fin_bl I q dec_byt)
    | _ => exact absurd (show false = true from hs) Bool.false_ne_true
  | _ => cases y <;> exact absurd (show false = true from hs) Bool.false_ne_true
theorem op_ne : OpR X (compareOp .NotEq) rNe := by
  intro pins s σ H x y v u Q I rx ry h
  obtain ⟨hs, q⟩ := h
  cases x with
  | non =>
    cases rx
    cases y with
    | non => cases ry; exact PySem.EqNone.ne_none_none (fin_bl I q (by simp))
    | bl j => cases ry; exact PySem.EqNone.ne_none_bool (fin_bl I q (by simp))
    | int j => obtain ⟨t', rfl⟩ := ry; exact PySem.EqNone.ne_none_int (fin_bl I q (by simp))
    | str j => obtain ⟨t', rfl⟩ := ry; exact PySem.EqNone.ne_none_str (fin_bl I q (by simp))
    | _ => exact absurd (show false = true from hs) Bool.false_ne_true
  | bl i =>
    cases rx
    cases y with
    | non => cases ry; exact PySem.EqNone.ne_bool_none (fin_bl I q (by simp))
    | bl j => cases ry; exact ne_bool (fin_bl I q (congrArg not dec_bl))
    | str j => obtain ⟨t', rfl⟩ := ry; exact PySem.EqMixed.ne_bool_str (fin_bl I q (by simp))
    | _ => exact absurd (show false = true from hs) Bool.false_ne_true
  | int i =>
    obtain ⟨t, rfl⟩ := rx
    cases y with
    | non => cases ry; exact PySem.EqNone.ne_int_none (fin_bl I q (by simp))
    | int j => obtain ⟨t', rfl⟩ := ry; exact ne_int (fin_bl I q (congrArg not dec_int))
    | str j => obtain ⟨t', rfl⟩ := ry; exact PySem.EqMixed.ne_int_str (fin_bl I q (by simp))
    | _ => exact absurd (show false = true from hs) Bool.false_ne_true
  | str i =>
    obtain ⟨t, rfl⟩ := rx
    cases y with
    | non => cases ry; exact PySem.EqNone.ne_str_none (fin_bl I q (by simp))
    | bl j => cases ry; exact PySem.EqMixed.ne_str_bool (fin_bl I q (by simp))
    | int j => obtain ⟨t', rfl⟩ := ry; exact PySem.EqMixed.ne_str_int (fin_bl I q (by simp))
    | str j => obtain ⟨t', rfl⟩ := ry; exact ne_str (fin_bl I q (congrArg not dec_str))
    | _ => exact absurd (show false = true from hs) Bool.false_ne_true
  | byt i =>
    obtain ⟨t, rfl⟩ := rx
    cases y with
    | byt j => obtain ⟨t', rfl⟩ := ry; exact PySem.W.ne_bytes (fin_bl I q (congrArg not dec_byt))
    | _ => exact absurd (show false = true from hs) Bool.false_ne_true
  | _ => cases y <;> exact absurd (show false = true from hs) Bool.false_ne_true

theorem op_lt : OpR X (compareOp .Lt) (rI0 fun i j => .bl (decide (i < j))) := opB0 fun _ _ _ _ _ _ _ q => lt_int q
theorem op_le : OpR X (compareOp .LtE) (rI0 fun i j => .bl (decide (i ≤ j))) := opB0 fun _ _ _ _ _ _ _ q => le_int q
theorem op_gt : OpR X (compareOp .Gt) (rI0 fun i j => .bl (decide (j < i))) := opB0 fun _ _ _ _ _ _ _ q => gt_int q
theorem op_ge : OpR X (compareOp .GtE) (rI0 fun i j => .bl (decide (j ≤ i))) := opB0 fun _ _ _ _ _ _ _ q => ge_int q
theorem op_notN : OpR X (compareOp .IsNot) (fun x y H Q => y = .non ∧ Q (.bl (!decide (x = .non))) H) := by
  intro pins s σ H x y v u Q I rx ry h
  obtain ⟨rfl, q⟩ := h
  cases ry
  refine isnot_none_gen (fin_bl I q ?_)
  cases x <;> first
    | (cases rx; rfl)
    | (obtain ⟨t, rfl⟩ := rx; rfl)

/-- two rules for one operation: by cases -/
theorem OpR.or {f : Value → Value → Sem Value} {r r' : R2} (h : OpR X f r) (h' : OpR X f r') : OpR X f (fun x y H Q => r x y H Q ∨ r' x y H Q) := by
  intro pins s σ H x y v u Q I rx ry q
  rcases q with q | q
  · exact h pins s σ H x y v u Q I rx ry q
  · exact h' pins s σ H x y v u Q I rx ry q

theorem nomark (b : Expr) {op : CmpOp} (h : op ≠ .In := by decide) (h2 : op ≠ .NotIn := by decide) : behindInMarks op b = false := by
  have e1 : (op == CmpOp.In) = false := by cases op <;> first | rfl | exact absurd rfl h
  have e2 : (op == CmpOp.NotIn) = false := by cases op <;> first | rfl | exact absurd rfl h2
  cases b <;> simp [behindInMarks, e1, e2]
/-- a comparison as a value; hm: nomark b, or (for in, not in) by with_unfolding_all rfl -/
theorem pe_cmpR {op : CmpOp} {r : R2} (ho : OpR X (compareOp op) r) (ha : PE X a ta) (hb : PE X b tb) (hm : behindInMarks op b = false) : PE X (.Compare a [op] [b] pos) (tOp r ta tb) := by
  intro pins s σ H Q I h
  exact wpAny_Compare1 (binT ha hb I h fun v u s2 x y H2 I2 rx ry q => ho pins s2 σ H2 x y v u Q I2 rx ry q) hm
/-! ### truth -/
/-- a value's truth by the abstract heap -/
def TruV (K : PySem.W.Frag) (x : V) (H : Hp) (k : Bool) : Prop :=
  match x with
  | .non => k = false
  | .bl b => k = b
  | .int i => k = (i != 0)
  | .str y => y.length ≤ sizeLine ∧ k = ((y.length : Int) != 0)
  | .byt y => y.size ≤ sizeLine ∧ k = ((y.size : Int) != 0)
  | .ref p => (∃ xs, SqL K H p xs ∧ k = !xs.isEmpty) ∨ (∃ xs, SqT K H p xs ∧ k = !xs.isEmpty) ∨ ∃ kvs, H p = some (.dK kvs) ∧ k = !kvs.isEmpty
  | _ => False
theorem isEmpty_kv {κ : Type} {kvs : List (κ × V)} {vs : List (κ × Value)} (r : KV kvs vs) : (!vs.isEmpty) = !kvs.isEmpty := by
  cases r <;> rfl
theorem isEmpty_of {xs : List V} {its : List Value} (r : Vals xs its) : (!its.toArray.isEmpty) = !xs.isEmpty := by
  cases r <;> simp
theorem line63 : (sizeLine : Nat) < 2 ^ 63 := by rw [sizeLine_eq]; decide
theorem tru_ok : TruR X (fun x H Q => ∃ k, TruV X.K x H k ∧ Q k H) := by
  intro pins s σ H x v Q I rx h
  obtain ⟨k, e, q⟩ := h
  have hl := line63
  have hs : sizeLine = 16777216 := sizeLine_eq
  cases x with
  | non =>
    cases rx
    have e' : k = false := e
    subst e'
    exact truthy_none ⟨H, I, q⟩
  | bl b =>
    cases rx
    have e' : k = b := e
    subst e'
    exact wpAny_truthy_bool ⟨H, I, q⟩
  | int i =>
    obtain ⟨t, rfl⟩ := rx
    have e' : k = (i != 0) := e
    subst e'
    exact PySem.P.truthy_int ⟨H, I, q⟩
  | str y =>
    obtain ⟨t, rfl⟩ := rx
    obtain ⟨hy, e'⟩ : y.length ≤ sizeLine ∧ k = ((y.length : Int) != 0) := e
    subst e'
    exact PySem.P.truthy_str (by omega) ⟨H, I.tok _, q⟩
  | byt y =>
    obtain ⟨t, rfl⟩ := rx
    obtain ⟨hy, e'⟩ : y.size ≤ sizeLine ∧ k = ((y.size : Int) != 0) := e
    subst e'
    exact PySem.W.truthy_bytes (by omega) ⟨H, I.tok _, q⟩
  | ref p =>
    cases rx
    have e' : (∃ xs, SqL X.K H p xs ∧ k = !xs.isEmpty) ∨ (∃ xs, SqT X.K H p xs ∧ k = !xs.isEmpty) ∨ ∃ kvs, H p = some (.dK kvs) ∧ k = !kvs.isEmpty := e
    rcases e' with ⟨xs, hx, e'⟩ | ⟨xs, hx, e'⟩ | ⟨kvs, hx, e'⟩
    · subst e'
      obtain ⟨its, r, pl, hz⟩ := I.list hx
      have hlen := r.length
      exact wpAny_truthy_list pl.isList (by simp only [List.size_toArray]; omega) ⟨H, I.tok _, by rw [isEmpty_of r]; exact q⟩
    · subst e'
      obtain ⟨its, r, pl, hz⟩ := I.tuple hx
      have hlen := r.length
      exact truthy_tuple pl (by simp only [List.size_toArray]; omega) ⟨H, I.tok _, by rw [isEmpty_of r]; exact q⟩
    · subst e'
      obtain ⟨hz, hS, vs, r, m⟩ : kvs.length ≤ sizeLine ∧ (p == sysModules) = false ∧ ∃ vs, KV kvs vs ∧ s.heap.DictOf (mixKind X.prog X.w) p vs := I.hok p _ hx
      have hlen : kvs.length = vs.length := Paired.length r
      exact wpAny_truthy_dict hS m (by omega) ⟨H, I.tok _, by rw [isEmpty_kv r]; exact q⟩
  | _ => exact (show False from e).elim
/-! ### strs and bytes -/
theorem op_add_str : OpR X (binaryOp .Add) (fun x y H Q => ∃ i j, x = .str i ∧ y = .str j ∧ i.length + j.length ≤ sizeLine ∧ Q (.str (i ++ j)) H) := by
  intro pins s σ H x y v u Q I rx ry h
  obtain ⟨i, j, rfl, rfl, hz, q⟩ := h
  obtain ⟨t, rfl⟩ := rx
  obtain ⟨t', rfl⟩ := ry
  exact add_str (fun t' tk => ⟨.str (i ++ j), H, I.tok _, ⟨_, rfl⟩, q⟩) hz
/-! ### scalar builtins, by CallR -/
theorem vals1 {x : V} {us : List Value} (r : Vals [x] us) : ∃ u, us = [u] ∧ RelV x u := by
  cases r with
  | cons r1 r2 => cases r2; exact ⟨_, rfl, r1⟩
theorem vals2 {x y : V} {us : List Value} (r : Vals [x, y] us) : ∃ u w', us = [u, w'] ∧ RelV x u ∧ RelV y w' := by
  cases r with
  | cons r1 r2 =>
    cases r2 with
    | cons r3 r4 => cases r4; exact ⟨_, _, rfl, r1, r3⟩
theorem call_min2 (hc : X.calm = true) : CallR X (.builtin "min") (fun xs H Q => ∃ i j, xs = [.int i, .int j] ∧ Q (.int (if j < i then j else i)) H) := by
  intro pins s σ H xs us Q I r h
  obtain ⟨i, j, rfl, q⟩ := h
  obtain ⟨u, w', rfl, ⟨t, rfl⟩, ⟨t', rfl⟩⟩ := vals2 r
  refine min_two_ints (I.ok.hd hc) fun h' tk k => ⟨_, H, I.kept k, ?_, q⟩
  by_cases hj : j < i
  · rw [if_pos hj, if_pos hj]; exact ⟨_, rfl⟩
  · rw [if_neg hj, if_neg hj]; exact ⟨_, rfl⟩
end
end L2

namespace L2
open PySem PySem.Spec PyProof.Rows

/-! ### an instance, its attributes a map -/
structure ObjM (h : Heap) (x dx C : Addr) (mA : Str → Option Value) : Prop where
  obj : h.get? x = some (PySem.W.instObj C dx)
  ns : h.Ns1 dx mA
  ne : dx ≠ x

theorem lookIn_ns {h : Heap} {dx : Addr} {mA : Str → Option Value} (n : h.Ns1 dx mA) : ∃ od, h.get? dx = some od ∧ ∀ name, PySem.W.lookIn name od = some (mA name) := by
  obtain ⟨o, es, ep, ho, hd, hk, _, hm⟩ := n
  refine ⟨o, ho, fun name => ?_⟩
  have e := hm name
  unfold nsFind findBy at e
  rw [← Array.find?_toList] at e
  unfold PySem.W.lookIn
  rw [hd]
  dsimp only
  split
  · rename_i y q
    rw [q] at e
    exact congrArg some e
  · rename_i q
    rw [q] at e
    have a : es.toList.any (·.refKey) = false := by
      rw [List.any_eq_false]
      intro y hy
      obtain ⟨z, t, hkey⟩ := hk y (Array.mem_toList_iff.mp hy)
      simp [DictEntry.refKey, hkey]
    have a' : ¬ es.toList.any (·.refKey) = true := by rw [a]; exact Bool.false_ne_true
    rw [if_neg a']
    exact congrArg some e

theorem ObjM.look {h : Heap} {x dx C : Addr} {mA : Str → Option Value} (I : ObjM h x dx C mA) : ∃ od, PySem.W.InstAt h x (PySem.W.instObj C dx) C (some od) ∧ ∀ name, PySem.W.lookIn name od = some (mA name) :=
  let ⟨od, ho, hl⟩ := lookIn_ns I.ns
  ⟨od, ⟨I.obj, rfl, rfl, ho⟩, hl⟩

section
variable {prog : Program} {w : World} {A : Around} {E : Value → Shared → Prop} {s : Shared} {K : PySem.W.Frag} {x dx C f : Addr} {mA : Str → Option Value} {name : Str} {v : Value}

end

/-! ### the attributes as a list of pairs -/
section
variable {P : Program} {w : World} {H H' : Hp} {h h' : Heap} {a C dx : Addr} {fs fs' : List (Str × V)}
theorem ins_get (hok : HOk P w H h) (e : H a = some (.ins C dx fs)) : ∃ mA, ObjM h a dx C mA ∧ (∀ f, RelO (fs.lookup f) (mA f)) ∧ PySem.Within mA (fs.map (·.1)) ∧ fs.length ≤ 1000 ∧ H dx = some (.own a) := by
  obtain ⟨d, z, ne, ob, mA, n, r, q⟩ := (show ObjOk P w H h a (.ins C dx fs) from hok a _ e)
  exact ⟨mA, ⟨ob, n, ne⟩, r, q, z, d⟩
end

/-! ### what of the text a class must have -/
structure Cls (K : PySem.W.Frag) (C : Addr) : Prop where
  pg : PySem.W.plainGet K C Str.empty = true
  hd : PySem.W.hasDictIn K C = true
  po : PySem.W.plainOver K C = true
  sa : PySem.W.findIn K (.ref C) "__setattr__" = some (some (.builtin "object.__setattr__"))
theorem Cls.get {K : PySem.W.Frag} {C : Addr} (c : Cls K C) (f : Str) : PySem.W.plainGet K C f = true := c.pg
section
variable {X : Cx} {pins : List (Addr × Obj)} {σ : St} {H : Hp} {s : Shared} {a C dx : Addr} {fs : List (Str × V)} {f : Str} {v : V} {A : Around} {E : Value → Shared → Prop}

end

/-! ### readings and rules -/
section
variable {X : Cx} {o e value : Expr} {f : Str} {pos pos' tpos : Pos} {ta tv : TE}
end

/-! ### isinstance -/
section
variable {X : Cx} {pins : List (Addr × Obj)} {σ : St} {H : Hp} {s : Shared} {A : Around} {E : Value → Shared → Prop} {Q : Value → Shared → Prop} {c : Value} {b : Bool}
/-- the type of a value, as the fragment's deciders take it; for an instance its class -/
inductive TyOf (K : PySem.W.Frag) (H : Hp) : V → Value → Prop where
  | non : TyOf K H .non (.type "NoneType")
  | bl (x : Bool) : TyOf K H (.bl x) (.type "bool")
  | int (i : Int) : TyOf K H (.int i) (.type "int")
  | str (x : Str) : TyOf K H (.str x) (.type "str")
  | flt (x : UInt64) : TyOf K H (.flt x) (.type "float")
  | lst {a : Addr} {xs : List V} (e : H a = some (.lst xs)) : TyOf K H (.ref a) (.type "list")
  | frz {a : Addr} {o : Obj} {xs : List V} (e : H a = some (.frz o (.lst xs))) : TyOf K H (.ref a) (.type "list")
  | tup {a : Addr} {xs : List V} (e : H a = some (.tup xs)) : TyOf K H (.ref a) (.type "tuple")
  | dK {a : Addr} {kvs : List (Key × V)} (e : H a = some (.dK kvs)) : TyOf K H (.ref a) (.type "dict")
  | dT {a : Addr} {kvs : List (List Key × V)} (e : H a = some (.dT kvs)) : TyOf K H (.ref a) (.type "dict")
  | ins {a C dx : Addr} {fs : List (Str × V)} (e : H a = some (.ins C dx fs)) (cl : Cls K C) (ha : PySem.W.findIn K (.ref C) "__class__" = some (some (.builtin "object.__class__")))
      (hn : PySem.W.specialIn K (.builtin "object.__class__") "__get__" = some (some (.builtin "getset_descriptor.__get__"))) (htk : PySem.W.takesIn K (.builtin "object.__class__") = some true)
      (hm : PySem.W.mroIn K C (.type "object") = some true) : TyOf K H (.ref a) (.ref C)
/-- isinstance(x, c) for one class c, a built-in or an own one: kitOne's answer -/
theorem isinst_ok {x : V} {u t : Value} (I : Inv X pins σ H s) (rx : RelV x u) (ty : TyOf X.K H x t) (e : PySem.W.kitOne X.K t c = some b) (h : ∀ tk, Q (.bool b) { s with toks := tk }) :
    wpAny (model X.prog X.w) A (call (.builtin "isinstance") [u, c]) Q E s := by
  cases ty with
  | non => cases (show u = Value.none from rx); exact PySem.W.kia_one PySem.W.kitx_none I.kIn True.intro e (fun z => nomatch z) h
  | bl y => cases (show u = Value.bool y from rx); exact PySem.W.kia_one PySem.W.kitx_bool I.kIn True.intro e (fun z => nomatch z) h
  | int i => obtain ⟨t, q⟩ := (show ∃ t, u = Value.int i t from rx); cases q; exact PySem.W.kia_one PySem.W.kitx_int I.kIn True.intro e (fun z => nomatch z) h
  | str y => obtain ⟨t, q⟩ := (show ∃ t, u = Value.str y t from rx); cases q; exact PySem.W.kia_one PySem.W.kitx_str I.kIn True.intro e (fun z => nomatch z) h
  | flt y => obtain ⟨t, q⟩ := (show ∃ t, u = Value.float y t from rx); cases q; exact PySem.W.kia_one PySem.W.kitx_float I.kIn True.intro e (fun z => nomatch z) h
  | @lst a xs ea =>
    cases (show u = Value.ref a from rx)
    obtain ⟨_, _, n, _, h1⟩ := (show ObjOk X.prog X.w H s.heap a (.lst xs) from I.hok a _ ea)
    exact PySem.W.kia_one PySem.W.kitx_list I.kIn ⟨_, h1, rfl⟩ e (fun z => nomatch z) h
  | @frz a ob xs ea =>
    cases (show u = Value.ref a from rx)
    obtain ⟨_, _, _, n, _, h1⟩ := (show ObjOk X.prog X.w H s.heap a (.frz ob (.lst xs)) from I.hok a _ ea)
    exact PySem.W.kia_one PySem.W.kitx_list I.kIn ⟨_, h1, rfl⟩ e (fun z => nomatch z) h
  | @tup a xs ea =>
    cases (show u = Value.ref a from rx)
    obtain ⟨_, _, _, p⟩ := (show ObjOk X.prog X.w H s.heap a (.tup xs) from I.hok a _ ea)
    obtain ⟨o, h1, h2, _⟩ := p
    exact PySem.W.kia_one PySem.W.kitx_tuple I.kIn ⟨o, h1, h2⟩ e (fun z => nomatch z) h
  | @dK a kvs ea =>
    cases (show u = Value.ref a from rx)
    obtain ⟨_, _, vs, _, p⟩ := (show ObjOk X.prog X.w H s.heap a (.dK kvs) from I.hok a _ ea)
    obtain ⟨o, es, ep, h1, h2, _⟩ := p
    exact PySem.W.kia_one PySem.W.kitx_dict I.kIn ⟨o, h1, h2.1⟩ e (fun z => nomatch z) h
  | @dT a kvs ea =>
    cases (show u = Value.ref a from rx)
    obtain ⟨_, _, xs, _, o, es, ep, h1, h2, _⟩ := (show ObjOk X.prog X.w H s.heap a (.dT kvs) from I.hok a _ ea)
    exact PySem.W.kia_one PySem.W.kitx_dict I.kIn ⟨o, h1, h2.1⟩ e (fun z => nomatch z) h
  | @ins a C dx fs ea cl ha hn htk hm =>
    cases (show u = Value.ref a from rx)
    obtain ⟨mA, O, _⟩ := ins_get I.hok ea
    obtain ⟨od, J, _⟩ := O.look
    exact PySem.W.kia_one (PySem.W.kitx_own (cl.get _) cl.hd ha hn htk hm) I.kIn J e (fun z => nomatch z) h
end
end L2

namespace L2
open PySem PySem.Spec PyProof.Rows

/-! ### room -/
structure Room (k : Nat) (A : Around) : Prop where
  hd : A.handled = none
  dp : A.depth + 3 * k + 5 < recursionLimit
  un : A.units + 16 * k + 200 < cLine
  gd : A.guards = some []
theorem Room.mono {j k : Nat} {A : Around} (r : Room k A) (h : j ≤ k) : Room j A := ⟨r.hd, by have := r.dp; omega, by have := r.un; omega, r.gd⟩
theorem Room.deeper {k : Nat} {A : Around} (r : Room (k + 1) A) (env : Env) : Room k (A.deeper env) :=
  ⟨r.hd, by have := r.dp; show A.depth + 1 + 3 * k + 5 < _; omega, by have := r.un; show A.units + 3 + 16 * k + 200 < _; omega, r.gd⟩
theorem Room.depth {k : Nat} {A : Around} (r : Room k A) : A.depth < recursionLimit := by have := r.dp; omega
theorem Room.units {k : Nat} {A : Around} (r : Room k A) : A.units + 64 < cLine := by have := r.un; omega
/-! ### argument lists and displays -/
def tNil : TA := fun _ H Q => Q [] H
def tCons (ta : TE) (tr : TA) : TA := fun σ H Q => ta σ H fun x H1 => tr σ H1 fun xs H2 => Q (x :: xs) H2
section
variable {X : Cx} {e : Expr} {es : List Expr} {te : TE} {t : TA} {pos : Pos}
theorem pa_nil : PA X [] tNil := fun _ _ _ _ H Q I h => Calls.spliced_nil ⟨[], H, I, .nil, h⟩
theorem pa_cons (ha : PE X e te) (hr : PA X es t) (hs : starEach (e :: es) X.env = (false, eval e X.env) :: starEach es X.env := by rfl) : PA X (e :: es) (tCons te t) := by
  intro pos pins s σ H Q I h
  rw [hs]
  show wpAny _ _ (spliced ((false, eval e X.env) :: backTo pos (starEach es X.env))) _ _ s
  refine Calls.spliced_cons (thn (ha pins s σ H _ I h) fun u s1 ⟨x, H1, I1, r1, q1⟩ => ?_)
  exact thn (hr pos pins s1 σ H1 _ I1 q1) fun us s2 ⟨xs, H2, I2, r2, q2⟩ => ⟨x :: xs, H2, I2, .cons r1 r2, q2⟩

end

/-! ### what a def promises -/
/-- a def's promise: the bound arguments in the parameters' order, the heap, the wanted end, the wanted exception -/
abbrev Sp := List V → Hp → VK → XK → Prop
/-- how an exception lies behind a call (file 08 gives it): the callers' frames, abstract heap and state ahead of the call, the wish, the exception, the state -/
abbrev CXT := List Env → Hp → Shared → XK → Value → Shared → Prop

/-- the state at a call -/
structure Env0 (P : Program) (w : World) (K : PySem.W.Frag) (mg : Str → Option Value) (base : Heap) (A : Around) (outer : List Env) (s : Shared) (H : Hp) : Prop where
  frames : A.frames = some outer
  mod : Mod K mg base
  bs : ∀ b o, base.get? b = some o → s.heap.get? b = some o ∧ H b = none
  bsz : base.objs.size ≤ s.heap.objs.size
  funs : s.heap.FunFrames base outer
  frf : ∀ b ∈ frs outer, H b = none
  hok : HOk P w H s.heap
  bare : AllBare s.gens
/-- a call's end -/
def CE (outer : List Env) (P : Program) (w : World) (H : Hp) (s : Shared) (Q : VK) (u : Value) (s' : Shared) : Prop :=
  ∃ v H', s'.os = s.os ∧ AllBare s'.gens ∧ Un (frs outer) [] H H' s.heap s'.heap ∧ HOk P w H' s'.heap ∧ RelV v u ∧ Q v H'
def CR (CX : CXT) (outer : List Env) (P : Program) (w : World) (H : Hp) (s : Shared) (Q : VK) (E : XK) (r : Result) (s' : Shared) : Prop :=
  match r with
  | .ok (.ret u) => CE outer P w H s Q u s'
  | .ok _ => False
  | .error e => CX outer H s E e s'
structure FnOk (P : Program) (w : World) (K : PySem.W.Frag) (mg : Str → Option Value) (base : Heap) (CX : CXT) (k : Nat) (f : Addr) (fd : FuncData) (ps : List Str) (sp : Sp) : Prop where
  len : ∀ vs H Q E, sp vs H Q E → vs.length = ps.length
  run : ∀ (A : Around) (outer : List Env) (s : Shared) (H : Hp) (args : Args) (us : List Value) (vs : List V) (Q : VK) (E : XK), Room k A → Env0 P w K mg base A outer s H → BindsTo s fd args (ps.zip us) → Vals vs us → sp vs H Q E →
    codeAny (model P w) A (.call (.ref f) args) (CR CX outer P w H s Q E) s
section
variable {X : Cx} {pins : List (Addr × Obj)} {σ : St} {H : Hp} {s s' : Shared}
/-- from a body: what a callee wants -/
theorem Inv.env0 (I : Inv X pins σ H s) : Env0 X.prog X.w X.K X.mg X.base X.A X.stack s H :=
  ⟨I.ok.frames, I.ok.mod, I.bs, Nat.le_trans I.ok.bsz I.sz, I.stack, I.stkFree, I.hok, I.bare⟩
/-- behind a call -/
theorem Inv.after {Q : VK} {u : Value} (I : Inv X pins σ H s) (h : CE X.stack X.prog X.w H s Q u s') : EP X pins σ Q u s' := by
  obtain ⟨v, H', os, bare, un, hok, r, q⟩ := h
  obtain ⟨hh, g, d, t, os'⟩ := s'
  obtain rfl : os' = s.os := os
  exact ⟨v, H', I.call (h' := hh) (g' := g) (d' := d) (t' := t) (ch := []) un hok bare (fun b z => absurd z (by simp)), r, q⟩
end

/-! ### calls -/
/-- f(..): the written arguments, then the defaults dvs; E: what is wanted of an exception -/
def tCall (sp : Sp) (dvs : List V) (E : XK) (t : TA) : TE := fun σ H Q => t σ H fun vs H1 => sp (vs ++ dvs) H1 Q E
/-- how the parameters are bound: us the positional arguments, kw the keywords' values by name, ds the defaults that fill up -/
def Binds (K : PySem.W.Frag) (fd : FuncData) (ps : List Str) (ds : List Value) : Prop :=
  ∀ (s : Shared) (us : List Value), K.In s.heap → (us ++ ds).length = ps.length → BindsTo s fd ⟨us, []⟩ (ps.zip (us ++ ds))
/-- every parameter is given -/
theorem Binds.all {K : PySem.W.Frag} {fd : FuncData} {ps : List Str} (h : ∀ us : List Value, us.length = ps.length → bindArgs fd ⟨us, []⟩ = pure (ps.zip us)) : Binds K fd ps [] := fun s us _ hl => by
  rw [List.append_nil] at hl ⊢
  exact .of_eq (h us hl)

/-- an exception of a callee reaches what this body wants of exceptions -/
def Passes (CX : CXT) (X : Cx) (E : XK) : Prop := ∀ (pins : List (Addr × Obj)) (σ : St) (H : Hp) (s : Shared) (e : Value) (s' : Shared), Inv X pins σ H s → CX X.stack H s E e s' → X.xe e s'

section
variable {X : Cx} {CX : CXT} {k : Nat} {f C : Addr} {fd : FuncData} {ps : List Str} {sp : Sp} {dvs : List V} {ds : List Value} {E : XK} {x m : Str} {p pos apos : Pos} {e o : Expr} {es : List Expr} {ta : TE} {t : TA}

/-- the callee runs -/
theorem run_fn {pins : List (Addr × Obj)} {σ : St} {H : Hp} {s : Shared} {Q : VK} {us : List Value} {vs : List V} (F : FnOk X.prog X.w X.K X.mg X.base CX k f fd ps sp) (hr : Room k X.A) (hb : Binds X.K fd ps ds) (hd : Vals dvs ds) (hx : Passes CX X E)
    (I : Inv X pins σ H s) (r : Vals vs us) (h : sp (vs ++ dvs) H Q E) : wpAny (model X.prog X.w) X.A (call (.ref f) us) (EP X pins σ Q) X.xe s := by
  have r2 : Vals (vs ++ dvs) (us ++ ds) := r.append hd
  have hl : (us ++ ds).length = ps.length := by rw [← r2.length]; exact F.len _ _ _ _ h
  refine wpAny_call (codeAny_mono (F.run X.A X.stack s H ⟨us, []⟩ (us ++ ds) (vs ++ dvs) Q E hr I.env0 (hb s us I.kIn hl) r2 h) fun r s' hq => ?_)
  cases r with
  | error e => exact hx pins σ H s e s' I hq
  | ok fl =>
    cases fl with
    | ret u => exact I.after hq
    | next => exact False.elim hq
    | brk => exact False.elim hq
    | cont => exact False.elim hq

theorem pe_call (F : FnOk X.prog X.w X.K X.mg X.base CX k f fd ps sp) (hr : Room k X.A) (hg : Gl X x) (hm : X.mg x = some (.ref f)) (hk : PySem.W.keepIn X.K (.ref f) = true) (hb : Binds X.K fd ps ds) (hd : Vals dvs ds) (hx : Passes CX X E)
    (ha : PA X (e :: es) t) (hdb : (x == ("__debug__" : Str)) = false := by decide) (he : starEach (e :: es) X.env = (false, eval e X.env) :: starEach es X.env := by rfl) (hpl : (backTo pos (starEach es X.env)).any (·.1) = false := by rfl) :
    PE X (.Call (.Name x p) (e :: es) [] pos) (tCall sp dvs E t) := by
  intro pins s σ H Q I h
  refine wpAny_Call_Name_kw (ld_glob I hg hm ?_ hdb)
  refine PySem.W.callWith_K (h₀ := X.base) I.ok.mod.kin hk (thn (ha pos pins s σ H _ I h) fun us s1 ⟨vs, H1, I1, r, q⟩ => ⟨I1.kIn, ?_⟩) he hpl
  exact run_fn F hr hb hd hx I1 r q
end

/-! ### keywords -/
section
variable {X : Cx} {CX : CXT} {k : Nat} {f C : Addr} {fd : FuncData} {ps ks : List Str} {sp : Sp} {E : XK} {x m : Str} {p pos apos kpos : Pos} {e o : Expr} {es : List Expr} {kws : List Keyword} {te ta : TE} {t tk : TA} {nm : Option Str}
variable {g : List Value → List Value → List Value} {gV : List V → List V → List V}
end

/-! ### a def's body keeps its promise -/
/-- names: the parameters first -/
structure FnScope (N P : List Str) (sc : Scope) : Prop where
  kind : sc.kind = .function
  co : sc.isCoroutine = false
  gen : sc.isGenerator = false
  nd : N.Nodup
  pre : N.take P.length = P
  par : ∀ x ∈ P, sc.names.lookup x = some .local ∨ sc.names.lookup x = some .cell
  nofree : ∀ y ∈ sc.names, y.2 ≠ .free

theorem bindL_out {kindOf : Str → Option NameKind} {x : Str} : ∀ {binds : List (Str × Value)} {m : Str → Option Value}, (∀ v, (x, v) ∉ binds) → bindL kindOf binds m x = m x
  | [], _, _ => rfl
  | (n, v) :: r, m, h => by
    unfold bindL
    rw [bindL_out fun w hw => h w (List.mem_cons_of_mem _ hw)]
    split
    · have : x ≠ n := by rintro rfl; exact h v List.mem_cons_self
      simp [this]
    · rfl
theorem bindC_out {kindOf : Str → Option NameKind} {x : Str} : ∀ {binds : List (Str × Value)} {m : Str → Option Value}, (∀ v, (x, v) ∉ binds) → bindC kindOf binds m x = m x
  | [], _, _ => rfl
  | (n, v) :: r, m, h => by
    unfold bindC
    rw [bindC_out fun w hw => h w (List.mem_cons_of_mem _ hw)]
    split
    · rfl
    · have : x ≠ n := by rintro rfl; exact h v List.mem_cons_self
      simp [this]
theorem bindL_get {kindOf : Str → Option NameKind} {x : Str} {v : Value} : ∀ {P : List Str} {vs : List Value} {i : Nat} {m : Str → Option Value}, P.Nodup → P[i]? = some x → vs[i]? = some v → kindOf x = some .local →
    bindL kindOf (P.zip vs) m x = some v
  | [], _, _, _, _, h, _, _ => by simp at h
  | _ :: _, [], _, _, _, _, h, _ => by simp at h
  | p :: P, w :: vs, 0, m, nd, h1, h2, hk => by
    simp at h1 h2; subst h1; subst h2
    show bindL kindOf ((p, w) :: P.zip vs) m p = _
    unfold bindL
    rw [bindL_out fun v hv => (List.nodup_cons.mp nd).1 (List.of_mem_zip hv).1, if_pos hk]
    simp
  | p :: P, w :: vs, i + 1, m, nd, h1, h2, hk => by
    show bindL kindOf ((p, w) :: P.zip vs) m x = _
    unfold bindL
    exact bindL_get (i := i) (List.nodup_cons.mp nd).2 (by simpa using h1) (by simpa using h2) hk
theorem bindC_get {kindOf : Str → Option NameKind} {x : Str} {v : Value} : ∀ {P : List Str} {vs : List Value} {i : Nat} {m : Str → Option Value}, P.Nodup → P[i]? = some x → vs[i]? = some v → kindOf x ≠ some .local →
    bindC kindOf (P.zip vs) m x = some v
  | [], _, _, _, _, h, _, _ => by simp at h
  | _ :: _, [], _, _, _, _, h, _ => by simp at h
  | p :: P, w :: vs, 0, m, nd, h1, h2, hk => by
    simp at h1 h2; subst h1; subst h2
    show bindC kindOf ((p, w) :: P.zip vs) m p = _
    unfold bindC
    rw [bindC_out fun v hv => (List.nodup_cons.mp nd).1 (List.of_mem_zip hv).1, if_neg hk]
    simp
  | p :: P, w :: vs, i + 1, m, nd, h1, h2, hk => by
    show bindC kindOf ((p, w) :: P.zip vs) m x = _
    unfold bindC
    exact bindC_get (i := i) (List.nodup_cons.mp nd).2 (by simpa using h1) (by simpa using h2) hk

/-- the names' values at the entry -/
def start (N : List Str) (vs : List V) : St := vs.map some ++ List.replicate (N.length - vs.length) none

/-- the context of a def's body, at its entry; an exception leaves the frame, then lies as CX says -/
def cxOf (CX : CXT) (P : Program) (w : World) (K : PySem.W.Frag) (mg : Str → Option Value) (base : Heap) (N : List Str) (qual : Str) (scope : Scope) (f : Addr) (cd : Value) (A : Around) (outer : List Env) (s : Shared) (H : Hp) (E : XK) : Cx where
  prog := P
  w := w
  K := K
  mg := mg
  base := base
  A := A.deeper (envOfC qual scope s.heap.objs.size f cd)
  N := N
  s₀ := s
  H₀ := H
  env := envOfC qual scope s.heap.objs.size f cd
  outer := outer
  stack := envOfC qual scope s.heap.objs.size f cd :: outer
  ex := []
  calm := true
  fn := fun _ => true
  pn := []
  xe := fun e s' => wpAny (model P w) (A.deeper (envOfC qual scope s.heap.objs.size f cd)) (leaving (envOfC qual scope s.heap.objs.size f cd) e) (fun _ s'' => CX outer H s E e s'') (fun e' s'' => CX outer H s E e' s'') s'

theorem cell_has {sc : Scope} {n : Nat} {x : Str} (h : sc.names.lookup x = some .cell) : ∃ c, (cellsFrom n sc.names []).lookup x = some c := by
  have q := PySem.W.cellsFrom_some sc.names n [] (.inl h)
  exact Option.isSome_iff_exists.mp q

theorem inv_start {CX : CXT} {P : Program} {w : World} {K : PySem.W.Frag} {mg : Str → Option Value} {base : Heap} {N ps : List Str} {qual : Str} {scope : Scope} {f : Addr} {cd : Value} {A : Around} {outer : List Env} {s s1 : Shared} {H : Hp} {E : XK} {us : List Value} {vs : List V}
    (S : FnScope N ps scope) (hd : A.handled = none) (e0 : Env0 P w K mg base A outer s H) (hl : vs.length = ps.length) (r : Vals vs us)
    (x : InCallC s s.heap.objs.size (bindL (envOfC qual scope s.heap.objs.size f cd).kindOf (ps.zip us) fun _ => none) (cellsFrom (s.heap.objs.size + 1) scope.names []) (bindC (envOfC qual scope s.heap.objs.size f cd).kindOf (ps.zip us) fun _ => none) s1) :
    Inv (cxOf CX P w K mg base N qual scope f cd A outer s H E) [] (start N vs) H s1 := by
  have hpl : ps.length ≤ N.length := by have := congrArg List.length S.pre; rw [List.length_take] at this; omega
  obtain ⟨h1, tk, rfl, hk⟩ := x.done
  have noA : ∀ b : Addr, b ∉ (cxOf CX P w K mg base N qual scope f cd A outer s H E).ex := fun b z => absurd (show b ∈ ([] : List Addr) from z) (by simp)
  refine ⟨⟨e0.mod, S.kind, rfl, rfl, Nat.le_refl _, fun y z c h1 h2 => ?_, fun y hy => ?_, fun y c _ h => ?_, fun _ => hd, Around.frames_deeper e0.frames, .inr ⟨rfl, rfl⟩, fun b z => absurd z (noA b), e0.bs, e0.bsz, fun b _ _ => noA b, fun b z => absurd z (noA b), e0.funs, e0.frf⟩,
    rfl, e0.bare, Un.kept hk, ⟨_, x.toInCall.ns, fun i y v h1 h2 h3 => ?_⟩, fun y c h => ⟨_, x.cell y c h⟩, e0.hok.fresh (Nat.le_refl _), fun y c h => ?_, fun p hp => absurd (show p ∈ ([] : List (Addr × Obj)) from hp) (by simp), e0.hok.kept hk, ?_⟩
  · exact name_of_addr x.apart (PySem.mem_of_lookup h1) (PySem.mem_of_lookup h2)
  · have hy : scope.names.lookup y = some .cell ∨ scope.names.lookup y = some .free := hy
    rcases hy with hy | hy
    · exact cell_has hy
    · exact absurd rfl (S.nofree _ (PySem.mem_of_lookup hy))
  · exact Nat.le_of_lt (x.above y c (PySem.mem_of_lookup h))
  · have hi : i < vs.length := by
      unfold start at h2
      by_cases hi : i < vs.length
      · exact hi
      · rw [List.getElem?_append_right (by simpa using hi)] at h2
        rw [List.getElem?_replicate] at h2
        split at h2 <;> cases h2
    have ha : vs[i]? = some v := by
      unfold start at h2
      rw [List.getElem?_append_left (by simpa using hi), List.getElem?_map] at h2
      cases e : vs[i]? with
      | none => rw [e] at h2; cases h2
      | some a => rw [e] at h2; cases h2; rfl
    obtain ⟨u, hu, rv⟩ := r.get ha
    have hp : ps[i]? = some y := by
      rw [← S.pre, List.getElem?_take_of_lt (by omega)]; exact h1
    have ndP : ps.Nodup := by rw [← S.pre]; exact S.nd.sublist (List.take_sublist _ _)
    refine ⟨u, rv, ?_⟩
    rcases S.par y (List.mem_of_getElem? hp) with k | k
    · exact .inl ⟨k, bindL_get ndP hp hu k⟩
    · obtain ⟨c, e⟩ := cell_has (n := s.heap.objs.size + 1) k
      refine .inr ⟨.inl k, c, e, ?_⟩
      have q := x.cell y c e
      rw [bindC_get ndP hp hu (by show scope.names.lookup y ≠ _; rw [k]; decide)] at q
      exact q
  · exact e0.hok.fresh (Nat.le_of_lt (x.above y c (PySem.mem_of_lookup h)))
  · unfold start
    show _ = N.length
    rw [List.length_append, List.length_map, List.length_replicate]
    omega

/-- THE RULE: a def (or a method) of the text, by its body. The body's reading t is chosen for each entry; it is run at the parameters' values -/
theorem fn_of {CX : CXT} {P : Program} {w : World} {K : PySem.W.Frag} {mg : Str → Option Value} {base : Heap} {k : Nat} {f : Addr} {name qual : Str} {params : Arguments} {body : List Stmt} {scope : Scope} {dV kV doc pm cdv ct oc : Value} {an od : Option Addr}
    {osl : Array (Option Value)} {N ps : List Str} {sp : Sp} (lk : K.lookup f = some ⟨oc, od, .func (PySem.W.fnOf name qual params body scope dV kV doc pm an cdv ct), osl⟩) (hcd : PySem.W.codeIn K cdv qual = true) (S : FnScope N ps scope)
    (len : ∀ vs H Q E, sp vs H Q E → vs.length = ps.length)
    (hbody : ∀ (A : Around) (outer : List Env) (s : Shared) (H : Hp) (vs : List V) (Q : VK) (E : XK), Room k (A.deeper (envOfC qual scope s.heap.objs.size f cdv)) → sp vs H Q E →
      ∃ t, PSs (cxOf CX P w K mg base N qual scope f cdv A outer s H E) body t ∧ t { nx := fun _ H' => Q .non H', rt := Q } (start N vs) H) :
    FnOk P w K mg base CX (k + 1) f (PySem.W.fnOf name qual params body scope dV kV doc pm an cdv ct) ps sp := by
  refine ⟨len, fun A outer s H args us vs Q E hr e0 hb r hsp => ?_⟩
  have hl := len _ _ _ _ hsp
  have KX : K.In s.heap := e0.mod.kin.keeps fun b o e => (e0.bs b o e).1
  have lim : s.heap.NoLimit := e0.mod.nolimit.keeps fun b o e => (e0.bs b o e).1
  have hkind : ∀ y ∈ ps.zip us, scope.names.lookup y.1 = some .local ∨ (scope.names.lookup y.1 = some .cell ∧ ((cellsFrom (s.heap.objs.size + 1) scope.names []).lookup y.1).isSome = true) := fun ⟨n, v⟩ hy => by
    rcases S.par n (List.of_mem_zip hy).1 with q | q
    · exact .inl q
    · exact .inr ⟨q, PySem.W.cellsFrom_some _ _ _ (.inl q)⟩
  refine codeAny_call_function hr.depth (KX _ _ lk) rfl S.co S.gen rfl (PySem.W.codeRec_of KX hcd) (hb _ _ _ _ ?_)
  refine wpAny_newFunctionEnv_cells S.kind hkind fun env he s1 x => ?_
  subst he
  refine ⟨lim.keeps x.toInCall.keep, codeAny_func ?_⟩
  obtain ⟨t, ht, hq⟩ := hbody A outer s H vs Q E (hr.deeper _) hsp
  have I : Inv (cxOf CX P w K mg base N qual scope f cdv A outer s H E) [] (start N vs) H s1 := inv_start S hr.hd e0 hl r x
  refine wpAny_mono (ht [] s1 (start N vs) H _ I hq) (fun fl s' hs => ?_) fun e s' hs => hs
  have fin : ∀ {σ' : St} {H' : Hp} {v : V} {u : Value}, Inv (cxOf CX P w K mg base N qual scope f cdv A outer s H E) [] σ' H' s' → RelV v u → Q v H' → CE outer P w H s Q u s' :=
    fun {σ' H' v u} J rv q => ⟨v, H', J.os, J.bare, J.base, J.hok, rv, q⟩
  cases fl with
  | ret u =>
    obtain ⟨v, σ', H', J, rv, q⟩ := hs
    exact fin J rv q
  | next =>
    obtain ⟨σ', H', J, q⟩ := hs
    exact fin (v := V.non) (u := Value.none) J rfl q
  | brk =>
    obtain ⟨_, _, _, q⟩ := hs
    exact False.elim q
  | cont =>
    obtain ⟨_, _, _, q⟩ := hs
    exact False.elim q
end L2

namespace L2
open PySem PySem.Spec PyProof.Rows
section
variable {X : Cx} {x : Str} {p pos : Pos} {e : Expr} {es : List Expr} {t : TA} {id T : String} {r : List V → Hp → VK → Prop}

def tCB (r : List V → Hp → VK → Prop) (t : TA) : TE := fun σ H Q => t σ H fun vs H1 => r vs H1 Q
/-- f(e, ..), f a built-in function -/
theorem pe_callB (hc : CallR X (.builtin id) r) (hg : Gl X x) (hm : X.mg x = none) (hv : bootBuiltins x = some (.builtin id)) (ha : PA X (e :: es) t) (hn : x ≠ "__name__" := by decide) (hdb : (x == ("__debug__" : Str)) = false := by decide)
    (he : starEach (e :: es) X.env = (false, eval e X.env) :: starEach es X.env := by rfl) (hpl : (backTo pos (starEach es X.env)).any (·.1) = false := by rfl) : PE X (.Call (.Name x p) (e :: es) [] pos) (tCB r t) := by
  intro pins s σ H Q I h
  refine wpAny_Call_Name_kw (ld_blt I hg hm hv ?_ hn hdb)
  exact PyProof.Rows.callWith_builtin1 (thn (ha pos pins s σ H _ I h) fun us s1 ⟨vs, H1, I1, r1, q1⟩ => hc pins s1 σ H1 vs us Q I1 r1 q1) he hpl
/-- T(e, ..), T a built-in type -/
theorem pe_callTy (hc : CallR X (.type T) r) (hg : Gl X x) (hm : X.mg x = none) (hv : bootBuiltins x = some (.type T)) (ha : PA X (e :: es) t) (hn : x ≠ "__name__" := by decide) (hdb : (x == ("__debug__" : Str)) = false := by decide)
    (he : starEach (e :: es) X.env = (false, eval e X.env) :: starEach es X.env := by rfl) (hpl : (backTo pos (starEach es X.env)).any (·.1) = false := by rfl) : PE X (.Call (.Name x p) (e :: es) [] pos) (tCB r t) := by
  intro pins s σ H Q I h
  refine wpAny_Call_Name_kw (ld_blt I hg hm hv ?_ hn hdb)
  exact PyProof.Rows.callWith_type1 (thn (ha pos pins s σ H _ I h) fun us s1 ⟨vs, H1, I1, r1, q1⟩ => hc pins s1 σ H1 vs us Q I1 r1 q1) he hpl
end
end L2

namespace HT
open PySem PyProof.Rows

section
open PySem.SeqAt
open PySem.AutoSeq1 (wpAny_loadPart')
open PySem.MeetsSeq PySem.MeetsSeq2 PySem.MeetsSeq3

end

section
variable {prog : Program} {w : World} {A : Around} {E : Value → Shared → Prop} {s : Shared}

/-! ### t[a:b], not the whole -/
/-- a slice's bound as a place among n (d where it is left out) -/
def sIx (n d : Nat) : Option Int → Nat
  | none => d
  | some v => if v < 0 then (v + (n : Int)).toNat else min v.toNat n
end
end HT

namespace L2
open PySem PySem.Spec PyProof.Rows

/-! ### the parts of a slice -/
abbrev TO := St → Hp → (Option Int → Hp → Prop) → Prop
/-- a slice's part (left out, or an int) -/
def PO (X : Cx) (e : Option Expr) (t : TO) : Prop :=
  ∀ (pins : List (Addr × Obj)) (s : Shared) (σ : St) (H : Hp) (Q : Option Int → Hp → Prop), Inv X pins σ H s → t σ H Q →
    wpAny (model X.prog X.w) X.A (evalPart e X.env) (fun u s' => ∃ o H', Inv X pins σ H' s' ∧ IsPart u o ∧ Q o H') X.xe s
def tNoPart : TO := fun _ H Q => Q none H
theorem intsAre_of {ns : List Int} : ∀ {us : List Value}, Vals (ns.map V.int) us → IntsAre us ns := by
  induction ns with
  | nil => intro us r; rw [List.map_nil] at r; cases r; exact .nil
  | cons n ns ih =>
    intro us r
    rw [List.map_cons] at r
    cases r with
    | cons r1 r2 =>
      obtain ⟨t, e⟩ := r1
      subst e
      exact .cons n t (ih r2)

section
variable {X : Cx} {e : Expr} {te : TE} {lo hi : Option Expr} {tl th : TO} {pos p2 : Pos}

theorem po_none : PO X none tNoPart := by
  intro pins s σ H Q I h
  rw [evalPart_none]
  exact wpAny_pure ⟨none, H, I, .none, h⟩
/-- what a slice of a value is, by values: the slice object stands at sl -/
def SlR (X : Cx) (r : V → Option Int → Option Int → Hp → VK → Prop) : Prop :=
  ∀ (pins : List (Addr × Obj)) (s : Shared) (σ : St) (H : Hp) (x : V) (v vl vu : Value) (lo hi : Option Int) (sl : Addr) (Q : VK), Inv X pins σ H s → RelV x v → s.heap.IsSliceOf sl vl vu .none → IsPart vl lo → IsPart vu hi → r x lo hi H Q →
    ∃ T id, typeLookup (.type T) "__getitem__" = pure (some (.builtin id)) ∧ s.TypeIs v T ∧ wpAny (model X.prog X.w) X.A (getItem v (.ref sl)) (EP X pins σ Q) X.xe s
theorem SlR.or {r r' : V → Option Int → Option Int → Hp → VK → Prop} (h : SlR X r) (h' : SlR X r') : SlR X (fun x lo hi H Q => r x lo hi H Q ∨ r' x lo hi H Q) := by
  intro pins s σ H x v vl vu lo hi sl Q I rx hs pl pu q
  rcases q with q | q
  · exact h pins s σ H x v vl vu lo hi sl Q I rx hs pl pu q
  · exact h' pins s σ H x v vl vu lo hi sl Q I rx hs pl pu q
def tSl (r : V → Option Int → Option Int → Hp → VK → Prop) (te : TE) (tl th : TO) : TE := fun σ H Q => te σ H fun x H1 => tl σ H1 fun l H2 => th σ H2 fun u H3 => r x l u H3 Q
/-- a[lo:hi], any a -/
theorem pe_slice {r : V → Option Int → Option Int → Hp → VK → Prop} (hr : SlR X r) (he : PE X e te) (hl : PO X lo tl) (hu : PO X hi th) : PE X (.Subscript e (.Slice lo hi none p2) pos) (tSl r te tl th) := by
  intro pins s σ H Q I h
  refine Subscript_ (thn (he pins s σ H _ I h) fun v s1 ⟨x, H1, I1, r1, q1⟩ => ?_)
  refine wpAny_Slice (thn (hl pins s1 σ H1 _ I1 q1) fun vl s2 ⟨l, H2, I2, pl, q2⟩ => thn (hu pins s2 σ H2 _ I2 q2) fun vu s3 ⟨u, H3, I3, pu, q3⟩ => ?_)
  rw [evalPart_none]
  refine wpAny_pure ?_
  have I4 : Inv X pins σ H3 { s3 with heap := s3.heap.push { cls := .type "slice", data := .fields #[vl, vu, .none] } } := I3.kept (t' := s3.toks) fun b ob q => Heap.get?_push_of_some _ q
  obtain ⟨T, id, hT, ht, hg⟩ := hr pins { s3 with heap := s3.heap.push { cls := .type "slice", data := .fields #[vl, vu, .none] } } σ H3 x v vl vu l u s3.heap.objs.size Q I4 r1 (Heap.IsSliceOf.new ..) pl pu q3
  show wpAny (model X.prog X.w) X.A (subscriptTail e (.Slice lo hi none p2) v (.ref s3.heap.objs.size)) (EP X pins σ Q) X.xe { s3 with heap := s3.heap.push { cls := .type "slice", data := .fields #[vl, vu, .none] } }
  exact tail_any (ops := [.ref s3.heap.objs.size, v]) ht hT hg (by with_unfolding_all rfl)

/-- the items of xs[lo:hi] -/
def cutV (xs : List V) (lo hi : Option Int) : List V := (xs.drop (HT.sIx xs.length 0 lo)).take (HT.sIx xs.length xs.length hi - HT.sIx xs.length 0 lo)
theorem cutV_length (xs : List V) (lo hi : Option Int) : (cutV xs lo hi).length ≤ xs.length := by
  unfold cutV
  rw [List.length_take, List.length_drop]
  omega
/-! ### t < u, t + u -/
end
end L2

namespace L2
open PySem PySem.Spec PyProof.Rows

/-! ### places -/
/-- the place that an index of any sign means -/
def ixN (n : Nat) (i : Int) : Option Nat := if 0 ≤ i then (if i < n then some i.toNat else none) else if -(n : Int) ≤ i then some (i + n).toNat else none
def atI {α : Type} (xs : List α) (i : Int) : Option α := (ixN xs.length i).bind fun j => xs[j]?
theorem ixN_seq {n : Nat} {i : Int} {j : Nat} (h : ixN n i = some j) : seqIndex? i n = some j ∧ j < n ∧ -(n : Int) ≤ i ∧ i < n := by
  unfold ixN at h
  by_cases h0 : 0 ≤ i
  · rw [if_pos h0] at h
    by_cases h1 : i < n
    · rw [if_pos h1] at h
      have e : i.toNat = j := Option.some.inj h
      exact ⟨by rw [seqIndex_of h0 h1, e], by omega, by omega, h1⟩
    · rw [if_neg h1] at h; cases h
  · rw [if_neg h0] at h
    by_cases h1 : -(n : Int) ≤ i
    · rw [if_pos h1] at h
      have e : (i + n).toNat = j := Option.some.inj h
      exact ⟨by rw [seqIndex_neg (by omega) h1, e], by omega, h1, by omega⟩
    · rw [if_neg h1] at h; cases h
theorem atI_get {α : Type} {xs : List α} {i : Int} {v : α} (h : atI xs i = some v) : ∃ j, seqIndex? i xs.length = some j ∧ xs[j]? = some v ∧ j < xs.length ∧ -(xs.length : Int) ≤ i ∧ i < xs.length := by
  unfold atI at h
  cases e : ixN xs.length i with
  | none => rw [e] at h; cases h
  | some j =>
    rw [e] at h
    obtain ⟨h1, h2, h3, h4⟩ := ixN_seq e
    exact ⟨j, h1, h, h2, h3, h4⟩
theorem atI_nat {α : Type} {xs : List α} {j : Nat} {v : α} (h : xs[j]? = some v) : atI xs (j : Int) = some v := by
  have hj : j < xs.length := (List.getElem?_eq_some_iff.mp h).1
  have e : ixN xs.length (j : Int) = some j := by
    unfold ixN
    rw [if_pos (by omega), if_pos (by omega)]; simp
  unfold atI; rw [e]; exact h
/-! ### what may be subscripted -/
/-- what stands as an index of a plain subscript -/
def PlainIx (b : Expr) : Prop := ∀ o i, subscripted b false o i = operate [o, i] (getItem o i)
/-- a subscript by values -/
def IxR (X : Cx) (r : R2) : Prop :=
  ∀ (value slice : Expr) (pins : List (Addr × Obj)) (s : Shared) (σ : St) (H : Hp) (x y : V) (v u : Value) (Q : VK), Inv X pins σ H s → RelV x v → RelV y u → r x y H Q →
    subscripted slice false v u = operate [v, u] (getItem v u) → wpAny (model X.prog X.w) X.A (subscriptTail value slice v u) (EP X pins σ Q) X.xe s
/-- a call of a builtin's method by values: the receiver, the arguments -/
def MtR (X : Cx) (id : String) (r : V → List V → Hp → VK → Prop) : Prop :=
  ∀ (pins : List (Addr × Obj)) (s : Shared) (σ : St) (H : Hp) (x : V) (xs : List V) (v : Value) (us : List Value) (Q : VK), Inv X pins σ H s → RelV x v → Vals xs us → r x xs H Q →
    wpAny (model X.prog X.w) X.A (call (.builtin id) (v :: us)) (EP X pins σ Q) X.xe s
section
variable {X : Cx} {a b : Expr} {ta tb : TE} {pos : Pos}
theorem IxR.or {r r' : R2} (h : IxR X r) (h' : IxR X r') : IxR X (fun x y H Q => r x y H Q ∨ r' x y H Q) := by
  intro value slice pins s σ H x y v u Q I rx ry q hs
  rcases q with q | q
  · exact h value slice pins s σ H x y v u Q I rx ry q hs
  · exact h' value slice pins s σ H x y v u Q I rx ry q hs
theorem MtR.or {id : String} {r r' : V → List V → Hp → VK → Prop} (h : MtR X id r) (h' : MtR X id r') : MtR X id (fun x xs H Q => r x xs H Q ∨ r' x xs H Q) := by
  intro pins s σ H x xs v us Q I rx rs q
  rcases q with q | q
  · exact h pins s σ H x xs v us Q I rx rs q
  · exact h' pins s σ H x xs v us Q I rx rs q
/-- a[b] -/
theorem pe_ix {r : R2} (hr : IxR X r) (ha : PE X a ta) (hb : PE X b tb) (hs : PlainIx b) : PE X (.Subscript a b pos) (tOp r ta tb) := by
  intro pins s σ H Q I h
  exact Subscript_ (binT ha hb I h fun v u s2 x y H2 I2 rx ry q => hr a b pins s2 σ H2 x y v u Q I2 rx ry q (hs _ _))

def rIxL (K : PySem.W.Frag) : R2 := fun x y H Q => ∃ p xs i v, x = .ref p ∧ y = .int i ∧ SqL K H p xs ∧ atI xs i = some v ∧ Q v H
def rIxT (K : PySem.W.Frag) : R2 := fun x y H Q => ∃ p xs i v, x = .ref p ∧ y = .int i ∧ SqT K H p xs ∧ atI xs i = some v ∧ Q v H
def rIxS : R2 := fun x y H Q => ∃ z i c, x = .str z ∧ y = .int i ∧ z.length ≤ sizeLine ∧ atI z.cps.toList i = some c ∧ Q (.str ⟨#[c]⟩) H
theorem ix_list : IxR X (rIxL X.K) := by
  intro value slice pins s σ H x y v u Q I rx ry h hs
  obtain ⟨p, xs, i, z, rfl, rfl, hq, he, q⟩ := h
  cases rx
  obtain ⟨t, rfl⟩ := ry
  obtain ⟨its, r, pl, hz⟩ := I.list hq
  obtain ⟨j, h1, h2, h3, h4, h5⟩ := atI_get he
  obtain ⟨w, ew, rw'⟩ := r.get h2
  have hl := r.length
  have hn := line63
  have fin : EP X pins σ Q w s := ⟨z, H, I, rw', q⟩
  by_cases h0 : 0 ≤ i
  · have hj : i.toNat = j := by
      rw [seqIndex_of h0 h5] at h1
      exact Option.some.inj h1
    exact item_listR pl.isList h0 (by omega) (by rw [hj]; simpa using ew) fin hs
  · have hj : (i + (its.toArray.size : Int)).toNat = j := by
      rw [seqIndex_neg (by omega) h4] at h1
      rw [List.size_toArray, ← hl]
      exact Option.some.inj h1
    exact subscriptTail_builtinR (x := w) pl.isList.typeIs slot_list_getitem.lookup
      (wpAny_getItem_list_neg (Q := fun r s' => r = w ∧ EP X pins σ Q r s') pl.isList (by omega) (by rw [List.size_toArray] <;> omega) (by omega) (by rw [hj]; simpa using ew) ⟨rfl, fin⟩) hs
theorem ix_tup : IxR X (rIxT X.K) := by
  intro value slice pins s σ H x y v u Q I rx ry h hs
  obtain ⟨p, xs, i, z, rfl, rfl, hq, he, q⟩ := h
  cases rx
  obtain ⟨t, rfl⟩ := ry
  obtain ⟨its, r, pl, hz⟩ := I.tuple hq
  obtain ⟨j, h1, h2, h3, h4, h5⟩ := atI_get he
  obtain ⟨w, ew, rw'⟩ := r.get h2
  have hl := r.length
  have hn := line63
  have fin : EP X pins σ Q w s := ⟨z, H, I, rw', q⟩
  exact subscriptTail_builtinR (x := w) pl.typeIs slot_tuple_getitem.lookup
    (getItem_tuple (j := j) (Q := fun r s' => r = w ∧ EP X pins σ Q r s') pl (by omega) (by omega) (by rw [List.size_toArray, ← hl]; exact h1) (by simpa using ew) ⟨rfl, fin⟩) hs
theorem ix_str : IxR X rIxS := by
  intro value slice pins s σ H x y v u Q I rx ry h hs
  obtain ⟨z, i, c, rfl, rfl, hz, he, q⟩ := h
  obtain ⟨t, rfl⟩ := rx
  obtain ⟨t', rfl⟩ := ry
  obtain ⟨j, h1, h2, h3, h4, h5⟩ := atI_get he
  have hl : z.cps.toList.length = z.length := by simp [Str.length]
  rw [hl] at h1 h4 h5
  have hn := line63
  exact tail_any (typeIs_str s z t) slot_str_getitem.lookup (getItem_str (c := c) (by
    have e1 : decide (i < -(2 ^ 63 : Int)) = false := decide_eq_false (by omega)
    have e2 : decide (i ≥ 2 ^ 63) = false := decide_eq_false (by omega)
    rw [e1, e2, Bool.or_false]) (by rw [h1]; simpa using h2) ⟨.str ⟨#[c]⟩, H, I.tok _, ⟨_, rfl⟩, q⟩) hs
/-! ### xs[i] = v, any sign -/
/-- the list's object behind a store -/
theorem mapSeq_set (its : List Value) (n j : Nat) (u : Value) : Obj.mapSeq (·.setIfInBounds j u) { cls := .type "list", data := .seq its.toArray n } = { cls := .type "list", data := .seq (its.set j u).toArray n } := by
  simp [Obj.mapSeq]
theorem Inv.lst {pins : List (Addr × Obj)} {σ : St} {H : Hp} {s : Shared} {p : Addr} {xs : List V} (I : Inv X pins σ H s) (h : H p = some (.lst xs)) :
    ∃ (its : List Value) (n : Nat), Vals xs its ∧ s.heap.get? p = some { cls := .type "list", data := .seq its.toArray n } ∧ xs.length ≤ sizeLine := by
  obtain ⟨z, its, n, r, e⟩ := I.hok p _ h
  exact ⟨its, n, r, e, z⟩
/-- the list at p is written by an update of its object -/
theorem Inv.lstUpd {pins : List (Addr × Obj)} {σ : St} {H : Hp} {s : Shared} {p : Addr} {xs ys : List V} {its its' : List Value} {n n' : Nat} {f : Obj → Obj} (I : Inv X pins σ H s) (h : H p = some (.lst xs))
    (ho : s.heap.get? p = some { cls := .type "list", data := .seq its.toArray n }) (hf : f { cls := .type "list", data := .seq its.toArray n } = { cls := .type "list", data := .seq its'.toArray n' }) (r : Vals ys its') (hz : ys.length ≤ sizeLine) (t : Nat) :
    Inv X pins σ (upd H p (.lst ys)) { s with heap := s.heap.update p f, toks := t } := by
  have e : (s.heap.update p f).get? p = some { cls := .type "list", data := .seq its'.toArray n' } := by
    rw [Heap.get?_update_self f ho (by rw [hf] <;> rfl), hf]
  refine I.write (x := p) (e := p) (by rw [h]; trivial) (.inl rfl) (fun b u hb q => (Heap.get?_update_other _ _ (Ne.symm hb)).trans q) ⟨_, e⟩ ?_
  exact ⟨hz, its', n', r, e⟩
def rSetL : V → V → V → Hp → (Hp → Prop) → Prop := fun o i v H Q => ∃ p xs k j, o = .ref p ∧ i = .int k ∧ H p = some (.lst xs) ∧ ixN xs.length k = some j ∧ Q (upd H p (.lst (xs.set j v)))
theorem set_list : PSet X rSetL := by
  intro pins s σ H o i v ov iv u Q I ro ri rv h
  obtain ⟨p, xs, k, j, rfl, rfl, hp, hj, q⟩ := h
  cases ro
  obtain ⟨t, rfl⟩ := ri
  obtain ⟨its, n, r, ho, hz⟩ := I.lst hp
  obtain ⟨h1, h2, h3, h4⟩ := ixN_seq hj
  have hl := r.length
  have hn := line63
  have I' : Inv X pins σ (upd H p (.lst (xs.set j v))) { s with heap := s.heap.update p (Obj.mapSeq (·.setIfInBounds j u)) } :=
    I.lstUpd hp ho (mapSeq_set its n j u) (r.set rv j) (by rw [List.length_set]; exact hz) s.toks
  by_cases h0 : 0 ≤ k
  · have hk : k.toNat = j := by
      rw [seqIndex_of h0 h4] at h1
      exact Option.some.inj h1
    exact PySem.W.ki_setAt ho h0 (by omega) (by rw [List.size_toArray, ← hl]; exact h4) (by rw [hk]; exact ⟨_, I', q⟩)
  · have hk : (k + (its.toArray.size : Int)).toNat = j := by
      rw [seqIndex_neg (by omega) h3] at h1
      rw [List.size_toArray, ← hl]
      exact Option.some.inj h1
    exact PySem.W.ki_setBack ho (by omega) (by rw [List.size_toArray, ← hl]; exact h3) (by omega) (by rw [hk]; exact ⟨_, I', q⟩)

/-! ### slices -/
theorem slice_bounds (lo hi : Option Int) (n : Nat) : (sliceBounds lo hi none n).1 = ((HT.sIx n 0 lo : Nat) : Int) ∧ (sliceBounds lo hi none n).2.1 = ((HT.sIx n n hi : Nat) : Int) ∧ (sliceBounds lo hi none n).2.2 = 1 := by
  refine ⟨?_, ?_, rfl⟩
  · cases lo with
    | none => simp [sliceBounds, HT.sIx]
    | some i =>
      simp only [sliceBounds, HT.sIx, Option.getD_none, show (1 : Int) > 0 by decide, if_true]
      by_cases h : i < 0
      · simp only [h, if_true] <;> omega
      · simp only [h, if_false] <;> omega
  · cases hi with
    | none => simp [sliceBounds, HT.sIx]
    | some i =>
      simp only [sliceBounds, HT.sIx, Option.getD_none, show (1 : Int) > 0 by decide, if_true]
      by_cases h : i < 0
      · simp only [h, if_true] <;> omega
      · simp only [h, if_false] <;> omega
theorem slicePick_cut (its : List Value) (lo hi : Option Int) : slicePick its.toArray lo hi none = ((its.drop (HT.sIx its.length 0 lo)).take (HT.sIx its.length its.length hi - HT.sIx its.length 0 lo)).toArray := by
  obtain ⟨h1, h2, h3⟩ := slice_bounds lo hi its.toArray.size
  unfold slicePick
  rw [h1, h2, h3]
  simp only [sliceRange_one, pick_run, List.size_toArray] <;> rfl
/-- xs[lo:hi] of a list: a new list -/
def rSlL (K : PySem.W.Frag) : V → Option Int → Option Int → Hp → VK → Prop := fun x lo hi H Q => ∃ a xs, x = .ref a ∧ SqL K H a xs ∧ ∀ p, H p = none → Q (.ref p) (upd H p (.lst (cutV xs lo hi)))
theorem sl_list : SlR X (rSlL X.K) := by
  intro pins s σ H x v vl vu lo hi sl Q I rx hs pl pu h
  obtain ⟨a, xs, rfl, hx, q⟩ := h
  cases rx
  obtain ⟨its, r, ht, hz⟩ := I.list hx
  have hlen := r.length
  refine ⟨"list", _, slot_list_getitem.lookup, ht.isList.typeIs, ?_⟩
  refine wpAny_getItem_list_slice ht.isList hs pl pu .none (by simp) ?_ (by rw [List.size_toArray] <;> omega)
  rw [slicePick_cut, ← hlen]
  refine ⟨.ref s.heap.objs.size, _, I.laid (t' := s.toks) (o := .lst (cutV xs lo hi)) (fun b ob q => Heap.get?_push_of_some _ q) (Nat.le_refl _) ?_, rfl, q _ (I.hok.fresh (Nat.le_refl _))⟩
  exact ⟨Nat.le_trans (cutV_length xs lo hi) hz, _, 0, (r.drop (HT.sIx xs.length 0 lo)).take (HT.sIx xs.length xs.length hi - HT.sIx xs.length 0 lo), Heap.get?_push_size _ rfl⟩

/-! ### in, not in: flat items -/
def flatV : V → Bool
  | .non => true
  | .bl _ => true
  | .int _ => true
  | .str _ => true
  | _ => false
/-- == of flat values -/
def eqV : V → V → Bool
  | .non, .non => true
  | .bl a, .bl b => a == b
  | .bl a, .int b => (if a then 1 else 0) == b
  | .int a, .bl b => a == (if b then 1 else 0)
  | .int a, .int b => a == b
  | .str a, .str b => a == b
  | _, _ => false
theorem eqAt_V {A : Around} {s : Shared} {y x : V} {u v : Value} (ry : RelV y u) (rx : RelV x v) (fy : flatV y = true) (fx : flatV x = true) : SeqAt.EqAt A s u v (eqV y x) := by
  cases y with
  | non =>
    cases ry
    cases x with
    | non => cases rx; exact SeqAt.EqAt.same _
    | bl b => cases rx; exact SeqAt.EqAt.none_bool b
    | int b => obtain ⟨t, rfl⟩ := rx; exact SeqAt.EqAt.none_int b t
    | str b => obtain ⟨t, rfl⟩ := rx; exact SeqAt.EqAt.none_str b t
    | _ => exact absurd (show false = true from fx) Bool.false_ne_true
  | bl a =>
    cases ry
    cases x with
    | non => cases rx; exact SeqAt.EqAt.bool_none a
    | bl b => cases rx; exact SeqAt.EqAt.bool_bool a b
    | int b => obtain ⟨t, rfl⟩ := rx; exact SeqAt.EqAt.bool_int a b t
    | str b => obtain ⟨t, rfl⟩ := rx; exact SeqAt.EqAt.bool_str a b t
    | _ => exact absurd (show false = true from fx) Bool.false_ne_true
  | int a =>
    obtain ⟨t', rfl⟩ := ry
    cases x with
    | non => cases rx; exact SeqAt.EqAt.int_none a t'
    | bl b => cases rx; exact SeqAt.EqAt.int_bool a t' b
    | int b => obtain ⟨t, rfl⟩ := rx; exact SeqAt.EqAt.int_int a t' b t
    | str b => obtain ⟨t, rfl⟩ := rx; exact SeqAt.EqAt.int_str a t' b t
    | _ => exact absurd (show false = true from fx) Bool.false_ne_true
  | str a =>
    obtain ⟨t', rfl⟩ := ry
    cases x with
    | non => cases rx; exact SeqAt.EqAt.str_none a t'
    | bl b => cases rx; exact SeqAt.EqAt.str_bool a t' b
    | int b => obtain ⟨t, rfl⟩ := rx; exact SeqAt.EqAt.str_int a t' b t
    | str b => obtain ⟨t, rfl⟩ := rx; exact SeqAt.EqAt.str_str a t' b t
    | _ => exact absurd (show false = true from fx) Bool.false_ne_true
  | _ => exact absurd (show false = true from fy) Bool.false_ne_true
/-! ### len, list(x), tuple(x) of any list or tuple that is read -/
theorem call_len_seq : CallR X (.builtin "len") (fun xs H Q => ∃ p ys, xs = [.ref p] ∧ (SqL X.K H p ys ∨ SqT X.K H p ys) ∧ Q (.int ys.length) H) := by
  intro pins s σ H xs us Q I r h
  obtain ⟨p, ys, rfl, hq, q⟩ := h
  obtain ⟨u, rfl, rx⟩ := vals1 r
  cases rx
  have hn := line63
  rcases hq with hq | hq
  · obtain ⟨its, r', pl, hz⟩ := I.list hq
    have hlen := r'.length
    exact Calls.call_len_list pl.isList (by simp only [List.size_toArray] <;> omega) ⟨.int ys.length, H, I.tok _, ⟨s.toks + 1, by rw [List.size_toArray, hlen]⟩, q⟩
  · obtain ⟨its, r', pl, hz⟩ := I.tuple hq
    have hlen := r'.length
    exact len_tuple pl (by simp only [List.size_toArray] <;> omega) ⟨.int ys.length, H, I.tok _, ⟨s.toks + 1, by rw [List.size_toArray, hlen]⟩, q⟩
theorem call_len_str : CallR X (.builtin "len") (fun xs H Q => ∃ z, xs = [.str z] ∧ z.length ≤ sizeLine ∧ Q (.int z.length) H) := by
  intro pins s σ H xs us Q I r h
  obtain ⟨z, rfl, hz, q⟩ := h
  obtain ⟨u, rfl, t, rfl⟩ := vals1 r
  have hn := line63
  exact len_str (by omega) ⟨.int z.length, H, I.tok _, ⟨_, rfl⟩, q⟩
theorem CallR.or {f : Value} {r r' : List V → Hp → VK → Prop} (h : CallR X f r) (h' : CallR X f r') : CallR X f (fun xs H Q => r xs H Q ∨ r' xs H Q) := by
  intro pins s σ H xs us Q I rs q
  rcases q with q | q
  · exact h pins s σ H xs us Q I rs q
  · exact h' pins s σ H xs us Q I rs q
theorem call_list_of : CallR X (.type "list") (fun xs H Q => ∃ p ys, xs = [.ref p] ∧ (SqL X.K H p ys ∨ SqT X.K H p ys) ∧ ∀ l, H l = none → Q (.ref l) (upd H l (.lst ys))) := by
  intro pins s σ H xs us Q I r h
  obtain ⟨p, ys, rfl, hq, q⟩ := h
  obtain ⟨u, rfl, rx⟩ := vals1 r
  cases rx
  have fin : ∀ (its : List Value), Vals ys its → ys.length ≤ sizeLine → ∀ (h' : Heap) (c' : Nat), (∀ b o', s.heap.get? b = some o' → h'.get? b = some o') →
      h'.get? s.heap.objs.size = some { cls := .type "list", dict := none, data := .seq its.toArray c', slots := #[] } → EP X pins σ Q (.ref s.heap.objs.size) { s with heap := h' } := fun its r' hz h' c' kp e =>
    ⟨.ref s.heap.objs.size, _, I.laid (t' := s.toks) kp (Nat.le_refl _) (show ObjOk X.prog X.w _ h' _ (.lst ys) from ⟨hz, its, c', r', e⟩), rfl, q _ (I.hok.fresh (Nat.le_refl _))⟩
  rcases hq with hq | hq
  · obtain ⟨its, r', pl, hz⟩ := I.list hq
    have hlen := r'.length
    obtain ⟨o, ho, hc, n, hd⟩ := pl.isList
    exact call_list_seq p (.inl rfl) ho hc hd (fun h' c' kp e => fin its r' hz h' c' kp e) (by simp only [List.size_toArray] <;> omega)
  · obtain ⟨its, r', pl, hz⟩ := I.tuple hq
    have hlen := r'.length
    obtain ⟨o, ho, hc, n, hd⟩ := pl
    exact call_list_seq p (.inr rfl) ho hc hd (fun h' c' kp e => fin its r' hz h' c' kp e) (by simp only [List.size_toArray] <;> omega)
theorem call_tuple_of : CallR X (.type "tuple") (fun xs H Q => ∃ p ys, xs = [.ref p] ∧ ((SqL X.K H p ys ∧ ∀ l, H l = none → Q (.ref l) (upd H l (.tup ys))) ∨ (SqT X.K H p ys ∧ Q (.ref p) H))) := by
  intro pins s σ H xs us Q I r h
  obtain ⟨p, ys, rfl, h⟩ := h
  obtain ⟨u, rfl, rx⟩ := vals1 r
  cases rx
  rcases h with ⟨hq, q⟩ | ⟨hq, q⟩
  · obtain ⟨its, r', pl, hz⟩ := I.list hq
    have hlen := r'.length
    refine call_tuple_list pl.isList (fun h' kp => ?_) (by simp only [List.size_toArray] <;> omega)
    have I1 : Inv X pins σ H { s with heap := h' } := I.kept (t' := s.toks) kp
    have I2 : Inv X pins σ (upd H h'.objs.size (.tup ys)) { s with heap := h'.push { cls := .type "tuple", data := .seq its.toArray } } :=
      I1.laid (t' := s.toks) (fun b o e => Heap.get?_push_of_some _ e) (Nat.le_refl _) (show ObjOk X.prog X.w _ _ _ (.tup ys) from ⟨hz, its, r', IsTup.new _ _⟩)
    exact ⟨.ref h'.objs.size, _, I2, rfl, q _ (I1.hok.fresh (Nat.le_refl _))⟩
  · obtain ⟨its, r', pl, hz⟩ := I.tuple hq
    exact call_tuple_same pl ⟨.ref p, H, I, rfl, q⟩

/-! ### the call of a builtin's method: o.m(..) -/
/-- the value is of that builtin type -/
def tyV (K : PySem.W.Frag) (T : String) (x : V) (H : Hp) : Prop := match x with
  | .str _ => T = "str"
  | .int _ => T = "int"
  | .ref p => (T = "list" ∧ ∃ xs, SqL K H p xs) ∨ (T = "tuple" ∧ ∃ o, K.lookup p = some o ∧ o.cls = .type "tuple" ∧ o.dict = none) ∨
      (T = "dict" ∧ ((∃ kvs, H p = some (.dK kvs)) ∨ ∃ kvs, H p = some (.dT kvs))) ∨ (T = "set" ∧ ∃ S n, H p = some (.set S n))
  | _ => False
theorem tyV_is {pins : List (Addr × Obj)} {σ : St} {H : Hp} {s : Shared} {T : String} {x : V} {v : Value} (I : Inv X pins σ H s) (r : RelV x v) (ty : tyV X.K T x H) :
    s.TypeIs v T ∧ ∀ a, v = .ref a → ∃ ob, s.heap.get? a = some ob ∧ ob.dict = none := by
  cases x with
  | str z =>
    obtain ⟨t, rfl⟩ := r
    cases (show T = "str" from ty)
    exact ⟨typeIs_str s z t, fun _ e => nomatch e⟩
  | int i =>
    obtain ⟨t, rfl⟩ := r
    cases (show T = "int" from ty)
    exact ⟨typeIs_int s i t, fun _ e => nomatch e⟩
  | ref p =>
    cases r
    rcases ty with ⟨rfl, xs, hq⟩ | ⟨rfl, o, hk, hc, hd⟩ | ⟨rfl, hk⟩ | ⟨rfl, S, n, hk⟩
    · obtain ⟨its, _, pl, _⟩ := I.list hq
      refine ⟨pl.isList.typeIs, fun a e => ?_⟩
      cases e
      obtain ⟨o, n, e, c, hd, _⟩ := pl
      exact ⟨o, e, hd⟩
    · refine ⟨⟨o, I.kIn p o hk, hc⟩, fun a e => ?_⟩
      cases e
      exact ⟨o, I.kIn _ o hk, hd⟩
    · have z : ∃ o, s.heap.get? p = some o ∧ o.ExactDict := by
        rcases hk with ⟨kvs, hk⟩ | ⟨kvs, hk⟩
        · obtain ⟨_, _, _, _, o, _, _, e, ex, _⟩ := I.hok p _ hk
          exact ⟨o, e, ex⟩
        · obtain ⟨_, _, _, _, o, _, _, e, ex, _⟩ := I.hok p _ hk
          exact ⟨o, e, ex⟩
      obtain ⟨o, e, ex⟩ := z
      refine ⟨⟨o, e, ex.1⟩, fun a e2 => ?_⟩
      cases e2
      exact ⟨o, e, ex.2.1⟩
    · obtain ⟨o, _, _, _, e, ex, _⟩ := I.hok p _ hk
      refine ⟨⟨o, e, ex.1⟩, fun a e2 => ?_⟩
      cases e2
      exact ⟨o, e, ex.2.1⟩
  | _ => exact False.elim ty
variable {o e : Expr} {es : List Expr} {to : TE} {t : TA} {name : Str} {apos cpos : Pos} {T id : String} {r : V → List V → Hp → VK → Prop}
/- xs.append(e), list.index on a module's tuple .. are MtR facts of 06m -/
end
end L2

namespace L2
open PySem PySem.Spec PyProof.Rows

def MtM (X : Cx) (id : String) (r : V → List V → Hp → VK → Prop) : Prop :=
  ∀ (pins : List (Addr × Obj)) (s : Shared) (σ : St) (H : Hp) (x : V) (xs : List V) (v : Value) (us : List Value) (Q : VK), Inv X pins σ H s → RelV x v → Vals xs us → r x xs H Q →
    wpAny (model X.prog X.w) X.A (call (.builtin id) (v :: us)) (EP X pins σ Q) X.xe s

/-! ### lists of values -/
theorem Vals.one : ∀ {x : V} {us : List Value}, Vals [x] us → ∃ u, us = [u] ∧ RelV x u
  | _, _, .cons r .nil => ⟨_, rfl, r⟩
theorem Vals.two : ∀ {x y : V} {us : List Value}, Vals [x, y] us → ∃ u v, us = [u, v] ∧ RelV x u ∧ RelV y v
  | _, _, _, .cons r (.cons q .nil) => ⟨_, _, rfl, r, q⟩
theorem Vals.zero : ∀ {us : List Value}, Vals [] us → us = []
  | _, .nil => rfl
theorem Vals.dropLast {xs : List V} {us : List Value} (h : Vals xs us) : Vals xs.dropLast us.dropLast := by
  induction h with
  | nil => exact .nil
  | cons r t ih =>
    cases t with
    | nil => exact .nil
    | cons q t' => exact .cons r ih
theorem Vals.eraseIdx : ∀ {xs : List V} {us : List Value} (i : Nat), Vals xs us → Vals (xs.eraseIdx i) (us.eraseIdx i)
  | _, _, _, .nil => .nil
  | _, _, 0, .cons _ t => t
  | _, _, i + 1, .cons r t => .cons r (Vals.eraseIdx i t)
theorem Vals.reverse {xs : List V} {us : List Value} (h : Vals xs us) : Vals xs.reverse us.reverse := by
  induction h with
  | nil => exact .nil
  | cons r t ih => rw [List.reverse_cons, List.reverse_cons]; exact Vals.append ih (.cons r .nil)
theorem Vals.rep {xs : List V} {us : List Value} (h : Vals xs us) : ∀ k : Nat, Vals (List.replicate k xs).flatten (List.replicate k us).flatten
  | 0 => .nil
  | k + 1 => by
    rw [List.replicate_succ, List.replicate_succ, List.flatten_cons, List.flatten_cons]
    exact Vals.append h (Vals.rep h k)
theorem erase_last {α : Type} (l : List α) : l.eraseIdx (l.length - 1) = l.dropLast := by
  induction l with
  | nil => rfl
  | cons a r ih =>
    cases r with
    | nil => rfl
    | cons b r =>
      have e : (a :: b :: r).length - 1 = ((b :: r).length - 1) + 1 := by
        have h1 : (a :: b :: r).length = r.length + 2 := rfl
        have h2 : (b :: r).length = r.length + 1 := rfl
        omega
      rw [e, List.eraseIdx_cons_succ, ih]
      all_goals rfl
theorem foldl_rep (its : List Value) : ∀ (k : Nat) (acc : List Value),
    List.foldl (fun x1 x2 => x1 ++ x2) acc.toArray (List.replicate k its.toArray) = (acc ++ (List.replicate k its).flatten).toArray
  | 0, acc => by simp
  | k + 1, acc => by
    have e : acc.toArray ++ its.toArray = (acc ++ its).toArray := by simp
    have e2 : (acc ++ its) ++ (List.replicate k its).flatten = acc ++ (List.replicate (k + 1) its).flatten := by
      rw [List.replicate_succ, List.flatten_cons, List.append_assoc]
    rw [← e2, ← foldl_rep its k (acc ++ its), ← e, List.replicate_succ, List.foldl_cons]

section
variable {X : Cx} {pins : List (Addr × Obj)} {σ : St} {H : Hp} {s : Shared} {l b : Addr} {xs ys zs : List V}

/-! ### the two steps: a tracked list is rewritten, a new list is laid -/
theorem Inv.lset {its its' : List Value} {n : Nat} {f : Array Value → Array Value} {t' : Nat} (I : Inv X pins σ H s) (hH : H l = some (.lst xs))
    (e : s.heap.get? l = some { cls := .type "list", data := .seq its.toArray n }) (hf : f its.toArray = its'.toArray) (hv : Vals ys its') (hz : ys.length ≤ sizeLine) :
    Inv X pins σ (upd H l (.lst ys)) { s with heap := s.heap.update l (Obj.mapSeq f), toks := t' } := by
  have q := PySem.IsL.update e f
  rw [hf] at q
  refine I.write (x := l) (e := l) (by rw [hH]; exact trivial) (.inl rfl) (fun b' u hb hu => (Heap.get?_update_other s.heap (Obj.mapSeq f) (Ne.symm hb)).trans hu) ⟨_, q⟩ ?_
  exact ⟨hz, its', _, hv, q⟩
theorem Inv.lnew {its : List Value} {t' : Nat} (I : Inv X pins σ H s) (hv : Vals ys its) (hz : ys.length ≤ sizeLine) :
    Inv X pins σ (upd H s.heap.objs.size (.lst ys)) { s with heap := s.heap.push { cls := .type "list", data := .seq its.toArray }, toks := t' } :=
  I.laid (fun _ _ q => Heap.get?_push_of_some _ q) (Nat.le_refl _) ⟨hz, its, 0, hv, Heap.get?_push_size _ rfl⟩
theorem Inv.fresh (I : Inv X pins σ H s) : H s.heap.objs.size = none := I.hok.fresh (Nat.le_refl _)
theorem Inv.lstM (I : Inv X pins σ H s) (hH : H l = some (.lst xs)) : xs.length ≤ sizeLine ∧ ∃ (its : List Value) (n : Nat), Vals xs its ∧ xs.length = its.length ∧ s.heap.get? l = some { cls := .type "list", data := .seq its.toArray n } := by
  obtain ⟨z, its, n, r, e⟩ := I.hok l _ hH
  exact ⟨z, its, n, r, r.length, e⟩

theorem notLongL {n : Nat} (h : n ≤ sizeLine) : Builtin.List.listTooLong n = false := by
  unfold Builtin.List.listTooLong
  exact decide_eq_false (by omega)
end

section
variable {X : Cx}

/-! ### methods -/
def rAppend : V → List V → Hp → VK → Prop := fun x vs H Q => ∃ l xs y, x = .ref l ∧ vs = [y] ∧ H l = some (.lst xs) ∧ xs.length < sizeLine ∧ Q .non (upd H l (.lst (xs ++ [y])))
theorem mt_append : MtM X "list.append" rAppend := by
  intro pins s σ H x vs v us Q I rx rv h
  obtain ⟨l, xs, y, rfl, rfl, hH, hz, q⟩ := h
  cases rx
  obtain ⟨u, rfl, ru⟩ := rv.one
  obtain ⟨z, its, n, r, hl, e⟩ := I.lstM hH
  refine call_meets F.slot_list_append ⟨_, e, rfl⟩ F.entry_list_append (F.args_list_append_2 _ _) (PySem.list_append l its.toArray n u (by rw [List.size_toArray]; omega)) ⟨e, ?_⟩
  refine ⟨.non, _, I.lset (its' := its ++ [u]) hH e (by simp) (r.append (.cons ru .nil)) ?_, rfl, q⟩
  rw [List.length_append, List.length_singleton]
  omega

def rExtend : V → List V → Hp → VK → Prop := fun x vs H Q => ∃ l b xs zs, x = .ref l ∧ vs = [.ref b] ∧ H l = some (.lst xs) ∧ H b = some (.lst zs) ∧ xs.length + zs.length ≤ sizeLine ∧ Q .non (upd H l (.lst (xs ++ zs)))
theorem mt_extend : MtM X "list.extend" rExtend := by
  intro pins s σ H x vs v us Q I rx rv h
  obtain ⟨l, b, xs, zs, rfl, rfl, hH, hB, hz, q⟩ := h
  cases rx
  obtain ⟨u, rfl, ru⟩ := rv.one
  cases ru
  obtain ⟨z, its, n, r, hl, e⟩ := I.lstM hH
  obtain ⟨z2, its2, n2, r2, hl2, e2⟩ := I.lstM hB
  have hsz : its.toArray.size + its2.toArray.size ≤ sizeLine := by rw [List.size_toArray, List.size_toArray]; omega
  have hlong : ¬ (!its.toArray.isEmpty && Builtin.List.listTooLong (its.toArray.size + its2.toArray.size)) = true := by
    rw [notLongL hsz, Bool.and_false]
    exact Bool.false_ne_true
  refine call_meets F.slot_list_extend ⟨_, e, rfl⟩ F.entry_list_extend (F.args_list_extend_2 _ _)
    (AutoSeq1.list_extend_list_list_0 l its.toArray n b its2.toArray n2 hlong (by rw [List.size_toArray]; omega) (by omega)) ⟨e, e2, ?_⟩
  refine ⟨.non, _, I.lset (its' := its ++ its2) hH e (by simp) (r.append r2) ?_, rfl, q⟩
  rw [List.length_append]
  omega

def rPop : V → List V → Hp → VK → Prop := fun x vs H Q => ∃ l xs y, x = .ref l ∧ vs = [] ∧ H l = some (.lst xs) ∧ xs[xs.length - 1]? = some y ∧ Q y (upd H l (.lst xs.dropLast))
theorem mt_pop : MtM X "list.pop" rPop := by
  intro pins s σ H x vs v us Q I rx rv h
  obtain ⟨l, xs, y, rfl, rfl, hH, hy, q⟩ := h
  cases rx
  have hus := rv.zero
  subst hus
  obtain ⟨z, its, n, r, hl, e⟩ := I.lstM hH
  obtain ⟨u, hu, ru⟩ := r.get hy
  have hy' : its.toArray[its.toArray.size - 1]? = some u := by
    show its.toArray[its.length - 1]? = some u
    rw [← Array.getElem?_toList, ← hl]
    exact hu
  refine call_meets F.slot_list_pop ⟨_, e, rfl⟩ F.entry_list_pop (F.args_list_pop_1 _) (MeetsSeq.list_pop_last l its.toArray n u hy' (by rw [List.size_toArray]; omega)) ⟨e, ?_⟩
  refine ⟨y, _, I.lset (its' := its.dropLast) hH e ?_ r.dropLast ?_, ru, q⟩
  · show its.toArray.eraseIdxIfInBounds (its.toArray.size - 1) = its.dropLast.toArray
    rw [List.size_toArray, List.eraseIdxIfInBounds_toArray, erase_last]
  · rw [List.length_dropLast]
    omega

def rClear : V → List V → Hp → VK → Prop := fun x vs H Q => ∃ l xs, x = .ref l ∧ vs = [] ∧ H l = some (.lst xs) ∧ Q .non (upd H l (.lst []))
theorem mt_clear : MtM X "list.clear" rClear := by
  intro pins s σ H x vs v us Q I rx rv h
  obtain ⟨l, xs, rfl, rfl, hH, q⟩ := h
  cases rx
  have hus := rv.zero
  subst hus
  obtain ⟨z, its, n, r, hl, e⟩ := I.lstM hH
  refine call_meets F.slot_list_clear ⟨_, e, rfl⟩ F.entry_list_clear (F.args_list_clear_1 _) (AutoSeq1.list_clear_list_0 l its.toArray n (by rw [List.size_toArray]; omega)) ⟨e, ?_⟩
  exact ⟨.non, _, I.lset (its' := []) (ys := []) hH e rfl .nil (Nat.zero_le _), rfl, q⟩

/-! ### list + list, list += list, list * int -/
def rCat : R2 := fun x y H Q => ∃ l b xs zs, x = .ref l ∧ y = .ref b ∧ H l = some (.lst xs) ∧ H b = some (.lst zs) ∧ xs.length + zs.length ≤ sizeLine ∧ ∀ p, H p = none → Q (.ref p) (upd H p (.lst (xs ++ zs)))
theorem op_cat : OpR X (binaryOp .Add) rCat := by
  intro pins s σ H x y v u Q I rx ry h
  obtain ⟨l, b, xs, zs, rfl, rfl, hH, hB, hz, q⟩ := h
  cases rx
  cases ry
  obtain ⟨z, its, n, r, hl, e⟩ := I.lstM hH
  obtain ⟨z2, its2, n2, r2, hl2, e2⟩ := I.lstM hB
  refine PySem.P.add_list e e2 ?_ (by rw [List.size_toArray, List.size_toArray]; omega)
  have ea : its.toArray ++ its2.toArray = (its ++ its2).toArray := by simp
  rw [ea]
  exact ⟨.ref _, _, I.lnew (t' := s.toks) (r.append r2) (by rw [List.length_append]; omega), rfl, q _ I.fresh⟩
/-- a list times an int (a negative one is nothing) -/
def rRep : R2 := fun x y H Q => ∃ l k xs, x = .ref l ∧ y = .int k ∧ H l = some (.lst xs) ∧ -(2 ^ 63) ≤ k ∧ k < 2 ^ 63 ∧ xs.length * k.toNat ≤ sizeLine ∧
  ∀ p, H p = none → Q (.ref p) (upd H p (.lst (List.replicate k.toNat xs).flatten))
theorem len_rep {α : Type} (xs : List α) (k : Nat) : (List.replicate k xs).flatten.length = k * xs.length := by
  induction k with
  | zero => simp
  | succ k ih => rw [List.replicate_succ, List.flatten_cons, List.length_append, ih, Nat.succ_mul, Nat.add_comm]
theorem op_rep : OpR X (binaryOp .Mult) rRep := by
  intro pins s σ H x y v u Q I rx ry h
  obtain ⟨l, k, xs, rfl, rfl, hH, h1, h2, hz, q⟩ := h
  cases rx
  obtain ⟨t, rfl⟩ := ry
  obtain ⟨z, its, n, r, hl, e⟩ := I.lstM hH
  have hlen : its.toArray.size * k.toNat ≤ sizeLine := by rw [List.size_toArray, ← hl]; exact hz
  have hcap : ¬ its.toArray.size * k.toNat > (2 ^ 63 - 1) / 8 := by
    have : (sizeLine : Nat) ≤ (2 ^ 63 - 1) / 8 := by decide
    omega
  have hfit : ¬ (!Builtin.List.listFitsIndex k) = true := by
    rw [fitsIndex_both h1 h2]
    exact Bool.false_ne_true
  have hlong : ¬ Builtin.List.listTooLong (its.toArray.size * k.toNat) = true := by
    rw [notLongL hlen]
    exact Bool.false_ne_true
  have hnew : List.foldl (fun x1 x2 => x1 ++ x2) #[] (List.replicate (if its.toArray.isEmpty = true then 0 else k.toNat) its.toArray) = (List.replicate k.toNat its).flatten.toArray := by
    have f0 : ∀ m : Nat, List.foldl (fun x1 x2 => x1 ++ x2) #[] (List.replicate m its.toArray) = (List.replicate m its).flatten.toArray := fun m => by
      have := foldl_rep its m []
      rw [List.nil_append] at this
      exact this
    rw [f0]
    cases its with
    | nil => simp
    | cons a r' => rw [if_neg (by simp)]
  refine wpAny_binaryOp_repeat_ref (T := "list") (U := "int") (by decide) ⟨_, e, rfl⟩ (fun s' => typeIs_int s' k t) noFill_list_mul F.fills_int_mul F.slot_int_rmul repeat_list F.slot_int_index.lookup
    (call_meets F.slot_int_rmul (typeIs_int s k t) F.entry_int_rmul (F.args_int_rmul_2 _ _) (int___rmul___int_list k t l its.toArray n)
      ⟨e, rfl, ⟨_, e, rfl⟩, call_meets F.slot_list_mul ⟨_, e, rfl⟩ F.entry_list_mul (F.args_list_mul_2 _ _) (AutoListH.list___mul___list_int_3 l its.toArray n k t hfit hcap hlong) ⟨e, ?_⟩⟩)
  rw [hnew]
  exact ⟨.ref _, _, I.lnew (t' := s.toks) (r.rep k.toNat) (by rw [len_rep, Nat.mul_comm]; exact hz), rfl, q _ I.fresh⟩

/-! ### del xs[i] -/
end

/-! ### xs[a:b] = ys -/
section
variable {prog : Program} {w : World} {A : Around} {E : Value → Shared → Prop} {s : Shared}
end

section
variable {X : Cx}
end
end L2

namespace Att
open PySem PySem.W PySem.Calls PyProof.Rows

/-! ### the script -/
theorem ints_of_wellAll {P : Params} {h : Heap} : ∀ (ns : List Int) (vs : List Value), WellAll P h vs (ns.map WData.int) → IntsAre vs ns := by
  intro ns
  induction ns with
  | nil =>
    intro vs w
    rw [List.map_nil] at w
    cases w
    exact .nil
  | cons n ns ih =>
    intro vs w
    rw [List.map_cons] at w
    cases w with
    | cons a b =>
      cases a
      exact .cons _ _ (ih _ b)

theorem script_of {l : OpenLaw} {n : Nat} (hn : l.most = some n) {P : Params} {h : Heap} {args : List WData} {vals : List Value}
    (hpre : l.row.toRowW.claim.pre args = true) (hwl : WellAll P h vals args) :
    ∃ a vs ns, vals = [Value.ref a] ∧ args = [WData.list (ns.map WData.int)] ∧ h.get? a = some { cls := .type "list", data := .seq vs.toArray } ∧ IntsAre vs ns ∧ ns.length ≤ n := by
  have hsh : WShape.hasAll [] args [.list .int] = true := (pre_splitW hpre).1
  have hc : l.pre.holds [] { args := args } = true := (pre_splitW hpre).2
  obtain ⟨d, r, rfl, h1, h2⟩ := hasAllW_cons hsh
  obtain rfl := hasAllW_nil h2
  obtain ⟨xs, rfl, h3⟩ := hasW_list h1
  obtain ⟨ns, rfl⟩ := items_int h3
  have hlen : ns.length ≤ n := by
    unfold OpenLaw.pre at hc
    have h4 : (WTm.not (.lt (.lit (.int (n : Int))) (.len (.arg 0)))).holds [] { args := [.list (ns.map .int)] } = true := by
      have h4 := (holds_andW hc).1
      rw [hn] at h4
      exact h4
    have h5 := condW_of h4 (w_not (w_lt w_lit (w_len_list (w_arg rfl))))
    rw [List.length_map] at h5
    refine Nat.le_of_not_lt fun q => ?_
    have q' : (n : Int) < ((ns.length : Nat) : Int) := by omega
    first
      | (rw [decide_eq_true q'] at h5; exact absurd h5 (by decide))
      | (simp at h5; omega)
  cases hwl with
  | cons w1 w2 =>
    cases w2
    cases w1 with
    | list ho hall => exact ⟨_, _, ns, rfl, rfl, ho, ints_of_wellAll ns _ hall, hlen⟩

theorem post_true (l : OpenLaw) (args : List WData) : l.row.toRowW.claim.post args (.bool true) args = true :=
  postW_of (r := l.row.toRowW) (X := (true == true))
    (show WShape.has [] (.bool true) .bool = true by first | rfl | decide | simp [WShape.has, WShape.arms, WShape.armsAll])
    (show (WTm.eq .res (.lit (.bool true))).value [] { args := args, res := some (.bool true), after := args } = some (.bool (true == true)) from w_eq_bool (w_res rfl) w_lit) rfl

/-! ### the attachment: holds_open's last premise (the goal 'hc' behind k_head) from a wpAny of the law's body -/
/-- the same from a codeAny of the CALL (for a layer whose function contracts speak of calls) -/
theorem attach_call {l : OpenLaw} {n : Nat} {q : Program} {loose : List Str} {XP : (Str → Option Value) → Heap → Prop} {YP : World → Heap → Prop} {d : DefRec}
    (hn : l.most = some n) (hdf : d.params.defaults = [])
    (call : ∀ (w : World) (s₀ s₁ : Shared) (mg mb : Str → Option Value) (fa : Addr) (o : Obj) (pm cd doc : Value) (a : Addr) (vs : List Value) (ns : List Int),
      Ground q loose [] XP w s₀ mg mb s₁.heap → YP w s₁.heap →
      s₁.heap.get? fa = some o → o.data = .func (docDef d.name d.params d.body d.scope pm cd doc) → s₁.heap.CodeRec cd d.name → mg d.name = some (.ref fa) →
      s₁.heap.get? a = some { cls := .type "list", data := .seq vs.toArray } → IntsAre vs ns → ns.length ≤ n → s₁.gens = #[] →
      codeAny (model l.prog w) callerA (.call (.ref fa) ⟨[.ref a], []⟩) (fun r s' => r = .ok (.ret (.bool true)) ∧ OldK s₁.heap s'.heap ∧ s'.os = s₁.os ∧ AllBare s'.gens) s₁) :
    WalkO q loose XP YP l.row.toRowW d [] (fun f vs => PySem.call f vs) := by
  intro w s₀ s₁ mg mb G Y fa o pm cd doc dV kV ho hd hcd hD hmg hg args vals as hpre hlay hrd hwl hlo
  obtain rfl : dV = .none := Dflts.none hD hdf
  obtain rfl : kV = .none := Dflts.noKw hD
  obtain ⟨a, vs, ns, rfl, rfl, hobj, hints, hlen⟩ := script_of hn hpre hwl
  refine enter_call (codeAny_mono (call w s₀ s₁ mg mb fa o pm cd doc a vs ns G Y ho (fd_plain hd) hcd hmg hobj hints hlen hg) fun r s' hq => ?_)
  obtain ⟨rfl, h2, h3, h4⟩ := hq
  exact ⟨.inl ⟨.bool true, .bool true, [], rfl, fun _ => rfl, .bool true, post_true l _, fun _ => ⟨List.Pairwise.nil, fun _ hm => (nomatch hm)⟩⟩, h2, h3, h4⟩

/-! ### rules over ANY heap (no ledger) from facts about the written part K: the library's own take a ledger (News) for what they write -/
section
variable {prog : Program} {w : World} {A : Around} {E : Value → Shared → Prop} {s : Shared} {K : Frag}

/-! the whole heap as the ledger: makes every rule that writes through a ledger a rule over any heap -/
def ledger (h : Heap) (L d : Addr) : List (Addr × Obj) := (List.range h.objs.size).filterMap fun a => if a = L ∨ a = d then none else (h.get? a).map fun o => (a, o)
end
end Att

namespace L2
open PySem PySem.Spec PyProof.Rows

theorem vals_ints : ∀ {vs : List Value} {ns : List Int}, IntsAre vs ns → Vals (ns.map V.int) vs
  | _, _, .nil => .nil
  | _, _, .cons n t h => .cons ⟨t, rfl⟩ (vals_ints h)

/-- nothing is tracked but the script, known to the object (or it is an object of the module) -/
def Only (H : Hp) : Prop := ∀ b, H b = none ∨ ∃ o xs, H b = some (.frz o (.lst xs))

/-- THE HEAD: the law's promise, at the heap behind the top. F, the promise of the law's def, may use that base is part of the heap (so K.In base, base.Ns mainGlobals mg stand in Mod) -/
theorem law_call {P : Program} {w : World} {K : PySem.W.Frag} {mg mb : Str → Option Value} {CX : CXT} {k : Nat} {fa a : Addr} {fd : FuncData} {x : Str} {sp : Sp} {s₁ : Shared} {vs : List Value} {ns : List Int}
    (KX : K.In s₁.heap) (hns : s₁.heap.Ns mainGlobals mg) (hb : s₁.heap.Ns builtinsNs mb) (hbb : ∀ x : Str, x ≠ "__name__" → mb x = bootBuiltins x) (hlim : s₁.heap.NoLimit) (hg : s₁.gens = #[])
    (ha : s₁.heap.get? a = some { cls := .type "list", data := .seq vs.toArray }) (hi : IntsAre vs ns) (hl : ns.length ≤ sizeLine) (hr : Room k callerA)
    (F : ∀ base : Heap, K.In base → base.Ns mainGlobals mg → FnOk P w K mg base CX k fa fd [x] sp) (hbind : ∀ (s : Shared) (u : Value), BindsTo s fd ⟨[u], []⟩ [(x, u)])
    (hsp : ∀ H : Hp, Only H → SqL K H a (ns.map V.int) → sp [.ref a] H (fun v _ => v = .bl true) fun _ _ _ => False)
    (hCX : ∀ H e s', CX [] H s₁ (fun _ _ _ => False) e s' → False) :
    codeAny (model P w) callerA (.call (.ref fa) ⟨[.ref a], []⟩) (fun r s' => r = .ok (.ret (.bool true)) ∧ OldK s₁.heap s'.heap ∧ s'.os = s₁.os ∧ AllBare s'.gens) s₁ := by
  have rv := vals_ints hi
  have lenV := hi.length
  -- from an abstract heap in which nothing but the script may be tracked
  have core : ∀ H : Hp, Only H → SqL K H a (ns.map V.int) → HOk P w H s₁.heap → (∀ b, H b ≠ none → b = a) → (H a ≠ none → K.lookup a = none) →
      codeAny (model P w) callerA (.call (.ref fa) ⟨[.ref a], []⟩) (fun r s' => r = .ok (.ret (.bool true)) ∧ OldK s₁.heap s'.heap ∧ s'.os = s₁.os ∧ AllBare s'.gens) s₁ := by
    intro H hO hS hok hA hK
    have base_of : ∀ {b : Addr} {o : Obj}, s₁.heap.get? b = some o → H b = none → (hidT s₁.heap H).get? b = some o := fun e n => hidT_get e n
    have noA : ∀ {b : Addr} {o : Obj} {es : Array DictEntry} {ep : Nat}, s₁.heap.get? b = some o → o.data = .dict es ep → H b = none := fun {b o es ep} e d => by
      cases q : H b with
      | none => rfl
      | some u =>
        have e' : b = a := hA b (by rw [q]; simp)
        subst e'
        rw [ha] at e; cases e
        have d' : Data.seq vs.toArray _ = Data.dict es ep := d
        cases d'
    have nsK : ∀ {b : Addr} {m : Str → Option Value}, s₁.heap.Ns b m → (hidT s₁.heap H).Ns b m := fun {b m} ⟨o, es, ep, e, d, r⟩ => ⟨o, es, ep, base_of e (noA e d), d, r⟩
    have hKb : K.In (hidT s₁.heap H) := fun b o e => base_of (KX b o e) (by
      cases q : H b with
      | none => rfl
      | some u =>
        have e' : b = a := hA b (by rw [q]; simp)
        subst e'
        rw [hK (by rw [q]; simp)] at e; cases e)
    have hM : Mod K mg (hidT s₁.heap H) := ⟨hKb, nsK hns, ⟨mb, nsK hb, hbb⟩, let ⟨mc, h1, h2⟩ := hlim; ⟨mc, nsK h1, h2⟩⟩
    have e0 : Env0 P w K mg (hidT s₁.heap H) callerA [] s₁ H := ⟨rfl, hM, fun b o e => of_hidT e, Nat.le_of_eq (hidT_size _ _), trivial, fun b hb => absurd (show b ∈ ([] : List Addr) from hb) (by simp), hok, .of_eq hg⟩
    refine codeAny_mono ((F _ hKb (nsK hns)).run callerA [] s₁ H ⟨[.ref a], []⟩ [.ref a] [.ref a] _ _ hr e0 (hbind s₁ (.ref a)) (.cons rfl .nil) (hsp H hO hS)) fun r s' h => ?_
    cases r with
    | error e => exact (hCX H e s' h).elim
    | ok fl =>
      cases fl with
      | next => exact False.elim h
      | brk => exact False.elim h
      | cont => exact False.elim h
      | ret u =>
        obtain ⟨v, H', os, bare, un, hok', r', q⟩ := h
        have q' : v = .bl true := q
        subst q'
        obtain rfl : u = Value.bool true := r'
        refine ⟨rfl, OldK.of_keep fun b o e => ?_, os, bare⟩
        cases q : H b with
        | none => exact un.keep b o e q (by intro z; exact absurd (show b ∈ ([] : List Addr) from z) (by simp)) (by simp)
        | some u =>
          rcases hO b with z | ⟨ob, xs, z⟩
          · rw [q] at z; cases z
          · have z2 := un.frzs b ob _ z
            obtain ⟨e1, _⟩ := hok b _ z
            obtain ⟨e2, _⟩ := hok' b _ z2
            rw [e] at e1; cases e1
            exact e2
  cases hk : K.lookup a with
  | some o =>
    -- the script is one of the module's own objects
    have e := KX a o hk
    rw [ha] at e
    cases e
    refine core (fun _ => none) (fun _ => .inl rfl) (.inr ⟨_, vs.toArray, _, hk, rfl, rfl, rfl, by rw [List.size_toArray, lenV]; exact hl, by simpa using rv⟩) (fun b u z => by have z' : (none : Option HO) = some u := z; cases z') (fun b z => absurd rfl z) fun z => absurd rfl z
  | none =>
    refine core (fun b => if b = a then some (.frz { cls := .type "list", data := .seq vs.toArray } (.lst (ns.map V.int))) else none) (fun b => ?_) (.inl (.inr ⟨{ cls := .type "list", data := .seq vs.toArray }, if_pos rfl⟩)) (fun b u z => ?_) (fun b z => ?_) fun _ => hk
    · by_cases hb : b = a
      · exact .inr ⟨_, _, if_pos hb⟩
      · exact .inl (if_neg hb)
    · by_cases hb : b = a
      · have z' := (if_pos hb).symm.trans z
        cases z'
        subst hb
        exact ⟨ha, by rw [List.length_map]; exact hl, vs, _, rv, ha⟩
      · have z' := (if_neg hb).symm.trans z
        cases z'
    · by_cases hb : b = a
      · exact hb
      · exact absurd (if_neg hb) z
end L2

namespace L2
open PySem PySem.Spec PyProof.Rows

/-- the goal that k_head leaves (case hc), from the law's promise. F gives the function object fd (K's own) once, then the promise over every base -/
theorem walk_of {l : PySem.W.OpenLaw} {n k : Nat} {q : Program} {loose : List Str} {XP : (Str → Option Value) → Heap → Prop} {YP : World → Heap → Prop} {d : DefRec} {K : Params → PySem.W.Frag} {CX : World → CXT} {sp : World → Sp} {x : Str}
    (hn : l.most = some n) (hn2 : n ≤ sizeLine) (hdf : d.params.defaults = []) (hr : Room k callerA)
    (hY : ∀ (w : World) (h : Heap), YP w h → (K w.params).In h)
    (F : ∀ (w : World) (mg : Str → Option Value) (fa : Addr) (h : Heap), (K w.params).In h → h.Ns mainGlobals mg → mg d.name = some (.ref fa) →
      ∃ fd : FuncData, (∀ (s : Shared) (u : Value), BindsTo s fd ⟨[u], []⟩ [(x, u)]) ∧
        ∀ base : Heap, (K w.params).In base → base.Ns mainGlobals mg → FnOk l.prog w (K w.params) mg base (CX w) k fa fd [x] (sp w))
    (hsp : ∀ (w : World) (H : Hp) (a : Addr) (ns : List Int), ns.length ≤ n → Only H → SqL (K w.params) H a (ns.map V.int) → sp w [.ref a] H (fun v _ => v = .bl true) fun _ _ _ => False)
    (hCX : ∀ (w : World) (H : Hp) (s : Shared) (e : Value) (s' : Shared), CX w [] H s (fun _ _ _ => False) e s' → False) :
    PySem.W.WalkO q loose XP YP l.row.toRowW d [] (fun f vs => PySem.call f vs) := by
  refine Att.attach_call hn hdf fun w s₀ s₁ mg mb fa o pm cd doc a vs ns G Y ho hd hcd hmg hobj hints hlen hg => ?_
  have KX := hY w _ Y
  obtain ⟨fd, hb, hF⟩ := F w mg fa _ KX G.T.g hmg
  exact law_call KX G.T.g G.T.b G.T.builtins G.T.nolimit hg hobj hints (Nat.le_trans hlen hn2) hr hF hb (fun H hO hS => hsp w H a ns hlen hO hS) fun H e s' => hCX w H s₁ e s'
end L2

/-! SHORT WORDS over the layer: a def of the text, its body, what a loop and a test want. -/
namespace L2
open PySem PySem.Spec PyProof.Rows

/-! ### the text by places -/
def defArgs (s : Stmt) : Arguments := match s with
  | .FunctionDef _ a _ _ _ _ _ _ _ _ => a
  | _ => { posonlyargs := [], args := [], vararg := none, kwonlyargs := [], kw_defaults := [], kwarg := none, defaults := [] }
def defBody (s : Stmt) : List Stmt := match s with
  | .FunctionDef _ _ b _ _ _ _ _ _ _ => b
  | _ => []
def defScope (s : Stmt) : Scope := match s with
  | .FunctionDef _ _ _ _ _ _ sc _ _ _ => sc
  | _ => { kind := .function, names := [], isGenerator := false, isCoroutine := false }

/-! ### no exception leaves a def -/
abbrev CX0 : CXT := fun _ _ _ _ _ _ => False
abbrev E0 : XK := fun _ _ _ => False
theorem pass0 {X : Cx} : Passes CX0 X E0 := fun _ _ _ _ _ _ _ h => h.elim

/-! ### a def (or method) of the text as it stands behind the top -/
structure Fun (K : PySem.W.Frag) (x qual : Str) (st : Stmt) (f : Addr) (fd : FuncData) : Prop where
  ex : ∃ (oc : Value) (od : Option Addr) (kV doc pm : Value) (an : Option Addr) (cdv ct : Value) (osl : Array (Option Value)),
    fd = PySem.W.fnOf x qual (defArgs st) (defBody st) (defScope st) .none kV doc pm an cdv ct ∧ K.lookup f = some ⟨oc, od, .func fd, osl⟩ ∧ PySem.W.codeIn K cdv qual = true
  kp : PySem.W.keepIn K (.ref f) = true
section
variable {P : Program} {w : World} {K : PySem.W.Frag} {mg : Str → Option Value} {base : Heap}
/-- THE RULE for a def: its body as a term of rules, and the reading of that term -/
theorem Fun.ok {x qual : Str} {st : Stmt} {f : Addr} {fd : FuncData} {N ps : List Str} {k : Nat} {sp : Sp} (F : Fun K x qual st f fd) (S : FnScope N ps (defScope st)) (len : ∀ vs H Q E, sp vs H Q E → vs.length = ps.length)
    (hbody : ∀ (cdv : Value) (A : Around) (outer : List Env) (s : Shared) (H : Hp) (vs : List V) (Q : VK) (E : XK), Room k (A.deeper (envOfC qual (defScope st) s.heap.objs.size f cdv)) → sp vs H Q E →
      ∃ t, PSs (cxOf CX0 P w K mg base N qual (defScope st) f cdv A outer s H E).nox (defBody st) t ∧ t { nx := fun _ H' => Q .non H', rt := Q } (start N vs) H) : FnOk P w K mg base CX0 (k + 1) f fd ps sp := by
  obtain ⟨oc, od, kV, doc, pm, an, cdv, ct, osl, rfl, lk, hcd⟩ := F.ex
  refine fn_of lk hcd S len fun A outer s H vs Q E hr hsp => ?_
  obtain ⟨t, h, q⟩ := hbody cdv A outer s H vs Q E hr hsp
  exact ⟨t, h.nox, q⟩
/-- how its arguments bind (no defaults): h is «fun _ _ _ _ _ _ us hl => match us, hl with | [_, _], _ => rfl», one _ a parameter -/
theorem Fun.binds {x qual : Str} {st : Stmt} {f : Addr} {fd : FuncData} {ps : List Str} (F : Fun K x qual st f fd)
    (h : ∀ (kV doc pm : Value) (an : Option Addr) (cdv ct : Value) (us : List Value), us.length = ps.length → bindArgs (PySem.W.fnOf x qual (defArgs st) (defBody st) (defScope st) .none kV doc pm an cdv ct) ⟨us, []⟩ = pure (ps.zip us)) : Binds K fd ps [] := by
  obtain ⟨oc, od, kV, doc, pm, an, cdv, ct, osl, rfl, lk, hcd⟩ := F.ex
  exact .all (h kV doc pm an cdv ct)
theorem fun_mk {x qual : Str} {st : Stmt} {f : Addr} {oc : Value} {od an : Option Addr} {osl : Array (Option Value)} {kV doc pm cdv ct : Value} (l : K.lookup f = some ⟨oc, od, .func (PySem.W.fnOf x qual (defArgs st) (defBody st) (defScope st) .none kV doc pm an cdv ct), osl⟩)
    (c : PySem.W.codeIn K cdv qual = true) (k : PySem.W.keepIn K (.ref f) = true) : Fun K x qual st f (PySem.W.fnOf x qual (defArgs st) (defBody st) (defScope st) .none kV doc pm an cdv ct) := ⟨⟨oc, od, kV, doc, pm, an, cdv, ct, osl, rfl, l, c⟩, k⟩
end
/-! ### expressions in short: the name that stands in the i-th slot -/
section
variable {X : Cx}
end

/-! ### tests -/
theorem iteF {A B : Prop} (h : B) : if false = true then A else B := by
  rw [if_neg Bool.false_ne_true]
  exact h
theorem iteT {A B : Prop} (h : A) : if true = true then A else B := by
  rw [if_pos rfl]
  exact h
/-! ### heaps -/
/-- all that was tracked is as it was -/
def Same (H H' : Hp) : Prop := ∀ b o, H b = some o → H' b = some o
theorem Same.refl (H : Hp) : Same H H := fun _ _ h => h
theorem Same.trans {H H1 H2 : Hp} (a : Same H H1) (b : Same H1 H2) : Same H H2 := fun c o h => b c o (a c o h)
theorem Same.free {H H' : Hp} (e : Same H H') {l : Addr} (h : H' l = Option.none) : H l = Option.none := by
  cases q : H l with
  | none => rfl
  | some o =>
    rw [e l o q] at h
    cases h
theorem Same.seq {K : PySem.W.Frag} {H H' : Hp} {a : Addr} {xs : List V} (e : Same H H') (h : SqL K H a xs) : SqL K H' a xs := by
  rcases h with (h | ⟨o, h⟩) | h
  · exact .inl (.inl (e _ _ h))
  · exact .inl (.inr ⟨o, e _ _ h⟩)
  · exact .inr h

end L2

set_option Elab.async false
set_option linter.all false
set_option maxRecDepth 100000
set_option maxHeartbeats 1000000
namespace L2
open PySem PySem.Spec PyProof.Rows

/-! ### branches that do not unfold -/
@[irreducible] def br (c : Bool) (A B : Prop) : Prop := if c = true then A else B
section
variable {A B p : Prop} {c : Bool}
theorem br_iff : br c A B = (if c = true then A else B) := by unfold br; rfl
theorem br_T (h : A) : br true A B := by unfold br; exact iteT h
theorem br_F (h : B) : br false A B := by unfold br; exact iteF h
theorem br_any (h1 : c = true → A) (h2 : c = false → B) : br c A B := by
  cases c with
  | true => exact br_T (h1 rfl)
  | false => exact br_F (h2 rfl)
theorem br_dec [Decidable p] (h1 : p → A) (h2 : ¬ p → B) : br (decide p) A B := br_any (fun h => h1 (of_decide_eq_true h)) fun h => h2 (of_decide_eq_false h)
theorem br_dT [Decidable p] (hp : p) (h : A) : br (decide p) A B := br_dec (fun _ => h) fun n => absurd hp n
theorem br_dF [Decidable p] (hp : ¬ p) (h : B) : br (decide p) A B := br_dec (fun n => absurd n hp) fun _ => h
theorem br_not (h : br c B A) : br (!c) A B := by
  cases c with
  | true => unfold br at h ⊢; simpa using h
  | false => unfold br at h ⊢; simpa using h
end

/-! ### heaps -/
/-- all but a is as it was -/
def Chg (a : Addr) (H H' : Hp) : Prop := ∀ b o, b ≠ a → H b = some o → H' b = some o
theorem Chg.upd {H : Hp} {a : Addr} {o : HO} : Chg a H (upd H a o) := fun b u hb e => by rw [upd_ne hb]; exact e
theorem Same.upd {H : Hp} {a : Addr} {o : HO} (h : H a = none) : Same H (L2.upd H a o) := fun b u e => by rw [upd_ne (ne_of_none e h)]; exact e
theorem Same.chg {H0 H H' : Hp} {a : Addr} (s : Same H0 H) (n : H0 a = none) (c : Chg a H H') : Same H0 H' := fun b o e => c b o (ne_of_none e n) (s b o e)
theorem Chg.refl (a : Addr) (H : Hp) : Chg a H H := fun _ _ _ e => e
theorem Chg.trans {H H1 H2 : Hp} {a : Addr} (x : Chg a H H1) (y : Chg a H1 H2) : Chg a H H2 := fun b o h e => y b o h (x b o h e)
theorem Chg.same {H H1 H2 : Hp} {a : Addr} (x : Chg a H H1) (y : Same H1 H2) : Chg a H H2 := fun b o h e => y b o (x b o h e)
theorem Same.at {H H' : Hp} {b : Addr} {o : HO} (s : Same H H') (e : H b = some o) : H' b = some o := s b o e
theorem Chg.at {H H' : Hp} {a b : Addr} {o : HO} (s : Chg a H H') (e : H b = some o) (n : b ≠ a) : H' b = some o := s b o n e
/-! ### names -/
def qV (i : Nat) : TE := fun σ H Q => match σ[i]? with
  | some (some v) => Q v H
  | _ => False
section
variable {X : Cx}
theorem pq (i : Nat) {x : Str} {pos : Pos} (hN : X.N[i]? = some x := by rfl) (hv : Vis X.env.scope x := by first | exact Or.inl rfl | exact Or.inr (Or.inl rfl) | exact Or.inr (Or.inr rfl)) (hd : (x == ("__debug__" : Str)) = false := by decide)
    (hcd : (x == ("__classdict__" : Str)) = false := by decide) : PE X (.Name x pos) (qV i) := fun pins s σ H Q I h => by
  refine pe_var hN hv hd hcd pins s σ H Q I ?_
  unfold qV at h
  split at h
  · rename_i v e
    exact ⟨v, e, h⟩
  · exact h.elim

/-! ### arithmetic -/
@[irreducible] def rMulI (i j : Int) (H : Hp) (Q : VK) : Prop := IntMulOk i j ∧ Q (.int (i * j)) H
@[irreducible] def rDivI (i j : Int) (H : Hp) (Q : VK) : Prop := (j ≠ 0 ∧ j.natAbs.log2 < 9000) ∧ Q (.int (i.fdiv j)) H
@[irreducible] def rModI (i j : Int) (H : Hp) (Q : VK) : Prop := j ≠ 0 ∧ Q (.int (i.fmod j)) H
@[irreducible] def rPowI (i j : Int) (H : Hp) (Q : VK) : Prop := CPow i j ∧ Q (.int (i ^ j.toNat)) H
@[irreducible] def rCatL (a b : Addr) (H : Hp) (Q : VK) : Prop := ∃ xs zs, H a = some (.lst xs) ∧ H b = some (.lst zs) ∧ xs.length + zs.length ≤ sizeLine ∧
  ∀ p H', H p = none → Same H H' → H' p = some (.lst (xs ++ zs)) → Q (.ref p) H'
@[irreducible] def rRepL (a : Addr) (k : Int) (H : Hp) (Q : VK) : Prop := ∃ xs, H a = some (.lst xs) ∧ -(2 ^ 63) ≤ k ∧ k < 2 ^ 63 ∧ xs.length * k.toNat ≤ sizeLine ∧
  ∀ p H', H p = none → Same H H' → H' p = some (.lst (List.replicate k.toNat xs).flatten) → Q (.ref p) H'
def rAddM : R2 := fun x y H Q => match x, y with
  | .int i, .int j => Q (.int (i + j)) H
  | .ref a, .ref b => rCatL a b H Q
  | .str a, .str b => a.length + b.length ≤ sizeLine ∧ Q (.str (a ++ b)) H
  | _, _ => False
def rSubM : R2 := fun x y H Q => match x, y with
  | .int i, .int j => Q (.int (i - j)) H
  | _, _ => False
def rMulM : R2 := fun x y H Q => match x, y with
  | .int i, .int j => rMulI i j H Q
  | .ref a, .int k => rRepL a k H Q
  | _, _ => False
def rDivM : R2 := fun x y H Q => match x, y with
  | .int i, .int j => rDivI i j H Q
  | _, _ => False
def rModM : R2 := fun x y H Q => match x, y with
  | .int i, .int j => rModI i j H Q
  | _, _ => False
def rPowM : R2 := fun x y H Q => match x, y with
  | .int i, .int j => rPowI i j H Q
  | _, _ => False
theorem oAdd : OpR X (binaryOp .Add) rAddM := by
  intro pins s σ H x y v u Q I rx ry h
  unfold rAddM at h
  split at h
  · exact op_add pins s σ H _ _ v u Q I rx ry ⟨_, _, rfl, rfl, h⟩
  · unfold rCatL at h
    obtain ⟨xs, zs, h1, h2, h3, h4⟩ := h
    exact op_cat pins s σ H _ _ v u Q I rx ry ⟨_, _, xs, zs, rfl, rfl, h1, h2, h3, fun p hp => h4 p _ hp (Same.upd hp) upd_same⟩
  · exact op_add_str pins s σ H _ _ v u Q I rx ry ⟨_, _, rfl, rfl, h.1, h.2⟩
  · exact h.elim
theorem oSub : OpR X (binaryOp .Sub) rSubM := by
  intro pins s σ H x y v u Q I rx ry h
  unfold rSubM at h
  split at h
  · exact op_sub pins s σ H _ _ v u Q I rx ry ⟨_, _, rfl, rfl, h⟩
  · exact h.elim
theorem oMul : OpR X (binaryOp .Mult) rMulM := by
  intro pins s σ H x y v u Q I rx ry h
  unfold rMulM at h
  split at h
  · unfold rMulI at h
    obtain ⟨t, rfl⟩ := rx
    obtain ⟨t', rfl⟩ := ry
    exact mul_int ⟨.int _, H, I.tok _, ⟨_, rfl⟩, h.2⟩ h.1
  · unfold rRepL at h
    obtain ⟨xs, h1, h2, h3, h4, h5⟩ := h
    exact op_rep pins s σ H _ _ v u Q I rx ry ⟨_, _, xs, rfl, rfl, h1, h2, h3, h4, fun p hp => h5 p _ hp (Same.upd hp) upd_same⟩
  · exact h.elim
theorem oDiv : OpR X (binaryOp .FloorDiv) rDivM := by
  intro pins s σ H x y v u Q I rx ry h
  unfold rDivM at h
  split at h
  · unfold rDivI at h
    obtain ⟨⟨h1, h2⟩, h3⟩ := h
    obtain ⟨t, rfl⟩ := rx
    obtain ⟨t', rfl⟩ := ry
    exact floordiv_int h1 ⟨.int _, H, I.tok _, ⟨_, rfl⟩, h3⟩ (.inl (PyProof.noPylong_of_log2 h2))
  · exact h.elim
theorem oMod : OpR X (binaryOp .Mod) rModM := by
  intro pins s σ H x y v u Q I rx ry h
  unfold rModM at h
  split at h
  · unfold rModI at h
    exact op_modN pins s σ H _ _ v u Q I rx ry ⟨_, _, rfl, rfl, h.1, h.2⟩
  · exact h.elim
theorem oPow : OpR X (binaryOp .Pow) rPowM := by
  intro pins s σ H x y v u Q I rx ry h
  unfold rPowM at h
  split at h
  · unfold rPowI at h
    exact op_pow pins s σ H _ _ v u Q I rx ry ⟨_, _, rfl, rfl, h.1, h.2⟩
  · exact h.elim
def rNegM : V → Hp → VK → Prop := fun x H Q => match x with
  | .int i => Q (.int (-i)) H
  | _ => False
/-! how they are read -/
section
variable {i j : Int} {H : Hp} {Q : VK}
theorem mul_rd (h : IntMulOk i j) (q : Q (.int (i * j)) H) : rMulI i j H Q := by unfold rMulI; exact ⟨h, q⟩
theorem log2_lt {n k : Nat} (h : n < 2 ^ k) (hk : 0 < k) : n.log2 < k := by
  by_cases h0 : n = 0
  · subst h0; simpa using hk
  · exact (Nat.log2_lt h0).mpr h
theorem big9000 {j : Int} (h1 : -(10 ^ 240) < j) (h2 : j < 10 ^ 240) : j.natAbs < 2 ^ 2000 := by
  have e : (10 : Int) ^ 240 = ((10 ^ 240 : Nat) : Int) := by norm_cast
  have e2 : (10 : Nat) ^ 240 < 2 ^ 2000 := by decide +kernel
  rw [e] at h1 h2
  generalize hN : (10 : Nat) ^ 240 = N at h1 h2 e2
  generalize hM : (2 : Nat) ^ 2000 = M at e2
  omega
theorem div_rd (h1 : 0 < j) (h2 : j < 10 ^ 240) (q : Q (.int (i / j)) H) : rDivI i j H Q := by
  unfold rDivI
  refine ⟨⟨by omega, ?_⟩, ?_⟩
  · have h := log2_lt (big9000 (j := j) (by have : (0 : Int) < 10 ^ 240 := by decide +kernel
                                            generalize (10 : Int) ^ 240 = N at this; omega) h2) (by decide)
    omega
  · rw [Int.fdiv_eq_ediv_of_nonneg _ (by omega)]; exact q
theorem mod_rd (h1 : 0 < j) (q : Q (.int (i % j)) H) : rModI i j H Q := by
  unfold rModI
  refine ⟨by omega, ?_⟩
  rw [Int.fmod_eq_emod_of_nonneg _ (by omega)]; exact q
theorem pow_rd (h : CPow i j) (q : Q (.int (i ^ j.toNat)) H) : rPowI i j H Q := by unfold rPowI; exact ⟨h, q⟩
theorem cat_rd {a b : Addr} {xs zs : List V} (h1 : H a = some (.lst xs)) (h2 : H b = some (.lst zs)) (h3 : xs.length + zs.length ≤ sizeLine)
    (q : ∀ p H', H p = none → Same H H' → H' p = some (.lst (xs ++ zs)) → Q (.ref p) H') : rCatL a b H Q := by unfold rCatL; exact ⟨xs, zs, h1, h2, h3, q⟩
theorem rep_rd {a : Addr} {k : Int} {xs : List V} (h1 : H a = some (.lst xs)) (h2 : -(2 ^ 63) ≤ k) (h3 : k < 2 ^ 63) (h4 : xs.length * k.toNat ≤ sizeLine)
    (q : ∀ p H', H p = none → Same H H' → H' p = some (.lst (List.replicate k.toNat xs).flatten) → Q (.ref p) H') : rRepL a k H Q := by unfold rRepL; exact ⟨xs, h1, h2, h3, h4, q⟩
end

/-! ### comparisons -/
def rLtM : R2 := fun x y H Q => match x, y with
  | .int i, .int j => Q (.bl (decide (i < j))) H
  | _, _ => False
def rLeM : R2 := fun x y H Q => match x, y with
  | .int i, .int j => Q (.bl (decide (i ≤ j))) H
  | _, _ => False
def rGtM : R2 := fun x y H Q => match x, y with
  | .int i, .int j => Q (.bl (decide (j < i))) H
  | _, _ => False
def rGeM : R2 := fun x y H Q => match x, y with
  | .int i, .int j => Q (.bl (decide (j ≤ i))) H
  | _, _ => False
theorem oLt : OpR X (compareOp .Lt) rLtM := by
  intro pins s σ H x y v u Q I rx ry h
  unfold rLtM at h
  split at h
  · exact op_lt pins s σ H _ _ v u Q I rx ry ⟨_, _, rfl, rfl, h⟩
  · exact h.elim
theorem oLe : OpR X (compareOp .LtE) rLeM := by
  intro pins s σ H x y v u Q I rx ry h
  unfold rLeM at h
  split at h
  · exact op_le pins s σ H _ _ v u Q I rx ry ⟨_, _, rfl, rfl, h⟩
  · exact h.elim
theorem oGt : OpR X (compareOp .Gt) rGtM := by
  intro pins s σ H x y v u Q I rx ry h
  unfold rGtM at h
  split at h
  · exact op_gt pins s σ H _ _ v u Q I rx ry ⟨_, _, rfl, rfl, h⟩
  · exact h.elim
theorem oGe : OpR X (compareOp .GtE) rGeM := by
  intro pins s σ H x y v u Q I rx ry h
  unfold rGeM at h
  split at h
  · exact op_ge pins s σ H _ _ v u Q I rx ry ⟨_, _, rfl, rfl, h⟩
  · exact h.elim
/-- == of two things, to a depth n -/
inductive EqR (K : PySem.W.Frag) (H : Hp) : Nat → V → V → Bool → Prop where
  | flat {n : Nat} {x y : V} (fx : flatV x = true) (fy : flatV y = true) : EqR K H n x y (eqV x y)
  | tup {n : Nat} {a b : Addr} {xs ys : List V} (e : Nat → Bool) (ha : SqT K H a xs) (hb : SqT K H b ys) (h : ∀ (j : Nat) (x y : V), xs[j]? = some x → ys[j]? = some y → EqR K H n x y (e j)) :
      EqR K H (n + 1) (.ref a) (.ref b) ((List.range (min xs.length ys.length)).all e && xs.length == ys.length)
  | lst {n : Nat} {a b : Addr} {xs ys : List V} (e : Nat → Bool) (ha : SqL K H a xs) (hb : SqL K H b ys) (hl : xs.length = ys.length) (h : ∀ (j : Nat) (x y : V), xs[j]? = some x → ys[j]? = some y → EqR K H n x y (e j)) :
      EqR K H (n + 1) (.ref a) (.ref b) ((List.range xs.length).all e)
  | lstN {n : Nat} {a b : Addr} {xs ys : List V} (ha : SqL K H a xs) (hb : SqL K H b ys) (hl : xs.length ≠ ys.length) : EqR K H (n + 1) (.ref a) (.ref b) false
theorem eqV_self {x : V} (f : flatV x = true) : eqV x x = true := by
  cases x <;> first | rfl | (simp [eqV]; done) | exact absurd (show false = true from f) Bool.false_ne_true
section
variable {pins : List (Addr × Obj)} {σ : St} {H : Hp} {s : Shared}
theorem EqR.self (I : Inv X pins σ H s) {n : Nat} {x y : V} {b : Bool} (h : EqR X.K H n x y b) : x = y → b = true := by
  induction h with
  | flat fx fy => rintro rfl; exact eqV_self fx
  | tup e ha hb h ih =>
    intro q
    cases q
    have q := I.tuple_inj ha hb
    subst q
    rw [Nat.min_self, Bool.and_eq_true]
    refine ⟨List.all_eq_true.mpr fun j hj => ?_, by simp⟩
    have hj := List.mem_range.mp hj
    exact ih j _ _ (List.getElem?_eq_getElem hj) (List.getElem?_eq_getElem hj) rfl
  | lst e ha hb hl h ih =>
    intro q
    cases q
    have q := I.list_inj ha hb
    subst q
    refine List.all_eq_true.mpr fun j hj => ?_
    have hj := List.mem_range.mp hj
    exact ih j _ _ (List.getElem?_eq_getElem hj) (List.getElem?_eq_getElem hj) rfl
  | lstN ha hb hl =>
    intro q
    cases q
    exact absurd (congrArg List.length (I.list_inj ha hb)) hl
theorem in1_units (A : Around) : A.in1.units = A.units + 1 := rfl
mutual
theorem EqR.at (I : Inv X pins σ H s) : ∀ {n : Nat} {x y : V} {b : Bool}, EqR X.K H n x y b → ∀ {u v : Value} {A : Around}, RelV x u → RelV y v → A.units + n < cLine → SeqAt.EqAt A s u v b
  | _, _, _, _, .flat fx fy, u, v, A, rx, ry, _ => eqAt_V rx ry fx fy
  | _, .ref a, .ref b, _, h, u, v, A, rx, ry, hu => by
    cases rx
    cases ry
    by_cases e : a = b
    · subst e
      rw [h.self I rfl]
      exact SeqAt.EqAt.same _
    · exact SeqAt.EqAt.of_refs e (EqR.rc I h hu)
theorem EqR.rc (I : Inv X pins σ H s) : ∀ {n : Nat} {a b : Addr} {c : Bool}, EqR X.K H n (.ref a) (.ref b) c → ∀ {A : Around}, A.units + n < cLine → SeqAt.RcAt A s (.ref a) (.ref b) c
  | _, _, _, _, .flat fx _, _, _ => absurd (show false = true from fx) Bool.false_ne_true
  | _, a, b, _, .tup (xs := xs) (ys := ys) e ha hb h, A, hu => by
    obtain ⟨its, r1, t1, z1⟩ := I.tuple ha
    obtain ⟨its2, r2, t2, z2⟩ := I.tuple hb
    have l1 : its.toArray.size = xs.length := by rw [List.size_toArray]; exact r1.length.symm
    have l2 : its2.toArray.size = ys.length := by rw [List.size_toArray]; exact r2.length.symm
    have q := SeqAt.RcAt.tuples (A := A) (e := e) t1 t2 (by omega) fun j h1 h2 => by
      rw [l1] at h1
      rw [l2] at h2
      obtain ⟨u1, e1, q1⟩ := r1.get (List.getElem?_eq_getElem h1)
      obtain ⟨u2, e2, q2⟩ := r2.get (List.getElem?_eq_getElem h2)
      have i1 : its.toArray[j] = u1 := by
        have := (List.getElem?_eq_some_iff.mp e1).2
        simpa using this
      have i2 : its2.toArray[j] = u2 := by
        have := (List.getElem?_eq_some_iff.mp e2).2
        simpa using this
      rw [i1, i2]
      exact EqR.at I (h j _ _ (List.getElem?_eq_getElem h1) (List.getElem?_eq_getElem h2)) q1 q2 (by rw [in1_units]; omega)
    rw [l1, l2] at q
    exact q
  | _, a, b, _, .lst (xs := xs) (ys := ys) e ha hb hl h, A, hu => by
    obtain ⟨its, r1, t1, z1⟩ := I.list ha
    obtain ⟨its2, r2, t2, z2⟩ := I.list hb
    have l1 : its.toArray.size = xs.length := by rw [List.size_toArray]; exact r1.length.symm
    have l2 : its2.toArray.size = ys.length := by rw [List.size_toArray]; exact r2.length.symm
    have q := SeqAt.RcAt.lists (A := A) (e := e) t1.isList t2.isList (by rw [l1, l2]; exact hl) (by omega) fun j h1 h2 => by
      rw [l1] at h1
      rw [l2] at h2
      obtain ⟨u1, e1, q1⟩ := r1.get (List.getElem?_eq_getElem h1)
      obtain ⟨u2, e2, q2⟩ := r2.get (List.getElem?_eq_getElem h2)
      have i1 : its.toArray[j] = u1 := by
        have := (List.getElem?_eq_some_iff.mp e1).2
        simpa using this
      have i2 : its2.toArray[j] = u2 := by
        have := (List.getElem?_eq_some_iff.mp e2).2
        simpa using this
      rw [i1, i2]
      exact EqR.at I (h j _ _ (List.getElem?_eq_getElem h1) (List.getElem?_eq_getElem h2)) q1 q2 (by rw [in1_units]; omega)
    rw [l1] at q
    exact q
  | _, a, b, _, .lstN (xs := xs) (ys := ys) ha hb hl, A, hu => by
    obtain ⟨its, r1, t1, z1⟩ := I.list ha
    obtain ⟨its2, r2, t2, z2⟩ := I.list hb
    have l1 : its.toArray.size = xs.length := by rw [List.size_toArray]; exact r1.length.symm
    have l2 : its2.toArray.size = ys.length := by rw [List.size_toArray]; exact r2.length.symm
    exact SeqAt.RcAt.lists_lengths t1.isList t2.isList (by rw [l1, l2]; simpa using hl) (by omega)
end
theorem EqR.rcNe (I : Inv X pins σ H s) : ∀ {n : Nat} {a b : Addr} {c : Bool}, EqR X.K H n (.ref a) (.ref b) c → ∀ {A : Around}, A.units + n < cLine → SeqAt.RcNeAt A s (.ref a) (.ref b) (!c)
  | _, _, _, _, .flat fx _, _, _ => absurd (show false = true from fx) Bool.false_ne_true
  | _, a, b, _, .tup (xs := xs) (ys := ys) e ha hb h, A, hu => by
    obtain ⟨its, r1, t1, z1⟩ := I.tuple ha
    obtain ⟨its2, r2, t2, z2⟩ := I.tuple hb
    have l1 : its.toArray.size = xs.length := by rw [List.size_toArray]; exact r1.length.symm
    have l2 : its2.toArray.size = ys.length := by rw [List.size_toArray]; exact r2.length.symm
    have q := SeqAt.RcNeAt.tuples (A := A) (e := e) t1 t2 (by omega) fun j h1 h2 => by
      rw [l1] at h1
      rw [l2] at h2
      obtain ⟨u1, e1, q1⟩ := r1.get (List.getElem?_eq_getElem h1)
      obtain ⟨u2, e2, q2⟩ := r2.get (List.getElem?_eq_getElem h2)
      have i1 : its.toArray[j] = u1 := by
        have := (List.getElem?_eq_some_iff.mp e1).2
        simpa using this
      have i2 : its2.toArray[j] = u2 := by
        have := (List.getElem?_eq_some_iff.mp e2).2
        simpa using this
      rw [i1, i2]
      exact EqR.at I (h j _ _ (List.getElem?_eq_getElem h1) (List.getElem?_eq_getElem h2)) q1 q2 (by rw [in1_units]; omega)
    rw [l1, l2] at q
    exact q
  | _, a, b, _, .lst (xs := xs) (ys := ys) e ha hb hl h, A, hu => by
    obtain ⟨its, r1, t1, z1⟩ := I.list ha
    obtain ⟨its2, r2, t2, z2⟩ := I.list hb
    have l1 : its.toArray.size = xs.length := by rw [List.size_toArray]; exact r1.length.symm
    have l2 : its2.toArray.size = ys.length := by rw [List.size_toArray]; exact r2.length.symm
    have q := SeqAt.RcNeAt.lists (A := A) (e := e) t1.isList t2.isList (by rw [l1, l2]; exact hl) (by omega) fun j h1 h2 => by
      rw [l1] at h1
      rw [l2] at h2
      obtain ⟨u1, e1, q1⟩ := r1.get (List.getElem?_eq_getElem h1)
      obtain ⟨u2, e2, q2⟩ := r2.get (List.getElem?_eq_getElem h2)
      have i1 : its.toArray[j] = u1 := by
        have := (List.getElem?_eq_some_iff.mp e1).2
        simpa using this
      have i2 : its2.toArray[j] = u2 := by
        have := (List.getElem?_eq_some_iff.mp e2).2
        simpa using this
      rw [i1, i2]
      exact EqR.at I (h j _ _ (List.getElem?_eq_getElem h1) (List.getElem?_eq_getElem h2)) q1 q2 (by rw [in1_units]; omega)
    rw [l1] at q
    exact q
  | _, a, b, _, .lstN (xs := xs) (ys := ys) ha hb hl, A, hu => by
    obtain ⟨its, r1, t1, z1⟩ := I.list ha
    obtain ⟨its2, r2, t2, z2⟩ := I.list hb
    have l1 : its.toArray.size = xs.length := by rw [List.size_toArray]; exact r1.length.symm
    have l2 : its2.toArray.size = ys.length := by rw [List.size_toArray]; exact r2.length.symm
    exact SeqAt.RcNeAt.lists_lengths t1.isList t2.isList (by rw [l1, l2]; simpa using hl) (by omega)
end
@[irreducible] def rEqO (K : PySem.W.Frag) (a b : Addr) (H : Hp) (Q : VK) : Prop := ∃ n c, n ≤ 40 ∧ EqR K H n (.ref a) (.ref b) c ∧ Q (.bl c) H
def rEqM (K : PySem.W.Frag) : R2 := fun x y H Q => match x, y with
  | .int i, .int j => Q (.bl (decide (i = j))) H
  | .bl i, .bl j => Q (.bl (decide (i = j))) H
  | .str i, .str j => Q (.bl (decide (i = j))) H
  | .ref a, .ref b => rEqO K a b H Q
  | x, y => scal x y = true ∧ Q (.bl (decide (x = y))) H
def rNeM (K : PySem.W.Frag) : R2 := fun x y H Q => rEqM K x y H fun v H' => match v with
  | .bl b => Q (.bl (!b)) H'
  | _ => False
theorem dec_inj {α β : Type} [DecidableEq α] [DecidableEq β] {f : α → β} (hf : ∀ a b, f a = f b → a = b) (a b : α) : decide (f a = f b) = decide (a = b) := by
  by_cases h : a = b
  · subst h; simp
  · rw [decide_eq_false h, decide_eq_false fun e => h (hf _ _ e)]
theorem oEq (hu : X.A.units + 40 < cLine) : OpR X (compareOp .Eq) (rEqM X.K) := by
  intro pins s σ H x y v u Q I rx ry h
  unfold rEqM at h
  split at h
  · rename_i i j
    exact op_eq pins s σ H _ _ v u Q I rx ry ⟨rfl, by rw [dec_inj (f := V.int) fun a b e => V.int.inj e]; exact h⟩
  · exact op_eq pins s σ H _ _ v u Q I rx ry ⟨rfl, by rw [dec_inj (f := V.bl) fun a b e => V.bl.inj e]; exact h⟩
  · exact op_eq pins s σ H _ _ v u Q I rx ry ⟨rfl, by rw [dec_inj (f := V.str) fun a b e => V.str.inj e]; exact h⟩
  · unfold rEqO at h
    obtain ⟨n, c, hn, h1, h2⟩ := h
    cases rx
    cases ry
    exact EqR.rc I h1 (A := X.A) (by omega) _ _ _ _ ⟨.bl c, H, I, rfl, h2⟩
  · exact op_eq pins s σ H _ _ v u Q I rx ry h
theorem oNe (hu : X.A.units + 40 < cLine) : OpR X (compareOp .NotEq) (rNeM X.K) := by
  intro pins s σ H x y v u Q I rx ry h
  unfold rNeM rEqM at h
  split at h
  · rename_i i j
    exact op_ne pins s σ H _ _ v u Q I rx ry ⟨rfl, by rw [dec_inj (f := V.int) fun a b e => V.int.inj e]; exact h⟩
  · exact op_ne pins s σ H _ _ v u Q I rx ry ⟨rfl, by rw [dec_inj (f := V.bl) fun a b e => V.bl.inj e]; exact h⟩
  · exact op_ne pins s σ H _ _ v u Q I rx ry ⟨rfl, by rw [dec_inj (f := V.str) fun a b e => V.str.inj e]; exact h⟩
  · unfold rEqO at h
    obtain ⟨n, c, hn, h1, h2⟩ := h
    cases rx
    cases ry
    exact EqR.rcNe I h1 (A := X.A) (by omega) _ _ _ _ ⟨.bl (!c), H, I, rfl, h2⟩
  · exact op_ne pins s σ H _ _ v u Q I rx ry ⟨h.1, h.2⟩
section
variable {K : PySem.W.Frag} {H : Hp} {Q : VK} {a b : Addr} {c : Bool} {n : Nat}
theorem eqO_rd (h : EqR K H n (.ref a) (.ref b) c) (q : Q (.bl c) H) (hn : n ≤ 40 := by decide) : rEqO K a b H Q := by unfold rEqO; exact ⟨n, c, hn, h, q⟩
end

/-! ### tests, and, or, not, if -/
/-- a value's truth -/
def qB (t : TE) : TT := fun σ H Q => t σ H fun x H1 => match x with
  | .bl c => Q c H1
  | .int i => Q (!decide (i = 0)) H1
  | _ => False
theorem ptV {e : Expr} {t : TE} (h : PE X e t) (he : ∀ whole, isTrue e X.env whole = (do let v ← whole; standAt e.pos; holding [v] (truthy v)) := by intro _; rfl) : PT X e (qB t) := fun pins s σ H Q I hw => by
  refine isTrue_plain (thn (h pins s σ H _ I hw) fun v s1 ⟨x, H1, I1, r1, q1⟩ => ?_) (he _)
  dsimp only at q1
  split at q1
  · exact tru_ok pins s1 σ H1 _ v Q I1 r1 ⟨_, rfl, q1⟩
  · rename_i i
    refine tru_ok pins s1 σ H1 _ v Q I1 r1 ⟨_, rfl, ?_⟩
    have e : (i != 0) = !decide (i = 0) := by by_cases h : i = 0 <;> simp [h]
    rw [e]; exact q1
  · exact q1.elim
theorem ptC {a b : Expr} {ta tb : TE} {pos : Pos} {op : CmpOp} {r : R2} (ho : OpR X (compareOp op) r) (ha : PE X a ta) (hb : PE X b tb) (hm : behindInMarks op b = false := by first | exact nomark _ | with_unfolding_all rfl) : PT X (.Compare a [op] [b] pos) (qB (tOp r ta tb)) := by
  intro pins s σ H Q I h
  refine wpAny_isTrue_Compare1 (thn (ha pins s σ H _ I h) fun v s1 ⟨x, H1, I1, r1, q1⟩ => thn (hb pins s1 σ H1 _ I1 q1) fun u s2 ⟨y, H2, I2, r2, q2⟩ =>
    thn (ho pins s2 σ H2 x y v u _ I2 r1 r2 q2) fun c s3 ⟨z, H3, I3, r3, q3⟩ => ?_) hm
  dsimp only at q3
  split at q3
  · cases r3
    exact wpAny_truthy_bool ⟨H3, I3, q3⟩
  · rename_i i
    refine tru_ok pins s3 σ H3 _ c Q I3 r3 ⟨_, rfl, ?_⟩
    have e : (i != 0) = !decide (i = 0) := by by_cases h : i = 0 <;> simp [h]
    rw [e]; exact q3
  · exact q3.elim
theorem peC {a b : Expr} {ta tb : TE} {pos : Pos} {op : CmpOp} {r : R2} (ho : OpR X (compareOp op) r) (ha : PE X a ta) (hb : PE X b tb) (hm : behindInMarks op b = false := by first | exact nomark _ | with_unfolding_all rfl) : PE X (.Compare a [op] [b] pos) (tOp r ta tb) :=
  pe_cmpR ho ha hb hm

variable {a b : Expr} {rest : List Expr} {tA tB' : TT} {ta tb : TE} {pos : Pos}
def qAnd (t u : TT) : TT := fun σ H Q => t σ H fun c H1 => br c (u σ H1 Q) (Q false H1)
def qOr (t u : TT) : TT := fun σ H Q => t σ H fun c H1 => br c (Q true H1) (u σ H1 Q)
theorem pwAnd (ha : PT X a tA) (hb : PW X (.BoolOp .And (b :: rest) pos) tB') : PW X (.BoolOp .And (a :: b :: rest) pos) (qAnd tA tB') := fun wh pins s σ H Q I h =>
  pw_and ha hb wh pins s σ H Q I (by unfold qAnd at h; simp only [br_iff] at h; exact h)
theorem pwOr (ha : PT X a tA) (hb : PW X (.BoolOp .Or (b :: rest) pos) tB') : PW X (.BoolOp .Or (a :: b :: rest) pos) (qOr tA tB') := fun wh pins s σ H Q I h =>
  pw_or ha hb wh pins s σ H Q I (by unfold qOr at h; simp only [br_iff] at h; exact h)
def qAndV (ta tb : TE) : TE := fun σ H Q => ta σ H fun x H1 => match x with
  | .bl c => br c (tb σ H1 Q) (Q (.bl false) H1)
  | _ => False
def qNotV (ta : TE) : TE := fun σ H Q => ta σ H fun x H1 => match x with
  | .bl c => Q (.bl (!c)) H1
  | _ => False
theorem peAnd (ha : PE X a ta) (hb : PE X (.BoolOp .And (b :: rest) pos) tb) : PE X (.BoolOp .And (a :: b :: rest) pos) (qAndV ta tb) := by
  intro pins s σ H Q I h
  refine BoolOp_and (thn (ha pins s σ H _ I h) fun v s1 ⟨x, H1, I1, r1, q1⟩ => ?_)
  dsimp only at q1
  split at q1
  · rename_i c
    cases r1
    refine wpAny_truthy_bool ?_
    rw [br_iff] at q1
    cases c with
    | true => exact hb pins s1 σ H1 Q I1 (by simpa using q1)
    | false => exact ⟨.bl false, H1, I1, rfl, by simpa using q1⟩
  · exact q1.elim
theorem peNot (ha : PE X a ta) : PE X (.UnaryOp .Not a pos) (qNotV ta) := by
  intro pins s σ H Q I h
  refine UnaryOp_ (thn (ha pins s σ H _ I h) fun v s1 ⟨x, H1, I1, r1, q1⟩ => ?_)
  dsimp only at q1
  split at q1
  · rename_i c
    cases r1
    exact not_of (wpAny_truthy_bool ⟨.bl (!c), H1, I1, rfl, q1⟩)
  · exact q1.elim
/-! ### statements -/
variable {st : Stmt} {t u : TS} {e : Expr} {te : TE}
def qIfS (c : TT) (t u : TS) : TS := fun D σ H => c σ H fun b H1 => br b (t D σ H1) (u D σ H1)
theorem psIf {c : Expr} {a b : List Stmt} {tc : TT} (hc : PT X c tc) (ha : PSs X a t) (hb : PSs X b u) : PS X (.If c a b pos) (qIfS tc t u) := fun pins s σ H D I h =>
  ps_if hc ha hb pins s σ H D I (by unfold qIfS at h; simp only [br_iff] at h; exact h)
@[irreducible] def loopW (J : It) (g : TG) (tb : TS) (D : Ends) (σ : St) (H1 : Hp) : Prop := ∃ W : Nat → Nat → St → Hp → Prop, (∃ m, W 0 m σ H1) ∧ ∀ i m σ H, W i m σ H →
  (J.stop i H ∧ D.nx σ H) ∨ (J.go i H ∧ ∃ N : St → Hp → Prop, (∀ σ' H', N σ' H' → ∃ m', m' < m ∧ W (i + 1) m' σ' H') ∧ ∀ x H', J.yld i H x H' → g x σ H' fun σ2 H2 => tb { D with nx := N, ct := N, bk := D.nx } σ2 H2)
def qFor (wi : TI) (g : TG) (tb : TS) : TS := fun D σ H => wi σ H fun J H1 => loopW J g tb D σ H1
theorem psFor {iter tg : Expr} {body : List Stmt} {wi : TI} {g : TG} {tb : TS} {pos : Pos} (hp : PassesOwn (model X.prog X.w) X.A X.env X.xe) (hc : X.calm = true) (hi : PI X tg iter wi) (hg : PG X tg g) (hb : PSs X body tb)
    (hs : ∀ x, foldedSetIterable iter X.env x = pure x := by intro _; rfl) : PS X (.For tg iter body [] pos) (qFor wi g tb) := fun pins s σ H D I h =>
  ps_for hp hc hi hg hb hs pins s σ H D I (by unfold qFor at h; unfold loopW at h; exact h)
@[irreducible] def rIter (K : PySem.W.Frag) (a : Addr) (H : Hp) (R : It → Hp → Prop) : Prop := ((∃ xs, SqL K H a xs) ∧ R (Itl K a) H) ∨ ((∃ xs, SqT K H a xs) ∧ R (Itt K a) H)
def qiSeq (K : PySem.W.Frag) (tl : TE) : TI := fun σ H R => tl σ H fun x H1 => match x with
  | .ref a => rIter K a H1 R
  | _ => False
theorem piSeq {tg l : Expr} {tl : TE} (hl : PE X l tl) : PI X tg l (qiSeq X.K tl) := by
  intro pins s σ H R I h
  refine thn (hl pins s σ H _ I h) fun v s1 ⟨x, H1, I1, r1, q1⟩ => ?_
  dsimp only at q1
  split at q1
  · rename_i a
    unfold rIter at q1
    cases r1
    have fp : ∀ b ∈ [s1.heap.objs.size], FpOk X pins H1 b := fun b hb => by
      have e : b = s1.heap.objs.size := by simpa using hb
      subst e
      exact I1.fpOk (Nat.le_refl _) (I1.hok.fresh (Nat.le_refl _))
    rcases q1 with ⟨⟨xs, hq⟩, q⟩ | ⟨⟨xs, hq⟩, q⟩
    · obtain ⟨its, rv, p, hz⟩ := I1.list hq
      refine wpAny_pyIter_list p.isList ?_
      exact ⟨s1.heap.objs.size, [s1.heap.objs.size], _, _, H1, rfl, I1.kept (t' := s1.toks) fun b o e => Heap.get?_push_of_some _ e, turn_list a _, ⟨_, Heap.get?_push_size _ rfl, rfl, rfl⟩, fp, q⟩
    · obtain ⟨its, rv, p, hz⟩ := I1.tuple hq
      refine wpAny_pyIter_tuple (show s1.heap.IsTuple a its.toArray from p) ?_
      exact ⟨s1.heap.objs.size, [s1.heap.objs.size], _, _, H1, rfl, I1.kept (t' := s1.toks) fun b o e => Heap.get?_push_of_some _ e, turn_tuple a _, ⟨_, Heap.get?_push_size _ rfl, rfl, rfl⟩, fp, q⟩
  · exact q1.elim
@[irreducible] def rRange (i j : Int) (H : Hp) (R : It → Hp → Prop) : Prop := (-(2 ^ 62) ≤ i ∧ i < 2 ^ 62 ∧ -(2 ^ 62) ≤ j ∧ j < 2 ^ 62) ∧ R (Itr i (j - i).toNat) H
def qiRng (ta : TA) : TI := fun σ H R => ta σ H fun vs H1 => match vs with
  | [.int j] => rRange 0 j H1 R
  | [.int i, .int j] => rRange i j H1 R
  | _ => False
theorem piRng1 {tg a : Expr} {ta : TA} {p pos : Pos} (hm : X.mg "range" = none) (ha : PA X [a] ta) (hg : Gl X "range" := by rfl) (hs : starEach [a] X.env = [(false, eval a X.env)] := by rfl) : PI X tg (.Call (.Name "range" p) [a] [] pos) (qiRng ta) := by
  intro pins s σ H R I h
  refine Call_ (ld_blt I hg hm boot_range (PyProof.Rows.callWith_type1 (thn (ha pos pins s σ H _ I h) fun us s1 ⟨vs, H1, I1, r1, q1⟩ => ?_) hs rfl))
  dsimp only at q1
  split at q1
  · unfold rRange at q1
    obtain ⟨⟨a1, a2, a3, a4⟩, q⟩ := q1
    cases r1 with
    | cons r rr =>
      cases rr
      obtain ⟨t, rfl⟩ := r
      exact call_range_1 (range_it I1 a1 a2 a3 a4 q)
  · unfold rRange at q1
    cases r1 with
    | cons r rr =>
      cases rr with
      | cons r' rr =>
        cases rr
        obtain ⟨t, rfl⟩ := r
        obtain ⟨t', rfl⟩ := r'
        obtain ⟨⟨a1, a2, a3, a4⟩, q⟩ := q1
        exact call_range_2 (range_it I1 a1 a2 a3 a4 q)
  · exact q1.elim
theorem piRng2 {tg a b : Expr} {ta : TA} {p pos : Pos} (hm : X.mg "range" = none) (ha : PA X [a, b] ta) (hg : Gl X "range" := by rfl) (hs : starEach [a, b] X.env = [(false, eval a X.env), (false, eval b X.env)] := by rfl) (hs2 : starEach [b] X.env = [(false, eval b X.env)] := by rfl) :
    PI X tg (.Call (.Name "range" p) [a, b] [] pos) (qiRng ta) := by
  intro pins s σ H R I h
  refine Call_ (ld_blt I hg hm boot_range (PyProof.Rows.callWith_type1 (thn (ha pos pins s σ H _ I h) fun us s1 ⟨vs, H1, I1, r1, q1⟩ => ?_) (by rw [hs, hs2]) (by rw [hs2]; rfl)))
  dsimp only at q1
  split at q1
  · unfold rRange at q1
    obtain ⟨⟨a1, a2, a3, a4⟩, q⟩ := q1
    cases r1 with
    | cons r rr =>
      cases rr
      obtain ⟨t, rfl⟩ := r
      exact call_range_1 (range_it I1 a1 a2 a3 a4 q)
  · unfold rRange at q1
    cases r1 with
    | cons r rr =>
      cases rr with
      | cons r' rr =>
        cases rr
        obtain ⟨t, rfl⟩ := r
        obtain ⟨t', rfl⟩ := r'
        obtain ⟨⟨a1, a2, a3, a4⟩, q⟩ := q1
        exact call_range_2 (range_it I1 a1 a2 a3 a4 q)
  · exact q1.elim
/-! the loops' readings -/
section
variable {K : PySem.W.Frag} {g : TG} {tb : TS} {D : Ends} {σ : St} {H : Hp} {R : It → Hp → Prop}
theorem iterL_rd {a : Addr} {xs : List V} (h : H a = some (.lst xs)) (q : R (Itl K a) H) : rIter K a H R := by unfold rIter; exact .inl ⟨⟨xs, SqL.of h⟩, q⟩
theorem range_rd {i j : Int} (h1 : -(2 ^ 62) ≤ i) (h2 : i < 2 ^ 62) (h3 : -(2 ^ 62) ≤ j) (h4 : j < 2 ^ 62) (q : R (Itr i (j - i).toNat) H) : rRange i j H R := by unfold rRange; exact ⟨⟨h1, h2, h3, h4⟩, q⟩
theorem loop_list {a : Addr} {xs : List V} (Pv : Nat → St → Hp → Prop) (h0 : Pv 0 σ H) (hl : ∀ i σ H, i ≤ xs.length → Pv i σ H → SqL K H a xs)
    (hs : ∀ i x σ H, xs[i]? = some x → Pv i σ H → g x σ H fun σ2 H2 => tb { D with nx := Pv (i + 1), ct := Pv (i + 1), bk := D.nx } σ2 H2) (hd : ∀ σ H, Pv xs.length σ H → D.nx σ H) : loopW (Itl K a) g tb D σ H := by
  unfold loopW; exact for_list Pv h0 hl hs hd
theorem loop_range {lo : Int} {n : Nat} (Pv : Nat → St → Hp → Prop) (h0 : Pv 0 σ H)
    (hs : ∀ i σ H, i < n → Pv i σ H → g (.int (lo + i)) σ H fun σ2 H2 => tb { D with nx := Pv (i + 1), ct := Pv (i + 1), bk := D.nx } σ2 H2) (hd : ∀ σ H, Pv n σ H → D.nx σ H) : loopW (Itr lo n) g tb D σ H := by
  unfold loopW; exact for_range Pv h0 hs hd
end
/-! while -/
section
variable {c : TT} {tb : TS} {D : Ends} {σ : St} {H H1 : Hp} {W : Nat → St → Hp → Prop} {m : Nat} {p : Prop}
end

/-! ### displays, index, store, slices -/
@[irreducible] def rNewT (xs : List V) (H : Hp) (Q : VK) : Prop := xs.length ≤ sizeLine ∧ ∀ p H', H p = none → Same H H' → H' p = some (.tup xs) → Q (.ref p) H'
@[irreducible] def rNewL (xs : List V) (H : Hp) (Q : VK) : Prop := xs.length ≤ sizeLine ∧ ∀ p H', H p = none → Same H H' → H' p = some (.lst xs) → Q (.ref p) H'
def qTup (t : TA) : TE := fun σ H Q => t σ H fun xs H1 => rNewT xs H1 Q
def qLst (t : TA) : TE := fun σ H Q => t σ H fun xs H1 => rNewL xs H1 Q
theorem peTup {es : List Expr} {x1} {t : TA} (h : PA X es t) : PE X (.Tuple es x1 pos) (qTup t) := by
  intro pins s σ H Q I hq
  refine wpAny_Tuple_spliced (thn (h pos pins s σ H _ I hq) fun us s1 ⟨xs, H1, I1, r, z⟩ => ?_)
  unfold rNewT at z
  obtain ⟨z, q⟩ := z
  refine ⟨by rw [← r.length]; exact z, ?_⟩
  have hf : H1 s1.heap.objs.size = none := I1.hok.fresh (Nat.le_refl _)
  refine ⟨.ref s1.heap.objs.size, upd H1 s1.heap.objs.size (.tup xs), I1.laid (t' := s1.toks) (fun b u e => Heap.get?_push_of_some _ e) (Nat.le_refl _) ?_, rfl, q _ _ hf (Same.upd hf) upd_same⟩
  exact ⟨z, us, r, ⟨_, Heap.get?_push_size _ rfl, rfl, _, rfl⟩⟩
theorem peLst {es : List Expr} {t : TA} (h : PA X es t) : PE X (.List es pos) (qLst t) := by
  intro pins s σ H Q I hq
  refine wpAny_List_spliced (thn (h pos pins s σ H _ I hq) fun us s1 ⟨xs, H1, I1, r, z⟩ => ?_)
  unfold rNewL at z
  obtain ⟨z, q⟩ := z
  refine ⟨by rw [← r.length]; exact z, ?_⟩
  have hf : H1 s1.heap.objs.size = none := I1.hok.fresh (Nat.le_refl _)
  refine ⟨.ref s1.heap.objs.size, upd H1 s1.heap.objs.size (.lst xs), I1.laid (t' := s1.toks) (fun b u e => Heap.get?_push_of_some _ e) (Nat.le_refl _) ?_, rfl, q _ _ hf (Same.upd hf) upd_same⟩
  exact ⟨z, us, 0, r, Heap.get?_push_size _ rfl⟩
@[irreducible] def rIxA (K : PySem.W.Frag) (p : Addr) (i : Int) (H : Hp) (Q : VK) : Prop := ∃ xs v, (SqL K H p xs ∨ SqT K H p xs) ∧ atI xs i = some v ∧ Q v H
def rIxM (K : PySem.W.Frag) : R2 := fun x y H Q => match x, y with
  | .ref p, .int i => rIxA K p i H Q
  | .str z, .int i => ∃ c, z.length ≤ sizeLine ∧ atI z.cps.toList i = some c ∧ Q (.str ⟨#[c]⟩) H
  | _, _ => False
theorem ixM : IxR X (rIxM X.K) := by
  intro value slice pins s σ H x y v u Q I rx ry h hs
  unfold rIxM at h
  split at h
  · unfold rIxA at h
    obtain ⟨xs, z, h1, h2, q⟩ := h
    rcases h1 with h1 | h1
    · exact ix_list value slice pins s σ H _ _ v u Q I rx ry ⟨_, xs, _, z, rfl, rfl, h1, h2, q⟩ hs
    · exact ix_tup value slice pins s σ H _ _ v u Q I rx ry ⟨_, xs, _, z, rfl, rfl, h1, h2, q⟩ hs
  · obtain ⟨c, h1, h2, q⟩ := h
    exact ix_str value slice pins s σ H _ _ v u Q I rx ry ⟨_, _, c, rfl, rfl, h1, h2, q⟩ hs
  · exact h.elim
theorem peIx (ha : PE X a ta) (hb : PE X b tb) (hs : PlainIx b := by exact fun _ _ => rfl) : PE X (.Subscript a b pos) (tOp (rIxM X.K) ta tb) := pe_ix ixM ha hb hs
@[irreducible] def rSetA (p : Addr) (k : Int) (v : V) (H : Hp) (Q : Hp → Prop) : Prop := ∃ xs j, H p = some (.lst xs) ∧ ixN xs.length k = some j ∧ ∀ H', Chg p H H' → H' p = some (.lst (xs.set j v)) → Q H'
def rSetM : TSet := fun o i v H Q => match o, i with
  | .ref p, .int k => rSetA p k v H Q
  | _, _ => False
theorem setM : PSet X rSetM := by
  intro pins s σ H o i v ov iv u Q I ro ri rv h
  unfold rSetM at h
  split at h
  · unfold rSetA at h
    obtain ⟨xs, j, h1, h2, q⟩ := h
    exact set_list pins s σ H _ _ v ov iv u Q I ro ri rv ⟨_, xs, _, j, rfl, rfl, h1, h2, q _ Chg.upd upd_same⟩
  · exact h.elim
@[irreducible] def rSlA (K : PySem.W.Frag) (a : Addr) (lo hi : Option Int) (H : Hp) (Q : VK) : Prop := ∃ xs, SqL K H a xs ∧ ∀ p H', H p = none → Same H H' → H' p = some (.lst (cutV xs lo hi)) → Q (.ref p) H'
def rSlM (K : PySem.W.Frag) : V → Option Int → Option Int → Hp → VK → Prop := fun x lo hi H Q => match x with
  | .ref a => rSlA K a lo hi H Q
  | _ => False
theorem slM : SlR X (rSlM X.K) := by
  intro pins s σ H x v vl vu lo hi sl Q I rx hs pl pu h
  unfold rSlM at h
  split at h
  · unfold rSlA at h
    obtain ⟨xs, h1, q⟩ := h
    exact sl_list pins s σ H _ v vl vu lo hi sl Q I rx hs pl pu ⟨_, xs, rfl, h1, fun p hp => q p _ hp (Same.upd hp) upd_same⟩
  · exact h.elim
def qPart (t : TE) : TO := fun σ H Q => t σ H fun x H1 => match x with
  | .int i => Q (some i) H1
  | _ => False
theorem poSome (h : PE X e te) : PO X (some e) (qPart te) := by
  intro pins s σ H Q I hw
  rw [evalPart_some]
  refine thn (h pins s σ H _ I hw) fun u s1 ⟨x, H1, I1, r1, q1⟩ => ?_
  dsimp only at q1
  split at q1
  · rename_i i
    obtain ⟨t, rfl⟩ := r1
    exact ⟨some i, H1, I1, .int i t, q1⟩
  · exact q1.elim
section
variable {K : PySem.W.Frag} {H : Hp} {Q : VK} {p : Addr} {xs : List V} {v : V} {i : Int}
theorem newT_rd (q : ∀ p H', H p = none → Same H H' → H' p = some (.tup xs) → Q (.ref p) H') (h : xs.length ≤ sizeLine := by first | assumption | (simp only [List.length_cons, List.length_nil, Nat.zero_add, Nat.reduceAdd]; decide)) : rNewT xs H Q := by unfold rNewT; exact ⟨h, q⟩
theorem newL_rd (q : ∀ p H', H p = none → Same H H' → H' p = some (.lst xs) → Q (.ref p) H') (h : xs.length ≤ sizeLine := by first | assumption | (simp only [List.length_cons, List.length_nil, Nat.zero_add, Nat.reduceAdd]; decide)) : rNewL xs H Q := by unfold rNewL; exact ⟨h, q⟩
theorem ixT_rd (h : H p = some (.tup xs)) (e : atI xs i = some v) (q : Q v H) : rIxA K p i H Q := by unfold rIxA; exact ⟨xs, v, .inr (SqT.of h), e, q⟩
theorem ixL_rd (h : H p = some (.lst xs)) (e : atI xs i = some v) (q : Q v H) : rIxA K p i H Q := by unfold rIxA; exact ⟨xs, v, .inl (SqL.of h), e, q⟩
theorem set_rd {R : Hp → Prop} {j : Nat} (h : H p = some (.lst xs)) (e : ixN xs.length i = some j) (q : ∀ H', Chg p H H' → H' p = some (.lst (xs.set j v)) → R H') : rSetA p i v H R := by unfold rSetA; exact ⟨xs, j, h, e, q⟩
theorem sl_rd {lo hi : Option Int} (h : SqL K H p xs) (q : ∀ p H', H p = none → Same H H' → H' p = some (.lst (cutV xs lo hi)) → Q (.ref p) H') : rSlA K p lo hi H Q := by unfold rSlA; exact ⟨xs, h, q⟩
end

/-! ### tuple targets -/
def qgNil : TGs := fun vs σ H Q => match vs with
  | [] => Q σ H
  | _ => False
def qgCons (t : TG) (u : TGs) : TGs := fun vs σ H Q => match vs with
  | v :: r => t v σ H fun σ' H' => u r σ' H' Q
  | _ => False
theorem pgsNil : PGs X [] qgNil := fun pins s σ H vs us Q I r h => by
  unfold qgNil at h
  split at h
  · exact pgs_nil pins s σ H _ us Q I r ⟨rfl, h⟩
  · exact h.elim
theorem pgsCons {e : Expr} {es : List Expr} {t : TG} {u : TGs} (h1 : PG X e t) (h2 : PGs X es u)
    (hs : (assignEach (e :: es) X.env).map (·.2) = assign e X.env :: (assignEach es X.env).map (·.2) := by rfl) : PGs X (e :: es) (qgCons t u) := fun pins s σ H vs us Q I r h => by
  unfold qgCons at h
  split at h
  · exact pgs_cons h1 h2 hs pins s σ H _ us Q I r ⟨_, _, rfl, h⟩
  · exact h.elim
end
end L2

set_option Elab.async false
set_option linter.all false
set_option maxRecDepth 100000
set_option maxHeartbeats 1000000
namespace L2
open PySem PySem.Spec PyProof.Rows
section
variable {X : Cx}
/-! ### built-in calls, by values -/
def rAbsM : List V → Hp → VK → Prop := fun xs H Q => match xs with
  | [.int i] => Q (.int (i.natAbs : Int)) H
  | _ => False
@[irreducible] def rLenA (K : PySem.W.Frag) (p : Addr) (H : Hp) (Q : VK) : Prop := ∃ ys, (SqL K H p ys ∨ SqT K H p ys) ∧ Q (.int ys.length) H
def rLenM (K : PySem.W.Frag) : List V → Hp → VK → Prop := fun xs H Q => match xs with
  | [.ref p] => rLenA K p H Q
  | [.str z] => z.length ≤ sizeLine ∧ Q (.int z.length) H
  | _ => False
theorem cLen : CallR X (.builtin "len") (rLenM X.K) := fun pins s σ H xs us Q I r h => by
  unfold rLenM at h
  split at h
  · unfold rLenA at h
    obtain ⟨ys, h1, h2⟩ := h
    exact call_len_seq pins s σ H _ us Q I r ⟨_, ys, rfl, h1, h2⟩
  · exact call_len_str pins s σ H _ us Q I r ⟨_, rfl, h.1, h.2⟩
  · exact h.elim
@[irreducible] def rIsiA (K : PySem.W.Frag) (x c : V) (H : Hp) (Q : VK) : Prop := ∃ t b, TyOf K H x t ∧ (∀ cv, RelV c cv → PySem.W.kitOne K t cv = some b) ∧ Q (.bl b) H
def rIsiM (K : PySem.W.Frag) : List V → Hp → VK → Prop := fun xs H Q => match xs with
  | [x, c] => rIsiA K x c H Q
  | _ => False
theorem cIsi : CallR X (.builtin "isinstance") (rIsiM X.K) := fun pins s σ H xs us Q I r h => by
  unfold rIsiM at h
  split at h
  · unfold rIsiA at h
    obtain ⟨t, b, h1, h2, h3⟩ := h
    obtain ⟨u, w, rfl, r1, r2⟩ := vals2 r
    exact isinst_ok I r1 h1 (h2 _ r2) fun tk => ⟨.bl b, H, I.tok _, rfl, h3⟩
  · exact h.elim
section
variable {K : PySem.W.Frag} {H : Hp} {Q : VK} {p : Addr} {xs : List V}
theorem lenL_rd (h : H p = some (.lst xs)) (q : Q (.int xs.length) H) : rLenA K p H Q := by unfold rLenA; exact ⟨xs, .inl (SqL.of h), q⟩
theorem lenT_rd (h : H p = some (.tup xs)) (q : Q (.int xs.length) H) : rLenA K p H Q := by unfold rLenA; exact ⟨xs, .inr (SqT.of h), q⟩
theorem isiI_rd {i : Int} {n : String} {b : Bool} (q : Q (.bl b) H) (e : PySem.W.kitOne K (.type "int") (.type n) = some b := by rfl) : rIsiA K (.int i) (.ty n) H Q := by
  unfold rIsiA; exact ⟨_, b, .int i, fun cv r => by cases r; exact e, q⟩
theorem isiB_rd {i : Bool} {n : String} {b : Bool} (q : Q (.bl b) H) (e : PySem.W.kitOne K (.type "bool") (.type n) = some b := by rfl) : rIsiA K (.bl i) (.ty n) H Q := by
  unfold rIsiA; exact ⟨_, b, .bl i, fun cv r => by cases r; exact e, q⟩
theorem isiN_rd {n : String} {b : Bool} (q : Q (.bl b) H) (e : PySem.W.kitOne K (.type "NoneType") (.type n) = some b := by rfl) : rIsiA K .non (.ty n) H Q := by
  unfold rIsiA; exact ⟨_, b, .non, fun cv r => by cases r; exact e, q⟩
theorem isiS_rd {x : Str} {n : String} {b : Bool} (q : Q (.bl b) H) (e : PySem.W.kitOne K (.type "str") (.type n) = some b := by rfl) : rIsiA K (.str x) (.ty n) H Q := by
  unfold rIsiA; exact ⟨_, b, .str x, fun cv r => by cases r; exact e, q⟩
theorem isiT_rd {n : String} {b : Bool} (h : H p = some (.tup xs)) (q : Q (.bl b) H) (e : PySem.W.kitOne K (.type "tuple") (.type n) = some b := by rfl) : rIsiA K (.ref p) (.ty n) H Q := by
  unfold rIsiA; exact ⟨_, b, .tup h, fun cv r => by cases r; exact e, q⟩
theorem isiL_rd {n : String} {b : Bool} (h : H p = some (.lst xs)) (q : Q (.bl b) H) (e : PySem.W.kitOne K (.type "list") (.type n) = some b := by rfl) : rIsiA K (.ref p) (.ty n) H Q := by
  unfold rIsiA; exact ⟨_, b, .lst h, fun cv r => by cases r; exact e, q⟩
end
/-! the names of the built-ins -/
theorem bt_min : bootBuiltins "min" = some (.builtin "min") := by decide +kernel
theorem bt_len : bootBuiltins "len" = some (.builtin "len") := by decide +kernel
theorem bt_sum : bootBuiltins "sum" = some (.builtin "sum") := by decide +kernel
theorem bt_all : bootBuiltins "all" = some (.builtin "all") := by decide +kernel
theorem bt_isinstance : bootBuiltins "isinstance" = some (.builtin "isinstance") := by decide +kernel
theorem bt_int : bootBuiltins "int" = some (.type "int") := by decide +kernel
theorem bt_bool : bootBuiltins "bool" = some (.type "bool") := by decide +kernel
theorem bt_str : bootBuiltins "str" = some (.type "str") := by decide +kernel
theorem bt_list : bootBuiltins "list" = some (.type "list") := by decide +kernel
theorem bt_tuple : bootBuiltins "tuple" = some (.type "tuple") := by decide +kernel
theorem pTy {x : Str} {n : String} {pos : Pos} (hm : X.mg x = none) (hv : bootBuiltins x = some (.type n)) (hg : Gl X x := by rfl) (hn : x ≠ "__name__" := by decide) (hd : (x == ("__debug__" : Str)) = false := by decide) : PE X (.Name x pos) (tC (.ty n)) :=
  pe_bltn hg hm hv rfl hn hd
theorem pB {x : Str} {p pos : Pos} {e : Expr} {es : List Expr} {t : TA} {id : String} {r : List V → Hp → VK → Prop} (hc : CallR X (.builtin id) r) (hm : X.mg x = none) (hv : bootBuiltins x = some (.builtin id)) (ha : PA X (e :: es) t) (hg : Gl X x := by rfl) (hn : x ≠ "__name__" := by decide) (hdb : (x == ("__debug__" : Str)) = false := by decide)
    (he : starEach (e :: es) X.env = (false, eval e X.env) :: starEach es X.env := by rfl) (hpl : (backTo pos (starEach es X.env)).any (·.1) = false := by rfl) : PE X (.Call (.Name x p) (e :: es) [] pos) (tCB r t) := pe_callB hc hg hm hv ha hn hdb he hpl
theorem pT {x : Str} {p pos : Pos} {e : Expr} {es : List Expr} {t : TA} {id : String} {r : List V → Hp → VK → Prop} (hc : CallR X (.type id) r) (hm : X.mg x = none) (hv : bootBuiltins x = some (.type id)) (ha : PA X (e :: es) t) (hg : Gl X x := by rfl) (hn : x ≠ "__name__" := by decide) (hdb : (x == ("__debug__" : Str)) = false := by decide)
    (he : starEach (e :: es) X.env = (false, eval e X.env) :: starEach es X.env := by rfl) (hpl : (backTo pos (starEach es X.env)).any (·.1) = false := by rfl) : PE X (.Call (.Name x p) (e :: es) [] pos) (tCB r t) := pe_callTy hc hg hm hv ha hn hdb he hpl
/-! a def of the text, called: what is known of it -/
structure Def (P : Program) (w : World) (K : PySem.W.Frag) (mg : Str → Option Value) (base : Heap) (CX : CXT) (k : Nat) (x : Str) (ps : List Str) (sp : Sp) : Prop where
  ex : ∃ (f : Addr) (fd : FuncData), FnOk P w K mg base CX k f fd ps sp ∧ mg x = some (.ref f) ∧ PySem.W.keepIn K (.ref f) = true ∧ Binds K fd ps []
def qCall (sp : Sp) (E : XK) (t : TA) : TE := fun σ H Q => t σ H fun vs H1 => sp vs H1 Q E
theorem pD {CX : CXT} {k j : Nat} {x : Str} {ps : List Str} {sp : Sp} {E : XK} {p pos : Pos} {e : Expr} {es : List Expr} {t : TA} (F : Def X.prog X.w X.K X.mg X.base CX k x ps sp) (hr : Room j X.A) (hx : Passes CX X E) (ha : PA X (e :: es) t) (hk : k ≤ j := by decide) (hg : Gl X x := by rfl)
    (hdb : (x == ("__debug__" : Str)) = false := by decide) (he : starEach (e :: es) X.env = (false, eval e X.env) :: starEach es X.env := by rfl) (hpl : (backTo pos (starEach es X.env)).any (·.1) = false := by rfl) :
    PE X (.Call (.Name x p) (e :: es) [] pos) (qCall sp E t) := by
  obtain ⟨f, fd, F1, F2, F3, F4⟩ := F.ex
  intro pins s σ H Q I h
  refine pe_call F1 (hr.mono hk) hg F2 F3 F4 .nil hx ha hdb he hpl pins s σ H Q I ?_
  unfold tCall
  simp only [List.append_nil]
  exact h
theorem psS {i : Nat} {x : Str} {e : Expr} {te : TE} {pos' pos : Pos} (hN : X.N.Nodup) (he : PE X e te) (hi : X.N[i]? = some x := by rfl) (hx : Loc X.env.scope x := by first | exact Or.inl rfl | exact Or.inr rfl) (hs : swapsWith e (some (.Name x pos')) pos.line X.env = pure false := by rfl) (hf : X.fn x = true ∨ X.env.scope.names.lookup x = some .local := by first | exact .inl rfl | exact .inr rfl | assumption) :
    PS X (.Assign [.Name x pos'] e pos) (tAsg te (gName i)) := ps_set hN hi hx he hs hf
section
variable {K : PySem.W.Frag} {H : Hp} {Q : VK} {p : Addr} {xs : List V} {i j : Int}
theorem mulL_rd (h1 : -18446744073709551616 < i) (h2 : i < 18446744073709551616) (q : Q (.int (i * j)) H) : rMulI i j H Q := mul_rd (.of_left (intBits_le_64 (by simpa using h1) (by simpa using h2))) q
theorem mulR_rd (h1 : -18446744073709551616 < j) (h2 : j < 18446744073709551616) (q : Q (.int (i * j)) H) : rMulI i j H Q := mul_rd (.of_right (intBits_le_64 (by simpa using h1) (by simpa using h2))) q
/-- a remainder, by its bounds alone -/
theorem modG_rd (h : 0 < j) (q : ∀ r : Int, 0 ≤ r → r < j → Q (.int r) H) : rModI i j H Q := mod_rd h (q _ (Int.emod_nonneg _ (by omega)) (Int.emod_lt_of_pos _ h))
/-- an item at a drawn place -/
theorem ixAny_rd (h : H p = some (.lst xs)) (h0 : 0 ≤ i) (h1 : i < xs.length) (q : ∀ v, v ∈ xs → Q v H) : rIxA K p i H Q := by
  have hl : i.toNat < xs.length := by omega
  refine ixL_rd h (v := xs[i.toNat]) ?_ (q _ (List.getElem_mem hl))
  have e : ((i.toNat : Nat) : Int) = i := by omega
  have z := atI_nat (List.getElem?_eq_getElem hl)
  rw [e] at z
  exact z
theorem hu40 {A : Around} {k : Nat} (hr : Room k A) : A.units + 40 < cLine := by have := hr.units; omega
end
/-! ### a word between two statements -/
@[irreducible] def qCut (t : TS) : TS := fun D σ H => ∃ R : St → Hp → Prop, t { D with nx := R } σ H ∧ ∀ σ' H', R σ' H' → D.nx σ' H'
theorem psCut {st : Stmt} {t : TS} (h : PS X st t) : PS X st (qCut t) := fun pins s σ H D I hq => by
  unfold qCut at hq
  obtain ⟨R, h1, h2⟩ := hq
  refine thn (h pins s σ H _ I h1) fun f s' q => ?_
  cases f with
  | next => obtain ⟨σ', H', I', z⟩ := q; exact ⟨σ', H', I', h2 _ _ z⟩
  | brk => exact q
  | cont => exact q
  | ret u => exact q
theorem cut_rd {t : TS} {D : Ends} {σ : St} {H : Hp} (R : St → Hp → Prop) (h1 : t { D with nx := R } σ H) (h2 : ∀ σ' H', R σ' H' → D.nx σ' H') : qCut t D σ H := by unfold qCut; exact ⟨R, h1, h2⟩
theorem cut_id {t : TS} {D : Ends} {σ : St} {H : Hp} (h1 : t D σ H) : qCut t D σ H := by unfold qCut; exact ⟨D.nx, h1, fun _ _ h => h⟩
/-! the script's numbers -/
end
end L2

set_option Elab.async false
set_option linter.all false
set_option maxRecDepth 100000
set_option maxHeartbeats 2000000
namespace L2
open PySem PySem.Spec PyProof.Rows
/-! ### comprehensions -/
theorem closure_go {env : Env} : ∀ (names : List (Str × NameKind)) (acc : List (Str × Addr)), (∀ x ∈ names, x.2 = .free → ∃ c, env.cells.lookup x.1 = some c) →
    ∃ acc', (forIn (m := Sem) names acc (fun (x : Str × NameKind) (r : List (Str × Addr)) => if (x.2 == .free) = true then (do let c ← cellOf env x.1; pure (ForInStep.yield ((x.1, c) :: r))) else pure (ForInStep.yield r))) = pure acc' ∧
      (∀ x c, acc'.lookup x = some c → acc.lookup x = some c ∨ env.cells.lookup x = some c) ∧ (∀ x c, acc.lookup x = some c → ∃ c', acc'.lookup x = some c') ∧ ∀ x ∈ names, x.2 = .free → ∃ c, acc'.lookup x.1 = some c
  | [], acc, _ => ⟨acc, rfl, fun _ _ h => .inl h, fun _ c h => ⟨c, h⟩, fun _ h => by cases h⟩
  | (n, k) :: r, acc, h => by
    by_cases hk : k = .free
    · subst hk
      obtain ⟨c, hc⟩ := h (n, .free) List.mem_cons_self rfl
      obtain ⟨acc', e, h1, h2, h3⟩ := closure_go r ((n, c) :: acc) fun x hx => h x (List.mem_cons_of_mem _ hx)
      have hco : cellOf env n = pure c := by unfold cellOf; rw [hc]
      refine ⟨acc', ?_, fun x d hd => ?_, fun x d hd => ?_, fun x hx hf => ?_⟩
      · rw [List.forIn_cons]
        simp only [hco]
        exact e
      · rcases h1 x d hd with q | q
        · rw [List.lookup_cons] at q
          split at q
          · rename_i hx
            have hx : x = n := by simpa using hx
            subst hx
            cases q
            exact .inr hc
          · exact .inl q
        · exact .inr q
      · by_cases hx : x = n
        · subst hx
          exact h2 x c (by simp [List.lookup_cons])
        · refine h2 x d ?_
          rw [List.lookup_cons]
          have : (x == n) = false := by simpa using hx
          rw [this]; exact hd
      · rcases List.mem_cons.mp hx with rfl | hx
        · exact h2 n c (by simp [List.lookup_cons])
        · exact h3 x hx hf
    · obtain ⟨acc', e, h1, h2, h3⟩ := closure_go r acc fun x hx => h x (List.mem_cons_of_mem _ hx)
      refine ⟨acc', ?_, h1, h2, fun x hx hf => ?_⟩
      · rw [List.forIn_cons]
        have : (k == NameKind.free) = false := by simpa using hk
        simp only [this]
        exact e
      · rcases List.mem_cons.mp hx with rfl | hx
        · exact absurd hf hk
        · exact h3 x hx hf
theorem closure_ok {scope : Scope} {env : Env} (h : ∀ x ∈ scope.names, x.2 = .free → ∃ c, env.cells.lookup x.1 = some c) :
    ∃ cl, closureFor scope env = pure cl ∧ (∀ x c, cl.lookup x = some c → env.cells.lookup x = some c) ∧ ∀ x ∈ scope.names, x.2 = .free → ∃ c, cl.lookup x.1 = some c := by
  obtain ⟨cl, e, h1, _, h3⟩ := closure_go (env := env) scope.names [] h
  refine ⟨cl, ?_, fun x c hc => (h1 x c hc).elim (fun q => by cases q) id, h3⟩
  unfold closureFor
  show (forIn (m := Sem) scope.names ([] : List (Str × Addr)) _ >>= fun r => pure r) = _
  rw [e]
  rfl
theorem relabel_free {env : Env} : ∀ {names : List (Str × NameKind)} {x : Str}, names.lookup x = some .free →
    (names.map fun (n, k) => if (k == NameKind.free && env.scope.kind == .function && env.kindOf n == some .cell) then (n, NameKind.cell) else (n, k)).lookup x = some .cell ∨
    (names.map fun (n, k) => if (k == NameKind.free && env.scope.kind == .function && env.kindOf n == some .cell) then (n, NameKind.cell) else (n, k)).lookup x = some .free
  | [], _, h => by simp at h
  | (n, k) :: r, x, h => by
    have ih := @relabel_free env r x
    show List.lookup x ((if (k == NameKind.free && env.scope.kind == .function && env.kindOf n == some .cell) = true then (n, NameKind.cell) else (n, k)) :: _) = _ ∨ List.lookup x ((if (k == NameKind.free && env.scope.kind == .function && env.kindOf n == some .cell) = true then (n, NameKind.cell) else (n, k)) :: _) = _
    cases hx : x == n with
    | true =>
      simp only [List.lookup_cons, hx] at h
      cases h
      by_cases hc : (NameKind.free == NameKind.free && env.scope.kind == .function && env.kindOf n == some .cell) = true
      · left; rw [if_pos hc]; simp only [List.lookup_cons, hx]
      · right; rw [if_neg hc]; simp only [List.lookup_cons, hx]
    | false =>
      simp only [List.lookup_cons, hx] at h
      by_cases hc : (k == NameKind.free && env.scope.kind == .function && env.kindOf n == some .cell) = true
      · rw [if_pos hc]; simp only [List.lookup_cons, hx]; exact ih h
      · rw [if_neg hc]; simp only [List.lookup_cons, hx]; exact ih h
/-- what a name's kind in the block says of the written scope -/
theorem relabel_kind {env : Env} : ∀ {names : List (Str × NameKind)} {x : Str} {k' : NameKind}, (∀ y ∈ names, y.2 ≠ .cell) → (k' = .cell ∨ k' = .free) →
    (names.map fun (n, k) => if (k == NameKind.free && env.scope.kind == .function && env.kindOf n == some .cell) then (n, NameKind.cell) else (n, k)).lookup x = some k' → ∃ y ∈ names, y.1 = x ∧ y.2 = .free
  | [], _, _, _, _, h => by simp at h
  | (n, k) :: r, x, k', hn, hk, h => by
    have ih := @relabel_kind env r x k' (fun y hy => hn y (List.mem_cons_of_mem _ hy)) hk
    replace h : List.lookup x ((if (k == NameKind.free && env.scope.kind == .function && env.kindOf n == some .cell) = true then (n, NameKind.cell) else (n, k)) :: List.map (fun (n, k) => if (k == NameKind.free && env.scope.kind == .function && env.kindOf n == some .cell) then (n, NameKind.cell) else (n, k)) r) = some k' := h
    cases hx : x == n with
    | true =>
      have hx' : x = n := by simpa using hx
      by_cases hf : k = .free
      · exact ⟨(n, k), List.mem_cons_self, hx'.symm, hf⟩
      · have hc : ¬ (k == NameKind.free && env.scope.kind == .function && env.kindOf n == some .cell) = true := by
          have : (k == NameKind.free) = false := by simpa using hf
          rw [this]; simp
        rw [if_neg hc] at h
        simp only [List.lookup_cons, hx] at h
        have : k = k' := Option.some.inj h
        subst this
        rcases hk with hk | hk
        · exact absurd hk (hn (n, k) List.mem_cons_self)
        · exact absurd hk hf
    | false =>
      have h' : List.lookup x (List.map (fun (n, k) => if (k == NameKind.free && env.scope.kind == .function && env.kindOf n == some .cell) then (n, NameKind.cell) else (n, k)) r) = some k' := by
        by_cases hc : (k == NameKind.free && env.scope.kind == .function && env.kindOf n == some .cell) = true
        · rw [if_pos hc] at h; simp only [List.lookup_cons, hx] at h; exact h
        · rw [if_neg hc] at h; simp only [List.lookup_cons, hx] at h; exact h
      obtain ⟨y, hy, h1, h2⟩ := ih h'
      exact ⟨y, List.mem_cons_of_mem _ hy, h1, h2⟩

/-- the context of a comprehension's block -/
def blk (X : Cx) (N : List Str) (scope : Scope) (cl : List (Str × Addr)) (C : Addr) (s3 : Shared) (H3 : Hp) (fp : List Addr) : Cx :=
  { X with N := N, s₀ := s3, H₀ := H3, env := compEnvC scope cl C X.env, outer := X.stack, ex := fp, fn := fun _ => false, pn := [], xe := fun _ _ => False }
def PTs (X : Cx) (ifs : List Expr) (t : TT) : Prop :=
  ∀ (pins : List (Addr × Obj)) (s : Shared) (σ : St) (H : Hp) (Q : Bool → Hp → Prop), Inv X pins σ H s → t σ H Q →
    wpAny (model X.prog X.w) X.A (forIn ifs true fun c r => if r = true then do let ok ← isTrue c X.env (eval c X.env); pure (ForInStep.yield ok) else pure (ForInStep.yield r)) (TP X pins σ Q) X.xe s
theorem pts_nil {X : Cx} : PTs X [] (fun _ H Q => Q true H) := fun _ _ _ H _ I h => wpAny_tests_nil ⟨H, I, h⟩
theorem pts_one {X : Cx} {c : Expr} {t : TT} (h : PT X c t) : PTs X [c] t := fun pins s σ H Q I hq => wpAny_tests_one (h pins s σ H Q I hq)
/-- one turn after another: the list so far -/
@[irreducible] def cPut (W : Nat → Nat → List V → St → Hp → Prop) (acc : Addr) (ys : List V) (i m : Nat) (σ2 : St) (v : V) (H5 : Hp) : Prop :=
  H5 acc = some (.lst ys) ∧ ∀ H6, Chg acc H5 H6 → H6 acc = some (.lst (ys ++ [v])) → ∃ m', m' < m ∧ W (i + 1) m' (ys ++ [v]) σ2 H6
@[irreducible] def cSkip (W : Nat → Nat → List V → St → Hp → Prop) (ys : List V) (i m : Nat) (σ2 : St) (H4 : Hp) : Prop := ∃ m', m' < m ∧ W (i + 1) m' ys σ2 H4
@[irreducible] def compW (J : It) (g : TG) (tt : TT) (te : TE) (σ0 : St) (H1 : Hp) (Q : VK) : Prop :=
  ∀ acc H2, H1 acc = none → Same H1 H2 → H2 acc = some (.lst []) → ∃ W : Nat → Nat → List V → St → Hp → Prop, (∃ m, W 0 m [] σ0 H2) ∧ ∀ i m ys σ H, W i m ys σ H → H acc = some (.lst ys) ∧ ys.length < sizeLine ∧
    ((J.stop i H ∧ Q (.ref acc) H) ∨ (J.go i H ∧ ∀ x H', J.yld i H x H' → g x σ H' fun σ2 H3 => tt σ2 H3 fun b H4 =>
      br b (te σ2 H4 fun v H5 => cPut W acc ys i m σ2 v H5) (cSkip W ys i m σ2 H4)))
section
variable {X : Cx} {pins : List (Addr × Obj)} {σ : St} {H : Hp} {s2 : Shared}
theorem blk_inv {N : List Str} {scope : Scope} {cl : List (Str × Addr)} {C : Addr} {s3 s4 : Shared} {H3 : Hp} {fp : List Addr} {σc : St} (I : Inv X pins σ H3 s3)
    (hcl1 : ∀ x c, cl.lookup x = some c → X.env.cells.lookup x = some c) (hcl2 : ∀ x ∈ scope.names, x.2 = .free → ∃ c, cl.lookup x.1 = some c) (hkind : scope.kind = .function) (hcell : ∀ y ∈ scope.names, y.2 ≠ .cell)
    (hcap : ∀ (i : Nat) (x : Str) (v : V), N[i]? = some x → σc[i]? = some (some v) → ∃ j : Nat, X.N[j]? = some x ∧ σ[j]? = some (some v) ∧ scope.names.lookup x = some .free ∧ (X.env.kindOf x = some .cell ∨ X.env.kindOf x = some .free))
    (hlen : σc.length = N.length) (hC : s3.heap.objs.size = C) (hfp : ∀ b ∈ fp, FpOk X pins H3 b) (hfpl : ∀ b ∈ fp, b < C) (hex : ∀ b o, X.base.get? b = some o → b ∉ fp) (hns : ∃ m, s4.heap.Ns C m) (hk : ∀ b o, s3.heap.get? b = some o → s4.heap.get? b = some o) (h4 : s4.os = s3.os) (h5 : s4.gens = s3.gens) :
    Inv (blk X N scope cl C s3 H3 fp) [] σc H3 s4 := by
  subst hC
  have look : ∀ x, (blk X N scope cl s3.heap.objs.size s3 H3 fp).env.kindOf x = (relabel scope X.env).names.lookup x := fun x => rfl
  have cne : ∀ x c, cl.lookup x = some c → c < s3.heap.objs.size := fun x c h => by
    obtain ⟨v, o, ho, _⟩ := I.cell x c (hcl1 x c h)
    exact Heap.lt_size ho
  refine ⟨⟨I.ok.mod, ?_, I.ok.glob, I.ok.blt, Nat.le_refl _, fun x y c h1 h2 => I.ok.inj x y c (hcl1 _ _ h1) (hcl1 _ _ h2), fun x hx => ?_, fun x c h => ?_, I.ok.hd, I.ok.frames, .inl rfl, fun b hb => ⟨Nat.ne_of_lt (hfpl b hb), fun x c h => ?_⟩, fun b o e => I.bs b o e, Nat.le_trans I.ok.bsz I.sz, fun b o e => hex b o e, fun b hb => ?_, I.stack, I.stkFree⟩,
    h4, by rw [h5]; exact I.bare, Un.kept hk, ?_, fun x c h => ?_, I.hok.fresh (Nat.le_refl _), fun x c h => I.freeC x c (hcl1 _ _ h), fun p hp => (by cases hp), I.hok.kept hk, hlen⟩
  · exact hkind
  · have hx' : (relabel scope X.env).names.lookup x = some .cell ∨ (relabel scope X.env).names.lookup x = some .free := hx
    have hz : ∃ y ∈ scope.names, y.1 = x ∧ y.2 = .free := by
      rcases hx' with q | q
      · exact relabel_kind hcell (.inl rfl) q
      · exact relabel_kind hcell (.inr rfl) q
    obtain ⟨y, hy, rfl, hf⟩ := hz
    exact hcl2 y hy hf
  · exact absurd (show false = true from h) Bool.false_ne_true
  · exact (hfp b hb).2.2.2.2.1 x c (hcl1 x c h)
  · have := (hfp b hb).1
    intro hz
    obtain ⟨f0, f1, f2, _⟩ := hfp b hb
    have hz : b ∈ frs X.stack := hz
    rcases List.mem_cons.mp (I.stkSub b hz) with q | q
    · exact f1 q
    · exact f2 q
  · obtain ⟨m, hm⟩ := hns
    refine ⟨m, hm, fun i x v h1 h2 h3 => ?_⟩
    obtain ⟨j, e1, e2, e3, e4⟩ := hcap i x v h1 h2
    obtain ⟨mX, _, hl⟩ := I.loc
    obtain ⟨u, r, q⟩ := hl j x v e1 e2 (by rcases e4 with e4 | e4; exact .inr (.inl e4); exact .inr (.inr e4))
    refine ⟨u, r, .inr ⟨relabel_free e3, ?_⟩⟩
    obtain ⟨c, hc⟩ := hcl2 (x, .free) (PySem.mem_of_lookup e3) rfl
    refine ⟨c, hc, ?_⟩
    have hc' := hcl1 x c hc
    rcases q with ⟨k, _⟩ | ⟨_, c2, e5, o, ho, hd⟩
    · rcases e4 with e4 | e4 <;> rw [e4] at k <;> cases k
    · rw [hc'] at e5
      cases e5
      exact ⟨o, hk _ _ ho, hd⟩
  · obtain ⟨v, o, ho, hd⟩ := I.cell x c (hcl1 x c h)
    exact ⟨v, o, hk _ _ ho, hd⟩
theorem comp_loop {prog : Program} {w : World} {A : Around} {R : Result → Shared → Prop} {s : Shared} {elt target iter : Expr} {ifs : List Expr} {scope : Scope} {pos : Pos} {it acc : Value} {env : Env} (I : Nat → Shared → Prop)
    (turn : ∀ n s, I n s → wpAny (model prog w) A (pyNext it) (fun r s₁ => match r with
      | none => R (.ok .next) s₁
      | some v => wpAny (model prog w) A (letOwnedTupleGo target it v) (fun _ s₁' => wpAny (model prog w) A (assign target env v) (fun _ s₂ =>
          wpAny (model prog w) A (forIn ifs true fun c r => if r = true then do let ok ← isTrue c env (eval c env); pure (ForInStep.yield ok) else pure (ForInStep.yield r)) (fun ok s₃ =>
            if ok = true then wpAny (model prog w) A (eval elt env) (fun x s₄ =>
              wpAny (model prog w) A (call (.builtin "list.append") [acc, x]) (fun _ s₅ => ∃ m, m < n ∧ I m s₅) (fun _ _ => False) s₄) (fun _ _ => False) s₃
            else ∃ m, m < n ∧ I m s₃) (fun _ _ => False) s₂) (fun _ _ => False) s₁') (fun _ _ => False) s₁) (fun _ _ => False) s)
    (n : Nat) (h : I n s) : codeAny (model prog w) A (.compLoop (.ListComp elt [⟨target, iter, ifs, 0⟩] scope pos) 0 it acc env) R s := by
  refine codeAny_loop rfl I (fun n s hI => ?_) n h
  show wpAny _ A ((compTurn (.ListComp elt [⟨target, iter, ifs, 0⟩] scope pos) 0 it acc env).onRaise (fun x => do noteFrame x env; theTreesLotGoes x)) _ _ s
  refine wpAny_noted ?_
  rw [compTurn_list]
  refine wpAny_bind (wpAny_standAt (wpAny_bind (wpAny_mono (turn n s hI) (fun r s₁ h₁ => ?_) fun _ _ h' => h'.elim)))
  cases r with
  | none => exact wpAny_pure h₁
  | some v =>
    refine wpAny_bind (wpAny_mono h₁ (fun _ s₁' h₁' => ?_) fun _ _ h' => h'.elim)
    refine wpAny_bind (wpAny_mono h₁' (fun _ s₂ h₂ => wpAny_bind (wpAny_mono h₂ (fun ok s₃ h₃ => ?_) fun _ _ h' => h'.elim)) fun _ _ h' => h'.elim)
    cases ok with
    | false => exact wpAny_pure ⟨rfl, h₃⟩
    | true =>
      exact wpAny_bind (wpAny_bind (wpAny_mono h₃ (fun x s₄ h₄ => wpAny_bind (wpAny_mono h₄ (fun _ s₅ h₅ => wpAny_pure (wpAny_pure ⟨rfl, h₅⟩)) fun _ _ h' => h'.elim)) fun _ _ h' => h'.elim))

theorem comp_core {E : Value → Shared → Prop} {elt tg iter : Expr} {ifs : List Expr} {scope : Scope} {pos : Pos} {cl : List (Str × Addr)} {N : List Str} {σc : St} {J : It} {fp : List Addr} {it : Addr} {tn : Nat → Heap → Prop} {g : TG} {tt : TT} {te : TE} {Q : VK}
    {RR : Value → Addr → Result → Shared → Prop}
    (hcl1 : ∀ x c, cl.lookup x = some c → X.env.cells.lookup x = some c) (hcl2 : ∀ x ∈ scope.names, x.2 = .free → ∃ c, cl.lookup x.1 = some c) (hkind : scope.kind = .function) (hcell : ∀ y ∈ scope.names, y.2 ≠ .cell)
    (hcap : ∀ (i : Nat) (x : Str) (v : V), N[i]? = some x → σc[i]? = some (some v) → ∃ j : Nat, X.N[j]? = some x ∧ σ[j]? = some (some v) ∧ scope.names.lookup x = some .free ∧ (X.env.kindOf x = some .cell ∨ X.env.kindOf x = some .free))
    (hlen : σc.length = N.length) (hc : X.calm = true) (I : Inv X pins σ H s2) (T : Turn X.prog X.w X.K tg J fp it tn) (st : tn 0 s2.heap) (fpok : ∀ b ∈ fp, FpOk X pins H b)
    (hg : ∀ C s3 H3 fp, PG (blk X N scope cl C s3 H3 fp) tg g) (ht : ∀ C s3 H3 fp, PTs (blk X N scope cl C s3 H3 fp) ifs tt) (he : ∀ C s3 H3 fp, PE (blk X N scope cl C s3 H3 fp) elt te)
    (h : compW J g tt te σc H Q)
    (hRR : ∀ (acc C : Addr) (H' : Hp) (s' : Shared), Inv X pins σ H' s' → FpOk X pins H' C → (∃ m, s'.heap.Ns C m) → Q (.ref acc) H' → RR (.ref acc) C (.ok .next) s') :
    wpAny (model X.prog X.w) X.A (newList []) (fun acc s₃ => wpAny (model X.prog X.w) X.A (newFunctionEnv scope X.env.globals cl [] X.env.qual none .none (some X.env)) (fun cenv s₄ =>
      codeAny (model X.prog X.w) X.A (.compStart (.ListComp elt [⟨tg, iter, ifs, 0⟩] scope pos) 0 (.ref it) acc { cenv with scope := relabel scope X.env }) (RR acc cenv.locals) s₄) E s₃) E s2 := by
  refine wpAny_newObj_type (wpAny_newFunctionEnv hcell (by intro y hy; simp at hy) (fun h₁ hns₁ hsb₁ => ?_) hkind)
  dsimp only at hns₁ hsb₁ ⊢
  have hf : H s2.heap.objs.size = none := I.fresh
  have I3 : Inv X pins σ (upd H s2.heap.objs.size (.lst [])) { s2 with heap := s2.heap.push { cls := .type "list", data := .seq ([] : List Value).toArray } } := I.lnew (t' := s2.toks) (its := []) .nil (Nat.zero_le _)
  generalize hs3 : ({ s2 with heap := s2.heap.push { cls := .type "list", data := .seq ([] : List Value).toArray } } : Shared) = s3 at I3
  have hH : s2.heap.push { cls := .type "list", dict := none, data := .seq ([] : List Value).toArray } = s3.heap := by rw [← hs3]
  rw [hH] at hns₁ hsb₁ ⊢
  have hsz : s3.heap.objs.size = s2.heap.objs.size + 1 := by rw [← hH, Heap.size_push]
  have old23 : ∀ b o, s2.heap.get? b = some o → s3.heap.get? b = some o := fun b o e => by rw [← hH]; exact Heap.get?_push_of_some _ e
  have fplt : ∀ b ∈ fp, b < s2.heap.objs.size := fun b hb => by
    obtain ⟨o, e, _⟩ := T.obj 0 _ st b hb
    exact Heap.lt_size e
  have fp3 : ∀ b ∈ fp, FpOk X pins (upd H s2.heap.objs.size (.lst [])) b := fun b hb => by
    obtain ⟨f0, f1⟩ := fpok b hb
    refine ⟨?_, f1⟩
    rw [upd_ne (Nat.ne_of_lt (fplt b hb))]
    exact f0
  have old34 : ∀ b o, s3.heap.get? b = some o → h₁.get? b = some o := fun b o e => hsb₁.extBut b o (Nat.ne_of_lt (Heap.lt_size e)) (Heap.get?_push_of_some _ e)
  have nob : ∀ b o, X.base.get? b = some o → b ∉ fp := fun b o e hb => by
    obtain ⟨_, _, _, f3, _, _⟩ := fpok b hb
    rcases f3 with f3 | f3
    · exact I.ok.noex b o e f3
    · exact absurd (Nat.lt_of_lt_of_le (Heap.lt_size e) I.ok.bsz) (Nat.not_lt.mpr f3)
  have hs4e : ({ s2 with heap := h₁, toks := s2.toks + ([] : List (Str × Value)).length } : Shared).os = s3.os := by rw [← hs3]
  have hs4g : ({ s2 with heap := h₁, toks := s2.toks + ([] : List (Str × Value)).length } : Shared).gens = s3.gens := by rw [← hs3]
  have I4 : Inv (blk X N scope cl s3.heap.objs.size s3 (upd H s2.heap.objs.size (.lst [])) fp) [] σc (upd H s2.heap.objs.size (.lst [])) { s2 with heap := h₁, toks := s2.toks + ([] : List (Str × Value)).length } :=
    blk_inv (s4 := { s2 with heap := h₁, toks := s2.toks + ([] : List (Str × Value)).length }) I3 hcl1 hcl2 hkind hcell hcap hlen rfl fp3 (fun b hb => Nat.lt_of_lt_of_le (fplt b hb) (by rw [hsz]; exact Nat.le_succ _)) nob ⟨_, hns₁⟩ old34 hs4e hs4g
  have st4 : tn 0 h₁ := T.keep _ _ _ st fun b hb o e => old34 b o (old23 b o e)
  unfold compW at h
  obtain ⟨W, ⟨m0, w0⟩, turn⟩ := h s2.heap.objs.size _ hf (Same.upd hf) upd_same
  have loop : codeAny (model X.prog X.w) X.A (.compLoop (.ListComp elt [⟨tg, iter, ifs, 0⟩] scope pos) 0 (.ref it) (.ref s2.heap.objs.size) (blk X N scope cl s3.heap.objs.size s3 (upd H s2.heap.objs.size (.lst [])) fp).env)
      (RR (.ref s2.heap.objs.size) s3.heap.objs.size) { s2 with heap := h₁, toks := s2.toks + ([] : List (Str × Value)).length } := by
    refine comp_loop (fun n s' => ∃ i ys σ' H', Inv (blk X N scope cl s3.heap.objs.size s3 (upd H s2.heap.objs.size (.lst [])) fp) [] σ' H' s' ∧ tn i s'.heap ∧ (∀ b ∈ fp, H' b = none) ∧ W i n ys σ' H') ?_ m0 ⟨0, [], σc, _, I4, st4, fun b hb => (fp3 b hb).1, w0⟩
    rintro n s5 ⟨i, ys, σ5, H5, I5, st5, fr5, w5⟩
    obtain ⟨hacc, hl5, hcase⟩ := turn i n ys σ5 H5 w5
    have stat : ∀ {H' : Hp}, (∀ b ∈ fp, H' b = none) → ∀ b ∈ fp, FpOk (blk X N scope cl s3.heap.objs.size s3 (upd H s2.heap.objs.size (.lst [])) fp) [] H' b := fun hn b hb => by
      obtain ⟨_, f1, f2, f3, f4, _⟩ := fpok b hb
      refine ⟨hn b hb, Nat.ne_of_lt (Nat.lt_of_lt_of_le (fplt b hb) (by rw [hsz]; exact Nat.le_succ _)), fun hz => ?_, .inl hb, fun x c hx => f4 x c (hcl1 x c hx), fun p hp => by cases hp⟩
      rcases List.mem_cons.mp (I.stkSub b hz) with q | q
      · exact f1 q
      · exact f2 q
    rcases hcase with ⟨stop, hq⟩ | ⟨go, step⟩
    · refine thn (T.done (blk X N scope cl s3.heap.objs.size s3 (upd H s2.heap.objs.size (.lst [])) fp) rfl rfl rfl hc i [] s5 σ5 H5 (fun _ _ => False) I5 (stat fr5) st5 stop) fun r s6 ⟨hr, I6⟩ => ?_
      subst hr
      have u1 : Un (frs X.stack) fp H (upd H s2.heap.objs.size (.lst [])) s2.heap s3.heap := Un.laid old23 (Nat.le_refl _) hf
      have u2 : Un (frs X.stack) fp (upd H s2.heap.objs.size (.lst [])) H5 s3.heap s6.heap := I6.base
      have hC : H5 s3.heap.objs.size = none := I6.free
      obtain ⟨m6, hm6, _⟩ := I6.loc
      have hos : s6.os = s2.os := by rw [I6.os]; show s3.os = s2.os; rw [← hs3]
      have hok6 := I6.hok
      have bare6 := I6.bare
      obtain ⟨hh, gg, dd, tt', os'⟩ := s6
      obtain rfl : os' = s2.os := hos
      exact hRR _ _ H5 _ (I.call (h' := hh) (g' := gg) (d' := dd) (t' := tt') (ch := fp) (u1.trans u2) hok6 bare6 fun b hb => ⟨(fpok b hb).2.2.2.1, (fpok b hb).2.1, (fpok b hb).2.2.2.2.1, (fpok b hb).2.2.2.2.2⟩)
        (I.fpOk (by rw [hsz]; exact Nat.le_succ _) hC) ⟨m6, hm6⟩ hq
    · refine thn (T.item (blk X N scope cl s3.heap.objs.size s3 (upd H s2.heap.objs.size (.lst [])) fp) rfl rfl rfl hc i [] s5 σ5 H5 (fun _ _ => False) I5 (stat fr5) st5 go) fun r s6 ⟨u, hr, h6⟩ => ?_
      subst hr
      refine thn h6 fun _ s7 ⟨x, H7, I7, r7, y7, st7, fr7⟩ => ?_
      have I7' := I7.pinned (stat fr7) (T.obj _ _ st7)
      refine thn (hg _ _ _ _ _ s7 σ5 H7 x u _ I7' r7 (step x H7 y7)) fun _ s8 ⟨σ8, H8, I8, q8⟩ => ?_
      refine thn (ht _ _ _ _ _ s8 σ8 H8 _ I8 q8) fun ok s9 ⟨H9, I9, q9⟩ => ?_
      have again : ∀ {s10 : Shared} {σ10 : St} {H10 : Hp} {zs : List V}, Inv (blk X N scope cl s3.heap.objs.size s3 (upd H s2.heap.objs.size (.lst [])) fp) ([] ++ pinsAt fp s7.heap) σ10 H10 s10 → (∃ m', m' < n ∧ W (i + 1) m' zs σ10 H10) →
          ∃ m, m < n ∧ ∃ i ys σ' H', Inv (blk X N scope cl s3.heap.objs.size s3 (upd H s2.heap.objs.size (.lst [])) fp) [] σ' H' s10 ∧ tn i s10.heap ∧ (∀ b ∈ fp, H' b = none) ∧ W i m ys σ' H' := fun {s10 σ10 H10 zs} I10 ⟨m', hm, w10⟩ => by
        refine ⟨m', hm, i + 1, zs, σ10, H10, I10.unpinned, T.keep _ _ _ st7 fun b hb o e => (I10.pin (b, o) (List.mem_append_right _ (List.mem_append_right _ (mem_pinsAt hb e)))).1, fun b hb => ?_, w10⟩
        obtain ⟨o, e, d⟩ := T.obj _ _ st7 b hb
        exact (I10.pin (b, o) (List.mem_append_right _ (List.mem_append_right _ (mem_pinsAt hb e)))).2.1
      dsimp only at q9
      rw [br_iff] at q9
      cases ok with
      | false =>
        have q9 : ∃ m', m' < n ∧ W (i + 1) m' ys σ8 H9 := by rw [if_neg Bool.false_ne_true] at q9; unfold cSkip at q9; exact q9
        exact again I9 q9
      | true =>
        have q9 := (if_pos rfl ▸ q9 : te σ8 H9 _)
        refine thn (he _ _ _ _ _ s9 σ8 H9 _ I9 q9) fun v s10 ⟨y, H10, I10, r10, q10⟩ => ?_
        unfold cPut at q10
        obtain ⟨e10, q10⟩ := q10
        refine thn (mt_append _ s10 σ8 H10 (.ref s2.heap.objs.size) [y] (.ref s2.heap.objs.size) [v] (fun _ H11 => ∃ m', m' < n ∧ W (i + 1) m' (ys ++ [y]) σ8 H11) I10 rfl (.cons r10 .nil) ⟨_, ys, y, rfl, rfl, e10, hl5, q10 _ Chg.upd upd_same⟩) fun _ s11 ⟨z, H11, I11, _, q11⟩ => ?_
        exact again I11 q11
  exact codeAny_compStart_list loop (T.self _ 0 _ _ _ st4 loop)
/-- what the block sees of the frame: by slots -/
def capS (ks : List (Option Nat)) (σ : St) : St := ks.map fun k => match k with
  | none => none
  | some j => (σ[j]?).join
inductive CapOk (X : Cx) (scope : Scope) : List Str → List (Option Nat) → Prop where
  | nil : CapOk X scope [] []
  | skip {x : Str} {N : List Str} {ks : List (Option Nat)} (t : CapOk X scope N ks) : CapOk X scope (x :: N) (none :: ks)
  | take {x : Str} {N : List Str} {ks : List (Option Nat)} {j : Nat} (h1 : X.N[j]? = some x) (h2 : scope.names.lookup x = some .free) (h3 : X.env.kindOf x = some .cell ∨ X.env.kindOf x = some .free) (t : CapOk X scope N ks) : CapOk X scope (x :: N) (some j :: ks)
theorem CapOk.cap {scope : Scope} {N : List Str} {ks : List (Option Nat)} (h : CapOk X scope N ks) (σ : St) : ∀ (i : Nat) (x : Str) (v : V), N[i]? = some x → (capS ks σ)[i]? = some (some v) → ∃ j : Nat, X.N[j]? = some x ∧ σ[j]? = some (some v) ∧ scope.names.lookup x = some .free ∧ (X.env.kindOf x = some .cell ∨ X.env.kindOf x = some .free) := by
  induction h with
  | nil => intro i x v h; simp at h
  | skip t ih =>
    intro i x v h1 h2
    cases i with
    | zero => simp [capS] at h2
    | succ i => exact ih i x v (by simpa using h1) (by simpa [capS] using h2)
  | take a b c t ih =>
    intro i x v h1 h2
    cases i with
    | zero =>
      simp only [List.getElem?_cons_zero, Option.some.injEq] at h1
      subst h1
      refine ⟨_, a, ?_, b, c⟩
      simpa [capS, Option.join_eq_some_iff] using h2
    | succ i => exact ih i x v (by simpa using h1) (by simpa [capS] using h2)
theorem CapOk.len {scope : Scope} {N : List Str} {ks : List (Option Nat)} (h : CapOk X scope N ks) (σ : St) : (capS ks σ).length = N.length := by
  have : ks.length = N.length := by
    induction h with
    | nil => rfl
    | skip t ih => simp [ih]
    | take a b c t ih => simp [ih]
  simp [capS, this]
def qComp (ks : List (Option Nat)) (wi : TI) (g : TG) (tt : TT) (te : TE) : TE := fun σ H Q => wi σ H fun J H1 => compW J g tt te (capS ks σ) H1 Q
def freeB (scope : Scope) (f : Str → Option NameKind) : Bool := scope.names.all fun x => x.2 != .free || (f x.1 == some .cell || f x.1 == some .free)
def scopeB (scope : Scope) : Bool := scope.names.all (fun x => x.2 != .cell) && scope.names.all fun x => x.2 != .local || scope.names.lookup x.1 == some .local
theorem freeB_ok {scope : Scope} {f : Str → Option NameKind} (h : freeB scope f = true) : ∀ x ∈ scope.names, x.2 = .free → f x.1 = some .cell ∨ f x.1 = some .free := fun x hx hf => by
  have := List.all_eq_true.mp h x hx
  simpa [hf] using this
theorem scopeB_ok {scope : Scope} (h : scopeB scope = true) : (∀ y ∈ scope.names, y.2 ≠ .cell) ∧ ∀ x ∈ scope.names, x.2 = .local → scope.names.lookup x.1 = some .local := by
  unfold scopeB at h
  rw [Bool.and_eq_true] at h
  refine ⟨fun y hy => ?_, fun x hx hl => ?_⟩
  · have := List.all_eq_true.mp h.1 y hy
    simpa using this
  · have := List.all_eq_true.mp h.2 x hx
    simpa [hl] using this
theorem peComp {elt tg iter : Expr} {ifs : List Expr} {scope : Scope} {pos : Pos} {N : List Str} {ks : List (Option Nat)} {wi : TI} {g : TG} {tt : TT} {te : TE} (hi : PI X tg iter wi)
    (hg : ∀ cl C s3 H3 fp, PG (blk X N scope cl C s3 H3 fp) tg g) (ht : ∀ cl C s3 H3 fp, PTs (blk X N scope cl C s3 H3 fp) ifs tt) (he : ∀ cl C s3 H3 fp, PE (blk X N scope cl C s3 H3 fp) elt te) (hcap : CapOk X scope N ks)
    (hc : X.calm = true := by rfl) (hkind : scope.kind = .function := by rfl) (hb : freeB scope X.env.kindOf = true := by rfl) (hn : scopeB scope = true := by rfl) (hs : ∀ x, foldedSetIterable iter X.env x = pure x := by intro _; rfl) :
    PE X (.ListComp elt [⟨tg, iter, ifs, 0⟩] scope pos) (qComp ks wi g tt te) := by
  intro pins s σ H Q I h
  obtain ⟨hcell, hnames⟩ := scopeB_ok hn
  obtain ⟨cl, hcl, hcl1, hcl2⟩ := closure_ok (scope := scope) (env := X.env) fun x hx hf => I.ok.has x.1 (freeB_ok hb x hx hf)
  rw [eval_ListComp]
  refine wpAny_comprehension_free (use := none) rfl hs hcl hkind hnames ?_
  show wpAny _ _ (eval iter X.env) _ _ s
  refine thn (hi pins s σ H _ I h) fun v s1 h1 => thn h1 fun itv s2 h2 => ?_
  obtain ⟨it, fp, tn, J, H2, e, I2, T, st2, f2, q2⟩ := h2
  subst e
  refine comp_core (RR := fun acc C => compPost (model X.prog X.w) X.A X.xe none (EP X pins σ Q) acc C) hcl1 hcl2 hkind hcell (hcap.cap σ) (hcap.len σ) hc I2 T st2 f2 (hg cl) (ht cl) (he cl) q2 ?_
  rintro acc C H' s' I' hC ⟨m, hm⟩ hq
  refine ⟨m, hm, fun h' hsb => ⟨.ref acc, H', ?_, rfl, hq⟩⟩
  exact I'.turned (t' := s'.toks) (fun b o hb e => hsb.extBut b o hb e) hC.1 hC.2.1 hC.2.2.2.1 hC.2.2.2.2.1 hC.2.2.2.2.2
/-- name = [.. for ..], the name a plain local -/
theorem psC {i : Nat} {y : Str} {py spos : Pos} {elt tg iter : Expr} {ifs : List Expr} {scope : Scope} {pos : Pos} {N : List Str} {ks : List (Option Nat)} {wi : TI} {g : TG} {tt : TT} {te : TE} (hN : X.N.Nodup) (hi : PI X tg iter wi)
    (hg : ∀ cl C s3 H3 fp, PG (blk X N scope cl C s3 H3 fp) tg g) (ht : ∀ cl C s3 H3 fp, PTs (blk X N scope cl C s3 H3 fp) ifs tt) (he : ∀ cl C s3 H3 fp, PE (blk X N scope cl C s3 H3 fp) elt te) (hcap : CapOk X scope N ks)
    (hy : X.N[i]? = some y := by rfl) (hl : X.env.scope.names.lookup y = some .local := by rfl) (hsw : swapsWith (.ListComp elt [⟨tg, iter, ifs, 0⟩] scope pos) (some (.Name y py)) spos.line X.env = pure true := by rfl)
    (hc : X.calm = true := by rfl) (hkind : scope.kind = .function := by rfl) (hb : freeB scope X.env.kindOf = true := by rfl) (hn : scopeB scope = true := by rfl) (hs : ∀ x, foldedSetIterable iter X.env x = pure x := by intro _; rfl) :
    PS X (.Assign [.Name y py] (.ListComp elt [⟨tg, iter, ifs, 0⟩] scope pos) spos) (tAsg (qComp ks wi g tt te) (gName i)) := by
  intro pins s σ H D I h
  obtain ⟨hcell, hnames⟩ := scopeB_ok hn
  obtain ⟨cl, hcl, hcl1, hcl2⟩ := closure_ok (scope := scope) (env := X.env) fun x hx hf => I.ok.has x.1 (freeB_ok hb x hx hf)
  rw [exec_Assign_Name_used _ _ _ _ hsw]
  refine wpAny_bind (wpAny_standAt (wpAny_bind ?_))
  show wpAny _ X.A (do let _ ← comprehension (.ListComp elt [⟨tg, iter, ifs, 0⟩] scope pos) scope X.env _ (newList []) false (eval iter X.env) (some (assign (.Name y py) X.env))) _ _ s
  refine wpAny_bind (wpAny_mono (wpAny_comprehension_free (use := some (assign (.Name y py) X.env)) (Q := fun _ s' => SP X pins D .next s') rfl hs hcl hkind hnames ?_) (fun _ s' hq => wpAny_pure (wpAny_pure hq)) fun _ _ e => e)
  refine thn (hi pins s σ H _ I h) fun v s1 h1 => thn h1 fun itv s2 h2 => ?_
  obtain ⟨it, fp, tn, J, H2, e, I2, T, st2, f2, q2⟩ := h2
  subst e
  refine comp_core (RR := fun acc C => compPost (model X.prog X.w) X.A X.xe (some (assign (.Name y py) X.env)) (fun _ s' => SP X pins D .next s') acc C) hcl1 hcl2 hkind hcell (hcap.cap σ) (hcap.len σ) hc I2 T st2 f2 (hg cl) (ht cl) (he cl) q2 ?_
  rintro acc C H' s' I' hC ⟨m, hm⟩ hq
  show wpAny _ _ (assign (.Name y py) X.env (.ref acc)) _ _ _
  refine wpAny_assign_Name (store_ok2 I' hN hy (.inl hl) (v := .ref acc) rfl (fun s'' I'' hsb => ?_) (.inr hl))
  obtain ⟨a, hsb, ha⟩ := hsb
  have hCa : C ≠ a := by
    rcases ha with ha | ha
    · rw [ha]; exact hC.2.1
    · exact (hC.2.2.2.2.1 y a ha).symm
  refine ⟨m, hm.sameBut hsb hCa, fun h' hsb' => ⟨σ.set i (some (.ref acc)), H', ?_, hq⟩⟩
  exact I''.turned (t' := s''.toks) (fun b o hb e => hsb'.extBut b o hb e) hC.1 hC.2.1 hC.2.2.2.1 hC.2.2.2.2.1 hC.2.2.2.2.2
end
/-! ### how a comprehension is read -/
def cW (n : Nat) (H1 : Hp) (acc : Addr) (Pv : Nat → List V → St → Hp → Prop) : Nat → Nat → List V → St → Hp → Prop := fun i m ys σ H => m = n - i ∧ i ≤ n ∧ ys.length ≤ i ∧ Same H1 H ∧ H acc = some (.lst ys) ∧ Pv i ys σ H
section
variable {K : PySem.W.Frag} {g : TG} {tt : TT} {te : TE} {σ0 : St} {H1 : Hp} {Q : VK}
theorem cput_rd {n i m : Nat} {acc : Addr} {Pv : Nat → List V → St → Hp → Prop} {ys : List V} {σ2 : St} {v : V} {H5 : Hp} (hi : i < n) (hm : m = n - i) (hl : ys.length ≤ i) (hf : H1 acc = none) (hs : Same H1 H5) (ha : H5 acc = some (.lst ys))
    (q : ∀ H6, Same H1 H6 → Chg acc H5 H6 → Pv (i + 1) (ys ++ [v]) σ2 H6) : cPut (cW n H1 acc Pv) acc ys i m σ2 v H5 := by
  unfold cPut
  refine ⟨ha, fun H6 hc h6 => ⟨n - (i + 1), by omega, rfl, by omega, by rw [List.length_append, List.length_singleton]; omega, hs.chg hf hc, h6, q H6 (hs.chg hf hc) hc⟩⟩
theorem cskip_rd {n i m : Nat} {acc : Addr} {Pv : Nat → List V → St → Hp → Prop} {ys : List V} {σ2 : St} {H4 : Hp} (hi : i < n) (hm : m = n - i) (hl : ys.length ≤ i) (hs : Same H1 H4) (ha : H4 acc = some (.lst ys))
    (q : Pv (i + 1) ys σ2 H4) : cSkip (cW n H1 acc Pv) ys i m σ2 H4 := by
  unfold cSkip
  exact ⟨n - (i + 1), by omega, rfl, by omega, by omega, hs, ha, q⟩
/-- what a turn has -/
structure CT (n i m : Nat) (H1 H : Hp) (acc : Addr) (ys : List V) : Prop where
  hi : i < n
  hm : m = n - i
  hl : ys.length ≤ i
  hf : H1 acc = none
  hs : Same H1 H
  ha : H acc = some (.lst ys)
theorem CT.skip {n i m : Nat} {H H4 : Hp} {acc : Addr} {Pv : Nat → List V → St → Hp → Prop} {ys : List V} {σ2 : St} (c : CT n i m H1 H acc ys) (hs : Same H H4)
    (q : Pv (i + 1) ys σ2 H4) : cSkip (cW n H1 acc Pv) ys i m σ2 H4 := cskip_rd c.hi c.hm c.hl (c.hs.trans hs) (hs _ _ c.ha) q
theorem comp_list {a : Addr} {xs : List V} (hx : SqL K H1 a xs) (hn : xs.length < sizeLine) (Pv : Nat → List V → St → Hp → Prop) (h0 : ∀ H, Same H1 H → Pv 0 [] σ0 H)
    (turn : ∀ i m x ys σ H acc, xs[i]? = some x → CT xs.length i m H1 H acc ys → Pv i ys σ H → g x σ H fun σ2 H3 => tt σ2 H3 fun b H4 => br b (te σ2 H4 fun v H5 => cPut (cW xs.length H1 acc Pv) acc ys i m σ2 v H5) (cSkip (cW xs.length H1 acc Pv) ys i m σ2 H4))
    (fin : ∀ acc ys σ H, H1 acc = none → Same H1 H → H acc = some (.lst ys) → Pv xs.length ys σ H → Q (.ref acc) H) : compW (Itl K a) g tt te σ0 H1 Q := by
  unfold compW
  intro acc H2 hf hs ha
  refine ⟨cW xs.length H1 acc Pv, ⟨xs.length, by simp, Nat.zero_le _, Nat.le_refl _, hs, ha, h0 H2 hs⟩, ?_⟩
  rintro i m ys σ H ⟨hm, hi, hl, hs', ha', hp⟩
  refine ⟨ha', by omega, ?_⟩
  have q := hs'.seq hx
  by_cases hlt : i < xs.length
  · refine .inr ⟨⟨xs, xs[i], q, by simp [hlt]⟩, fun x H' y => ?_⟩
    obtain ⟨e, y⟩ := y
    subst e
    exact turn i m x ys σ _ acc (y xs q) ⟨hlt, hm, hl, hf, hs', ha'⟩ hp
  · have e : i = xs.length := by omega
    subst e
    exact .inl ⟨⟨xs, q, Nat.le_refl _⟩, fin acc ys σ H hf hs' ha' hp⟩
end
end L2

set_option Elab.async false
set_option linter.all false
set_option maxRecDepth 100000
set_option maxHeartbeats 2000000
namespace L2
open PySem PySem.Spec PyProof.Rows
section
variable {X : Cx}
/-! ### sum, all, list, tuple of what is read -/
@[irreducible] def rSumA (K : PySem.W.Frag) (p : Addr) (H : Hp) (Q : VK) : Prop := ∃ ns : List Int, SqL K H p (ns.map V.int) ∧ Q (.int ns.sum) H
def rSumM (K : PySem.W.Frag) : List V → Hp → VK → Prop := fun xs H Q => match xs with
  | [.ref p] => rSumA K p H Q
  | _ => False
theorem cSum (hc : X.calm = true) : CallR X (.builtin "sum") (rSumM X.K) := fun pins s σ H xs us Q I r h => by
  unfold rSumM at h
  split at h
  · unfold rSumA at h
    obtain ⟨ns, h1, h2⟩ := h
    obtain ⟨u, rfl, rx⟩ := vals1 r
    cases rx
    obtain ⟨its, r', pl, hz⟩ := I.list h1
    have hi := intsAre_of r'
    obtain ⟨ys, hx⟩ := hi.allInts.items
    have hl' : s.heap.IsList _ (intItems ys) := hx ▸ pl.isList
    refine sum_intListG (I.ok.hd hc) hl' fun h' tk t' hk => ?_
    have e1 : ns = ys.toList.map (·.1) := by
      rw [← nums_intItems, ← hx]
      exact (show numsOf its.toArray.toList = ns from hi.numsOf).symm
    have e2 : preSum (numAt ys) ys.size = ns.sum := by
      rw [preSum_eq, List.take_of_length_le (by simp), e1]
    rw [e2]
    exact ⟨.int ns.sum, H, I.kept hk, ⟨_, rfl⟩, h2⟩
  · exact h.elim
theorem sum_rd {K : PySem.W.Frag} {p : Addr} {H : Hp} {Q : VK} {ns : List Int} (h : H p = some (.lst (ns.map V.int))) (q : Q (.int ns.sum) H) : rSumA K p H Q := by unfold rSumA; exact ⟨ns, SqL.of h, q⟩
theorem boolsAre_of : ∀ {bs : List Bool} {us : List Value}, Vals (bs.map V.bl) us → LSm.BoolsAre us bs
  | [], us, r => by rw [List.map_nil] at r; cases r; exact .nil
  | b :: bs, us, r => by
    rw [List.map_cons] at r
    cases r with
    | cons r1 r2 =>
      cases r1
      exact .cons b (boolsAre_of r2)
@[irreducible] def rAllA (K : PySem.W.Frag) (p : Addr) (H : Hp) (Q : VK) : Prop := ∃ bs : List Bool, SqL K H p (bs.map V.bl) ∧ Q (.bl (bs.all id)) H
def rAllM (K : PySem.W.Frag) : List V → Hp → VK → Prop := fun xs H Q => match xs with
  | [.ref p] => rAllA K p H Q
  | _ => False
theorem cAll (hc : X.calm = true) : CallR X (.builtin "all") (rAllM X.K) := fun pins s σ H xs us Q I r h => by
  unfold rAllM at h
  split at h
  · rename_i p
    unfold rAllA at h
    obtain ⟨bs, h1, h2⟩ := h
    obtain ⟨u, rfl, rx⟩ := vals1 r
    cases rx
    obtain ⟨its, r', pl, hz⟩ := I.list h1
    have hb := boolsAre_of r'
    have hlt : p < s.heap.objs.size := by obtain ⟨_, e, _⟩ := pl.isList; exact Heap.lt_size e
    refine call_all_walk (wpAny_pyIter_list pl.isList ?_)
    refine ⟨s.heap.objs.size, [s.heap.objs.size, _], [s.heap.objs.size], its.toArray.size, _, _, fun i => (bs[i]?).getD true, rfl, Walks.list (A := X.A.in1) (I.ok.hd hc) _ _ (Nat.ne_of_lt hlt) its.toArray,
      ⟨⟨_, Heap.get?_push_size _ rfl, rfl, rfl⟩, pl.isList.push _⟩, fun i v s' Q' E' hP hQ => ?_, fun h' tk hk => ?_⟩
    · obtain ⟨b, e, rfl⟩ := hb.get i v (by simpa using hP)
      simp only [e, Option.getD_some] at hQ
      exact wpAny_truthy_bool hQ
    · have e : ((List.range its.toArray.size).all fun i => (bs[i]?).getD true) = bs.all id := by
        rw [List.size_toArray, hb.length]; exact LSm.range_all bs
      rw [e]
      exact ⟨.bl _, H, I.kept (LSm.kept_iter hk), rfl, h2⟩
  · exact h.elim
theorem all_rd {K : PySem.W.Frag} {p : Addr} {H : Hp} {Q : VK} {bs : List Bool} (h : H p = some (.lst (bs.map V.bl))) (q : Q (.bl (bs.all id)) H) : rAllA K p H Q := by unfold rAllA; exact ⟨bs, SqL.of h, q⟩
@[irreducible] def rListA (K : PySem.W.Frag) (p : Addr) (H : Hp) (Q : VK) : Prop := ∃ ys, (SqL K H p ys ∨ SqT K H p ys) ∧ ∀ l H', H l = none → Same H H' → H' l = some (.lst ys) → Q (.ref l) H'
def rListM (K : PySem.W.Frag) : List V → Hp → VK → Prop := fun xs H Q => match xs with
  | [.ref p] => rListA K p H Q
  | _ => False
theorem cList : CallR X (.type "list") (rListM X.K) := fun pins s σ H xs us Q I r h => by
  unfold rListM at h
  split at h
  · unfold rListA at h
    obtain ⟨ys, h1, h2⟩ := h
    exact call_list_of pins s σ H _ us Q I r ⟨_, ys, rfl, h1, fun l hl => h2 l _ hl (Same.upd hl) upd_same⟩
  · exact h.elim
theorem listL_rd {K : PySem.W.Frag} {p : Addr} {H : Hp} {Q : VK} {ys : List V} (h : SqL K H p ys) (q : ∀ l H', H l = none → Same H H' → H' l = some (.lst ys) → Q (.ref l) H') : rListA K p H Q := by unfold rListA; exact ⟨ys, .inl h, q⟩
/-! ### methods of lists -/
@[irreducible] def rLstIs (K : PySem.W.Frag) (p : Addr) (H : Hp) (R : Prop) : Prop := (∃ xs, SqL K H p xs) ∧ R
def qBM (K : PySem.W.Frag) (r : Addr → List V → Hp → VK → Prop) (to : TE) (t : TA) : TE := fun σ H Q => to σ H fun x H1 => match x with
  | .ref p => rLstIs K p H1 (t σ H1 fun xs H2 => r p xs H2 Q)
  | _ => False
theorem lst_is {K : PySem.W.Frag} {p : Addr} {H : Hp} {R : Prop} {xs : List V} (h : H p = some (.lst xs)) (q : R) : rLstIs K p H R := by unfold rLstIs; exact ⟨⟨xs, SqL.of h⟩, q⟩
def MtA (X : Cx) (id : String) (r : Addr → List V → Hp → VK → Prop) : Prop :=
  ∀ (pins : List (Addr × Obj)) (s : Shared) (σ : St) (H : Hp) (p : Addr) (xs : List V) (us : List Value) (Q : VK), Inv X pins σ H s → Vals xs us → r p xs H Q →
    wpAny (model X.prog X.w) X.A (call (.builtin id) (.ref p :: us)) (EP X pins σ Q) X.xe s
theorem peBM {o e : Expr} {es : List Expr} {to : TE} {t : TA} {name : Str} {apos cpos : Pos} {id : String} {r : Addr → List V → Hp → VK → Prop} (slot : Slot "list" name id) (hty : typeOf (.builtin id) = pure (.type "method_descriptor")) (hm : MtA X id r) (ho : PE X o to) (ha : PA X (e :: es) t)
    (hbase : attributeBase o name X.env (eval o X.env) = eval o X.env := by rfl)
    (hfew : ((backTo cpos (starEach (e :: es) X.env)).all (fun x => !x.1) && (backToKw cpos (keywordEach [] X.env)).all (fun x => x.1.isSome)
      && decide ((e :: es).length + ([] : List Keyword).length + (if ([] : List Keyword).isEmpty then 0 else 1) < 30)) = true := by rfl)
    (hline : (apos.endLine == cpos.line) = true := by rfl) (hs : starEach (e :: es) X.env = (false, eval e X.env) :: starEach es X.env := by rfl) (hplain : (backTo cpos (starEach es X.env)).any (·.1) = false := by rfl) :
    PE X (.Call (.Attribute o name apos) (e :: es) [] cpos) (qBM X.K r to t) := by
  intro pins s σ H Q I h
  refine wpAny_Call_method_late hbase hfew hline rfl (thn (ho pins s σ H _ I h) fun v s1 ⟨x, H1, I1, r1, q1⟩ => ?_)
  dsimp only at q1
  split at q1
  · rename_i p
    unfold rLstIs at q1
    obtain ⟨hq, q1⟩ := q1
    obtain ⟨h1, h2⟩ := tyV_is (T := "list") I1 r1 (.inl ⟨rfl, hq⟩)
    refine ⟨"list", id, PySem.F.plainAttrs_list, slot, hty, h1, h2, ?_⟩
    have hA := ha cpos pins s1 σ H1 _ I1 q1
    rw [hs] at hA ⊢
    refine Calls.callWith_builtin (by show (false || (backTo cpos (starEach es X.env)).any (·.1)) = false; rw [hplain] <;> rfl) (Calls.evalArgs_plain ?_)
    cases r1
    exact thn hA fun us s2 ⟨vs, H2, I2, r2, q2⟩ => hm pins s2 σ H2 p vs us Q I2 r2 q2
  · exact q1.elim
@[irreducible] def rAppA (p : Addr) (v : V) (H : Hp) (Q : VK) : Prop := ∃ xs, H p = some (.lst xs) ∧ xs.length < sizeLine ∧ ∀ H', Chg p H H' → H' p = some (.lst (xs ++ [v])) → Q .non H'
def rAppM : Addr → List V → Hp → VK → Prop := fun p vs H Q => match vs with
  | [v] => rAppA p v H Q
  | _ => False
theorem mAppend : MtA X "list.append" rAppM := fun pins s σ H p xs us Q I r h => by
  unfold rAppM at h
  split at h
  · unfold rAppA at h
    obtain ⟨ys, h1, h2, h3⟩ := h
    exact mt_append pins s σ H (.ref p) _ (.ref p) us Q I rfl r ⟨p, ys, _, rfl, rfl, h1, h2, h3 _ Chg.upd upd_same⟩
  · exact h.elim
theorem app_rd {p : Addr} {v : V} {H : Hp} {Q : VK} {xs : List V} (h : H p = some (.lst xs)) (hz : xs.length < sizeLine) (q : ∀ H', Chg p H H' → H' p = some (.lst (xs ++ [v])) → Q .non H') : rAppA p v H Q := by unfold rAppA; exact ⟨xs, h, hz, q⟩
theorem peM_append {o e : Expr} {to : TE} {t : TA} {apos cpos : Pos} (ho : PE X o to) (ha : PA X [e] t) (hbase : attributeBase o "append" X.env (eval o X.env) = eval o X.env := by rfl)
    (hfew : ((backTo cpos (starEach [e] X.env)).all (fun x => !x.1) && (backToKw cpos (keywordEach [] X.env)).all (fun x => x.1.isSome)
      && decide ([e].length + ([] : List Keyword).length + (if ([] : List Keyword).isEmpty then 0 else 1) < 30)) = true := by rfl)
    (hline : (apos.endLine == cpos.line) = true := by rfl) (hs : starEach [e] X.env = (false, eval e X.env) :: starEach [] X.env := by rfl) (hplain : (backTo cpos (starEach [] X.env)).any (·.1) = false := by rfl) : PE X (.Call (.Attribute o "append" apos) [e] [] cpos) (qBM X.K rAppM to t) :=
  peBM PySem.F.slot_list_append PySem.F.type_list_append mAppend ho ha hbase hfew hline hs hplain
/-! ### name op= e -/
/-! ### is None -/
def rIsM : R2 := fun x y H Q => match y with
  | .non => Q (.bl (decide (x = .non))) H
  | _ => False
def rIsNotM : R2 := fun x y H Q => match y with
  | .non => Q (.bl (!decide (x = .non))) H
  | _ => False
theorem oIsNot : OpR X (compareOp .IsNot) rIsNotM := by
  intro pins s σ H x y v u Q I rx ry h
  unfold rIsNotM at h
  split at h
  · exact op_notN pins s σ H _ _ v u Q I rx ry ⟨rfl, h⟩
  · exact h.elim
/-! ### a, b = a list -/
section
variable {prog : Program} {w : World} {A : Around} {E : Value → Shared → Prop} {s : Shared}
theorem draw_list {it t : Addr} {items : Array Value} (hne : t ≠ it) : ∀ (n i : Nat) (s : Shared) (Q : List Value → Shared → Prop), s.heap.IsListIter it t i → s.heap.IsList t items → i + n ≤ items.size →
    (∀ h', h'.IsListIter it t (i + n) → Heap.SameBut it s.heap h' → Q ((items.toList.drop i).take n) { s with heap := h' }) → wpAny (model prog w) A (draw (.ref it) n) Q E s
  | 0, i, s, Q, hit, _, _, hQ => by
    show wpAny _ _ (pure []) Q E s
    exact wpAny_pure (by simpa using hQ s.heap hit (Heap.SameBut.refl ..))
  | n + 1, i, s, Q, hit, ht, hle, hQ => by
    have hlt : i < items.size := by omega
    show wpAny _ _ (pyNext (.ref it) >>= _) Q E s
    refine wpAny_bind (wpAny_pyNext_list_item hit ht (x := items[i]) (by simp [hlt]) fun h₁ hit₁ hs₁ => ?_)
    refine wpAny_bind (wpAny_holding (draw_list hne n (i + 1) _ _ hit₁ (ht.extBut hs₁.extBut hne) (by omega) fun h₂ hit₂ hs₂ => wpAny_pure ?_))
    have hd : items.toList.drop i = items[i] :: items.toList.drop (i + 1) := by simp [List.drop_eq_getElem_cons, hlt]
    have := hQ h₂ (by rw [show i + (n + 1) = i + 1 + n by omega]; exact hit₂) (hs₁.trans hs₂)
    rw [hd, List.take_succ_cons] at this
    exact this
theorem assign_Tuple_list {env : Env} {elts : List Expr} {x1} {pos : Pos} {t : Addr} {items : Array Value} {Q : Unit → Shared → Prop} (hh : A.handled = none) (ht : s.heap.IsList t items)
    (hn : (assignEach elts env).length = items.size) (hstar : (assignEach elts env).findIdx? (·.1) = none)
    (h : ∀ h', Heap.ExtBut s.heap.objs.size s.heap h' → wpAny (model prog w) A (assignInOrder ((assignEach elts env).map (·.2)) items.toList) Q E { s with heap := h' }) :
    wpAny (model prog w) A (assign (.Tuple elts x1 pos) env (.ref t)) Q E s := by
  rw [assign_Tuple]
  refine wpAny_bind (wpAny_standAt ?_)
  unfold unpack
  rw [hn, hstar]
  refine wpAny_bind (wpAny_holding ?_)
  have hlt : t ≠ s.heap.objs.size := by obtain ⟨o, ho, _⟩ := ht; exact Nat.ne_of_lt (Heap.lt_size ho)
  unfold unpackItems
  refine wpAny_bind ?_
  unfold notIterableAtAll
  refine wpAny_bind (wpAny_specialOf ht.typeIs F.slot_list_iter.lookup ?_)
  refine wpAny_pure ?_
  simp only [Bool.false_eq_true, if_false]
  refine wpAny_bind (wpAny_holding (wpAny_pyIter_list ht ?_))
  refine wpAny_bind (wpAny_holding (draw_list hlt items.size 0 _ _ ⟨_, Heap.get?_push_size _ rfl, rfl, rfl⟩ (ht.push _) (by omega) fun h₁ hit₁ hs₁ => ?_))
  have hall : List.take items.size (List.drop 0 items.toList) = items.toList := by
    rw [List.drop_zero]; exact List.take_of_length_le (by simp)
  rw [hall]
  rw [if_neg (by simp)]
  have ht₁ : h₁.IsList t items := (ht.push _).extBut hs₁.extBut hlt
  refine wpAny_bind (wpAny_holding (wpAny_pyNext_list_end hh hit₁ ht₁ (by simp) fun h₂ he₂ => ?_))
  simp only [Option.isSome_none, Bool.false_eq_true, if_false]
  exact wpAny_pure (h h₂ fun b o hb e => he₂ b o hb (hs₁.extBut b o hb (Heap.get?_push_of_some _ e)))
end
@[irreducible] def rUnpA (K : PySem.W.Frag) (a : Addr) (n : Nat) (t : TGs) (σ : St) (H : Hp) (Q : St → Hp → Prop) : Prop := ∃ xs, (SqT K H a xs ∨ SqL K H a xs) ∧ xs.length = n ∧ t xs σ H Q
def qgAny (K : PySem.W.Frag) (n : Nat) (t : TGs) : TG := fun v σ H Q => match v with
  | .ref a => rUnpA K a n t σ H Q
  | _ => False
theorem pgAny {pos : Pos} {es : List Expr} {k : Nat} {t : TGs} {n : Nat} (hc : X.calm = true) (h : PGs X es t)
    (hn : (assignEach es X.env).length = n := by rfl) (hst : (assignEach es X.env).findIdx? (·.1) = none := by rfl) : PG X (.Tuple es k pos) (qgAny X.K n t) := fun pins s σ H v u Q I r hq => by
  unfold qgAny at hq
  split at hq
  · unfold rUnpA at hq
    obtain ⟨xs, a1, a2, a3⟩ := hq
    rcases a1 with a1 | a1
    · exact pg_tup hc h hn hst pins s σ H _ u Q I r ⟨_, xs, rfl, a1, a2, a3⟩
    · cases r
      obtain ⟨its, rv, pl, hz⟩ := I.list a1
      refine assign_Tuple_list (I.ok.hd hc) pl.isList (by simp [hn, ← a2, rv.length]) hst fun h' hx => ?_
      have I1 : Inv X pins σ H { s with heap := h' } := I.kept (t' := s.toks) fun b o e => hx b o (Nat.ne_of_lt (Heap.lt_size e)) e
      exact h pins _ σ H xs _ Q I1 (by simpa using rv) a3
  · exact hq.elim
theorem unpT_rd {K : PySem.W.Frag} {a : Addr} {n : Nat} {t : TGs} {σ : St} {H : Hp} {Q : St → Hp → Prop} {xs : List V} (h : H a = some (.tup xs)) (q : t xs σ H Q) (e : xs.length = n := by rfl) : rUnpA K a n t σ H Q := by
  unfold rUnpA; exact ⟨xs, .inl (SqT.of h), e, q⟩
theorem unpL_rd {K : PySem.W.Frag} {a : Addr} {n : Nat} {t : TGs} {σ : St} {H : Hp} {Q : St → Hp → Prop} {xs : List V} (h : H a = some (.lst xs)) (q : t xs σ H Q) (e : xs.length = n := by rfl) : rUnpA K a n t σ H Q := by
  unfold rUnpA; exact ⟨xs, .inr (SqL.of h), e, q⟩
end
/-! ### two objects may have changed -/
def Chg2 (a c : Addr) (H H' : Hp) : Prop := ∀ b o, b ≠ a → b ≠ c → H b = some o → H' b = some o
theorem Chg2.refl (a c : Addr) (H : Hp) : Chg2 a c H H := fun _ _ _ _ e => e
theorem Chg2.trans {a c : Addr} {H H1 H2 : Hp} (x : Chg2 a c H H1) (y : Chg2 a c H1 H2) : Chg2 a c H H2 := fun b o h1 h2 e => y b o h1 h2 (x b o h1 h2 e)
theorem Chg2.same {a c : Addr} {H H1 H2 : Hp} (x : Chg2 a c H H1) (y : Same H1 H2) : Chg2 a c H H2 := fun b o h1 h2 e => y b o (x b o h1 h2 e)
theorem Chg.toL {a c : Addr} {H H1 : Hp} (x : Chg a H H1) : Chg2 a c H H1 := fun b o h1 _ e => x b o h1 e
theorem Chg.toR {a c : Addr} {H H1 : Hp} (x : Chg c H H1) : Chg2 a c H H1 := fun b o _ h2 e => x b o h2 e
theorem Same.to2 {a c : Addr} {H H1 : Hp} (x : Same H H1) : Chg2 a c H H1 := fun b o _ _ e => x b o e
theorem Chg2.at {a c b : Addr} {o : HO} {H H' : Hp} (x : Chg2 a c H H') (e : H b = some o) (h1 : b ≠ a) (h2 : b ≠ c) : H' b = some o := x b o h1 h2 e
/-! == with an empty list -/
theorem EqR.nilR {K : PySem.W.Frag} {H : Hp} {a b : Addr} {xs : List V} (ha : H a = some (.lst xs)) (hb : H b = some (.lst [])) : EqR K H 1 (.ref a) (.ref b) (decide (xs.length = 0)) := by
  by_cases h : xs.length = 0
  · rw [decide_eq_true h]
    have e : xs = [] := List.length_eq_zero_iff.mp h
    subst e
    exact EqR.lst (n := 0) (fun _ => true) (SqL.of ha) (SqL.of hb) rfl (fun j x y hx => by simp at hx)
  · rw [decide_eq_false h]
    exact EqR.lstN (SqL.of ha) (SqL.of hb) (by simpa using h)
/-! ### comprehensions whose elements change things: the word speaks of the heap by itself -/
section
variable {K : PySem.W.Frag} {g : TG} {tt : TT} {te : TE} {σ0 : St} {H1 : Hp} {Q : VK}
end
/-! ### the rules by the written part itself, so that a block's reading hangs on nothing of the block -/
section
variable {X : Cx} {K : PySem.W.Frag}
theorem slK (hK : X.K = K) : SlR X (rSlM K) := by subst hK; exact slM
theorem peIxK {a b : Expr} {ta tb : TE} {pos : Pos} (hK : X.K = K) (ha : PE X a ta) (hb : PE X b tb) (hs : PlainIx b := by exact fun _ _ => rfl) : PE X (.Subscript a b pos) (tOp (rIxM K) ta tb) := by subst hK; exact peIx ha hb hs
theorem cLenK (hK : X.K = K) : CallR X (.builtin "len") (rLenM K) := by subst hK; exact cLen
theorem cIsiK (hK : X.K = K) : CallR X (.builtin "isinstance") (rIsiM K) := by subst hK; exact cIsi
theorem cSumK (hK : X.K = K) (hc : X.calm = true) : CallR X (.builtin "sum") (rSumM K) := by subst hK; exact cSum hc
theorem cAllK (hK : X.K = K) (hc : X.calm = true) : CallR X (.builtin "all") (rAllM K) := by subst hK; exact cAll hc
theorem cListK (hK : X.K = K) : CallR X (.type "list") (rListM K) := by subst hK; exact cList
theorem oEqK (hK : X.K = K) (hu : X.A.units + 40 < cLine) : OpR X (compareOp .Eq) (rEqM K) := by subst hK; exact oEq hu
theorem oNeK (hK : X.K = K) (hu : X.A.units + 40 < cLine) : OpR X (compareOp .NotEq) (rNeM K) := by subst hK; exact oNe hu
theorem piSeqK {tg l : Expr} {tl : TE} (hK : X.K = K) (hl : PE X l tl) : PI X tg l (qiSeq K tl) := by subst hK; exact piSeq hl
theorem pgAnyK {pos : Pos} {es : List Expr} {k : Nat} {t : TGs} {n : Nat} (hK : X.K = K) (hc : X.calm = true) (h : PGs X es t)
    (hn : (assignEach es X.env).length = n := by rfl) (hst : (assignEach es X.env).findIdx? (·.1) = none := by rfl) : PG X (.Tuple es k pos) (qgAny K n t) := by subst hK; exact pgAny hc h hn hst
end
end L2

set_option Elab.async false
set_option linter.all false
set_option maxRecDepth 100000
set_option maxHeartbeats 2000000
namespace L2
open PySem PySem.Spec PyProof.Rows
/-! ### enumerate over a list -/
section
variable {X : Cx} {K : PySem.W.Frag}
end
section
variable {K : PySem.W.Frag} {g : TG} {tb : TS} {D : Ends} {σ : St} {H : Hp} {R : It → Hp → Prop}
end
section
variable {K : PySem.W.Frag} {g : TG} {tt : TT} {te : TE} {σ0 : St} {H1 : Hp} {Q : VK}
end
/-! ### list.count of flat things -/
section
variable {X : Cx} {K : PySem.W.Frag}
end
end L2

set_option Elab.async false
set_option linter.all false
set_option maxRecDepth 100000
set_option maxHeartbeats 2000000
namespace L2
open PySem PySem.Spec PyProof.Rows
/-! ### slices -/
theorem cut_drop {xs : List V} {k : Int} (h : 0 ≤ k) : cutV xs (some k) none = xs.drop k.toNat := by
  show List.take (xs.length - (if k < 0 then (k + (xs.length : Int)).toNat else min k.toNat xs.length)) (List.drop (if k < 0 then (k + (xs.length : Int)).toNat else min k.toNat xs.length) xs) = _
  rw [if_neg (by omega)]
  by_cases hk : k.toNat ≤ xs.length
  · rw [Nat.min_eq_left hk, List.take_of_length_le (by rw [List.length_drop]; omega)]
  · rw [Nat.min_eq_right (by omega), List.drop_of_length_le (by omega), List.drop_of_length_le (by omega), List.take_nil]
theorem cut_takeV {xs : List V} {k : Int} (h : 0 ≤ k) : cutV xs none (some k) = xs.take k.toNat := by
  show List.take ((if k < 0 then (k + (xs.length : Int)).toNat else min k.toNat xs.length) - 0) (List.drop 0 xs) = _
  rw [if_neg (by omega), List.drop_zero, Nat.sub_zero]
  by_cases hk : k.toNat ≤ xs.length
  · rw [Nat.min_eq_left hk]
  · rw [Nat.min_eq_right (by omega), List.take_of_length_le (Nat.le_refl _), List.take_of_length_le (by omega)]
/-! ### rows of ints, by a function -/
def rowV (n : Nat) (r : Nat → Int) : List V := (List.range n).map fun t => V.int (r t)
/-! ### an item by a place -/
theorem ref_at {ps : List Addr} {i : Int} {p : Addr} (h0 : 0 ≤ i) (h : ps[i.toNat]? = some p) : atI (ps.map V.ref) i = some (.ref p) := by
  have := atI_nat (xs := ps.map V.ref) (j := i.toNat) (v := .ref p) (by rw [List.getElem?_map, h]; rfl)
  rw [show ((i.toNat : Nat) : Int) = i by omega] at this
  exact this
theorem int_at {ns : List Int} {i : Int} {n : Int} (h0 : 0 ≤ i) (h : ns[i.toNat]? = some n) : atI (ns.map V.int) i = some (.int n) := by
  have := atI_nat (xs := ns.map V.int) (j := i.toNat) (v := .int n) (by rw [List.getElem?_map, h]; rfl)
  rw [show ((i.toNat : Nat) : Int) = i by omega] at this
  exact this
/-! ### a list of rows -/
structure GridAt (H : Hp) (a : Addr) (ps : List Addr) (n h : Nat) (g : Nat → Nat → Int) : Prop where
  out : H a = some (.lst (ps.map V.ref))
  len : ps.length = n
  row : ∀ (i : Nat) (p : Addr), ps[i]? = some p → H p = some (.lst (rowV h (g i)))
theorem GridAt.same {H H' : Hp} {a : Addr} {ps : List Addr} {n h : Nat} {g : Nat → Nat → Int} (G : GridAt H a ps n h g) (s : Same H H') : GridAt H' a ps n h g := ⟨s _ _ G.out, G.len, fun i p e => s _ _ (G.row i p e)⟩
theorem GridAt.some {H : Hp} {a : Addr} {ps : List Addr} {n h : Nat} {g : Nat → Nat → Int} (G : GridAt H a ps n h g) {i : Nat} (hi : i < n) : ∃ p, ps[i]? = .some p ∧ H p = .some (.lst (rowV h (g i))) := by
  have hl : i < ps.length := by rw [G.len]; exact hi
  exact ⟨ps[i], List.getElem?_eq_getElem hl, G.row i _ (List.getElem?_eq_getElem hl)⟩
/-! ### comprehensions, by what is walked -/
structure Wk (J : It) (n : Nat) (H1 : Hp) (X : Nat → V → Hp → Prop) : Prop where
  go : ∀ i H, Same H1 H → i < n → J.go i H
  stop : ∀ H, Same H1 H → J.stop n H
  yld : ∀ i H x H', Same H1 H → i < n → J.yld i H x H' → Same H H' ∧ X i x H'
theorem Wk.range {lo : Int} {n : Nat} {H1 : Hp} : Wk (Itr lo n) n H1 fun i x _ => x = .int (lo + i) :=
  ⟨fun i H _ h => h, fun H _ => Nat.le_refl _, fun i H x H' _ _ y => by obtain ⟨rfl, rfl⟩ := y; exact ⟨Same.refl _, rfl⟩⟩
theorem Wk.list {K : PySem.W.Frag} {a : Addr} {xs : List V} {H1 : Hp} (h : SqL K H1 a xs) : Wk (Itl K a) xs.length H1 fun i x _ => xs[i]? = some x :=
  ⟨fun i H s hi => ⟨xs, xs[i], s.seq h, by simp [hi]⟩, fun H s => ⟨xs, s.seq h, Nat.le_refl _⟩, fun i H x H' s _ y => by
    obtain ⟨e, y⟩ := y
    subst e
    exact ⟨Same.refl _, y xs (s.seq h)⟩⟩
/-- new lists, one for each turn -/
structure FreshL (H1 H : Hp) (acc : Addr) (ps : List Addr) (n : Nat) (f : Nat → HO) : Prop where
  facc : H1 acc = none
  same : Same H1 H
  out : H acc = some (.lst (ps.map V.ref))
  len : ps.length = n
  nd : ps.Nodup
  nin : acc ∉ ps
  row : ∀ i p, ps[i]? = some p → H1 p = none ∧ H p = some (f i)
theorem FreshL.free {H1 H : Hp} {acc : Addr} {ps : List Addr} {n : Nat} {f : Nat → HO} (F : FreshL H1 H acc ps n f) {p : Addr} (h : p ∈ ps) : H1 p = none := by
  obtain ⟨i, hi⟩ := List.getElem?_of_mem h
  exact (F.row i p hi).1
theorem FreshL.some {H1 H : Hp} {acc : Addr} {ps : List Addr} {n : Nat} {f : Nat → HO} (F : FreshL H1 H acc ps n f) {i : Nat} (hi : i < n) : ∃ p, ps[i]? = .some p ∧ H p = .some (f i) := by
  have hl : i < ps.length := by rw [F.len]; exact hi
  exact ⟨ps[i], List.getElem?_eq_getElem hl, (F.row i _ (List.getElem?_eq_getElem hl)).2⟩
section
variable {K : PySem.W.Frag} {g : TG} {tt : TT} {te : TE} {σ0 : St} {H1 : Hp} {Q : VK} {J : It} {n : Nat} {X : Nat → V → Hp → Prop}
/-- each turn tells a new object -/
theorem comp_F (w : Wk J n H1 X) (hn : n < sizeLine) (f : Nat → HO) (Ps : Nat → St → Prop) (h0 : Ps 0 σ0)
    (turn : ∀ i x σ H (R : St → V → Hp → Prop) (S : St → Hp → Prop), i < n → Same H1 H → X i x H → Ps i σ → (∀ σ2 p H5, H p = none → Same H H5 → H5 p = some (f i) → Ps (i + 1) σ2 → R σ2 (.ref p) H5) → g x σ H fun σ2 H3 => tt σ2 H3 fun b H4 => br b (te σ2 H4 fun v H5 => R σ2 v H5) (S σ2 H4))
    (fin : ∀ acc ps H, FreshL H1 H acc ps n f → Q (.ref acc) H) : compW J g tt te σ0 H1 Q := by
  unfold compW
  intro acc H2 hf hs ha
  refine ⟨fun i m ys σ H => m = n - i ∧ i ≤ n ∧ ∃ ps : List Addr, ys = ps.map V.ref ∧ FreshL H1 H acc ps i f ∧ Ps i σ, ⟨n, by simp, Nat.zero_le _, [], rfl, ⟨hf, hs, ha, rfl, List.nodup_nil, by simp, fun i p e => by simp at e⟩, h0⟩, ?_⟩
  rintro i m ys σ H ⟨rfl, hi, ps, rfl, F, P⟩
  refine ⟨F.out, by rw [List.length_map, F.len]; omega, ?_⟩
  by_cases hlt : i < n
  · refine .inr ⟨w.go i H F.same hlt, fun x H' y => ?_⟩
    obtain ⟨s1, x1⟩ := w.yld i H x H' F.same hlt y
    refine turn i x σ H' (fun σ2 v H5 => cPut _ acc (ps.map V.ref) i (n - i) σ2 v H5) (fun σ2 H4 => cSkip _ (ps.map V.ref) i (n - i) σ2 H4) hlt (F.same.trans s1) x1 P ?_
    intro σ2 p H5 fp s5 hp P2
    have fp0 : H p = none := s1.free fp
    have s15 := s1.trans s5
    have na : p ≠ acc := Ne.symm (ne_of_none F.out fp0)
    unfold cPut
    refine ⟨s15 _ _ F.out, fun H6 c6 h6 => ⟨n - (i + 1), by omega, rfl, hlt, ps ++ [p], by rw [List.map_append]; rfl, ⟨F.facc, (F.same.trans s15).chg F.facc c6, by rw [List.map_append]; exact h6, by rw [List.length_append, F.len]; rfl, ?_, ?_, ?_⟩, P2⟩⟩
    · rw [List.nodup_append]
      refine ⟨F.nd, by simp, fun a ha b hb => ?_⟩
      have : b = p := by simpa using hb
      subst this
      obtain ⟨k, hk⟩ := List.getElem?_of_mem ha
      exact ne_of_none (F.row k a hk).2 fp0
    · intro hz
      rcases List.mem_append.mp hz with hz | hz
      · exact F.nin hz
      · exact na (by simpa using hz : acc = p).symm
    · intro k q e
      by_cases hk : k < ps.length
      · rw [List.getElem?_append_left hk] at e
        obtain ⟨z1, z2⟩ := F.row k q e
        exact ⟨z1, c6 _ _ (fun z => F.nin (z ▸ List.mem_of_getElem? e)) (s15 _ _ z2)⟩
      · rw [List.getElem?_append_right (by omega)] at e
        have hk2 : k - ps.length = 0 := by
          have := (List.getElem?_eq_some_iff.mp e).1
          simp at this; omega
        rw [hk2] at e
        have : p = q := by simpa using e
        subst this
        have : k = i := by have := F.len; omega
        subst this
        exact ⟨F.same.free fp0, c6 _ _ na hp⟩
  · have e : i = n := by omega
    subst e
    exact .inl ⟨w.stop H F.same, fin acc ps H F⟩
/-- each turn tells a value, or is left out -/
theorem comp_I (w : Wk J n H1 X) (hn : n < sizeLine) (f : Nat → V) (p : Nat → Bool) (Ps : Nat → St → Prop) (h0 : Ps 0 σ0)
    (turn : ∀ i x σ H (R : St → V → Hp → Prop) (S : St → Hp → Prop), i < n → Same H1 H → X i x H → Ps i σ → (p i = true → ∀ σ2 H5, Same H H5 → Ps (i + 1) σ2 → R σ2 (f i) H5) → (p i = false → ∀ σ2 H5, Same H H5 → Ps (i + 1) σ2 → S σ2 H5) →
      g x σ H fun σ2 H3 => tt σ2 H3 fun b H4 => br b (te σ2 H4 fun v H5 => R σ2 v H5) (S σ2 H4))
    (fin : ∀ acc H, H1 acc = none → Same H1 H → H acc = some (.lst (((List.range n).filter p).map f)) → Q (.ref acc) H) : compW J g tt te σ0 H1 Q := by
  unfold compW
  intro acc H2 hf hs ha
  refine ⟨fun i m ys σ H => m = n - i ∧ i ≤ n ∧ ys = ((List.range i).filter p).map f ∧ Same H1 H ∧ H acc = some (.lst ys) ∧ Ps i σ, ⟨n, by simp, Nat.zero_le _, rfl, hs, ha, h0⟩, ?_⟩
  rintro i m ys σ H ⟨rfl, hi, rfl, s, hy, P⟩
  have hlen : (((List.range i).filter p).map f).length ≤ i := by
    rw [List.length_map]
    have := List.length_filter_le p (List.range i)
    rwa [List.length_range] at this
  refine ⟨hy, by omega, ?_⟩
  by_cases hlt : i < n
  · refine .inr ⟨w.go i H s hlt, fun x H' y => ?_⟩
    obtain ⟨s1, x1⟩ := w.yld i H x H' s hlt y
    refine turn i x σ H' (fun σ2 v H5 => cPut _ acc _ i (n - i) σ2 v H5) (fun σ2 H4 => cSkip _ _ i (n - i) σ2 H4) hlt (s.trans s1) x1 P ?_ ?_
    · intro hp σ2 H5 s5 P2
      unfold cPut
      refine ⟨s5 _ _ (s1 _ _ hy), fun H6 c6 h6 => ⟨n - (i + 1), by omega, rfl, hlt, ?_, ((s.trans s1).trans s5).chg hf c6, h6, P2⟩⟩
      rw [List.range_succ, List.filter_append, List.map_append]
      congr 1
      simp [hp]
    · intro hp σ2 H5 s5 P2
      unfold cSkip
      refine ⟨n - (i + 1), by omega, rfl, hlt, ?_, (s.trans s1).trans s5, s5 _ _ (s1 _ _ hy), P2⟩
      rw [List.range_succ, List.filter_append, List.map_append]
      simp [hp]
  · have e : i = n := by omega
    subst e
    exact .inl ⟨w.stop H s, fin acc H hf s hy⟩
theorem filter_T (n : Nat) : (List.range n).filter (fun _ => true) = List.range n := by simp
end
/-! ### several objects may have changed -/
def ChgS (ps : List Addr) (H H' : Hp) : Prop := ∀ b o, b ∉ ps → H b = some o → H' b = some o
theorem ChgS.refl (ps : List Addr) (H : Hp) : ChgS ps H H := fun _ _ _ e => e
theorem ChgS.same {ps : List Addr} {H H1 H2 : Hp} (x : ChgS ps H H1) (y : Same H1 H2) : ChgS ps H H2 := fun b o h e => y b o (x b o h e)
/-! ### == of lists of ints; of lists of these -/
theorem EqR.intL {K : PySem.W.Frag} {H : Hp} {a b : Addr} {xs ys : List Int} (ha : SqL K H a (xs.map V.int)) (hb : SqL K H b (ys.map V.int)) : EqR K H 1 (.ref a) (.ref b) (decide (xs = ys)) := by
  by_cases hl : xs.length = ys.length
  · have h := EqR.lst (K := K) (H := H) (n := 0) (fun j => decide (xs[j]? = ys[j]?)) ha hb (by simpa using hl) (fun j x y hx hy => by
      rw [List.getElem?_map] at hx hy
      obtain ⟨i, e1, rfl⟩ := Option.map_eq_some_iff.mp hx
      obtain ⟨k, e2, rfl⟩ := Option.map_eq_some_iff.mp hy
      have e : eqV (.int i) (.int k) = decide (xs[j]? = ys[j]?) := by
        rw [e1, e2]
        by_cases z : i = k
        · subst z; simp [eqV]
        · simp [eqV, z]
      rw [← e]
      exact EqR.flat rfl rfl)
    have e : (List.range (xs.map V.int).length).all (fun j => decide (xs[j]? = ys[j]?)) = decide (xs = ys) := by
      rw [Bool.eq_iff_iff, List.all_eq_true, decide_eq_true_iff]
      constructor
      · intro q
        apply List.ext_getElem?
        intro j
        by_cases hj : j < xs.length
        · exact of_decide_eq_true (q j (List.mem_range.mpr (by simpa using hj)))
        · rw [List.getElem?_eq_none (by omega), List.getElem?_eq_none (by omega)]
      · rintro rfl j _
        exact decide_eq_true rfl
    rw [e] at h
    exact h
  · have : decide (xs = ys) = false := decide_eq_false fun e => hl (by rw [e])
    rw [this]
    exact EqR.lstN ha hb (by simpa using hl)
theorem all_true (n : Nat) : (List.range n).all (fun _ => true) = true := by simp
/-- two lists whose things are the same, one by one -/
theorem EqR.allT {K : PySem.W.Frag} {H : Hp} {a b : Addr} {xs ys : List V} {n : Nat} (ha : SqL K H a xs) (hb : SqL K H b ys) (hl : xs.length = ys.length) (h : ∀ (j : Nat) (x y : V), xs[j]? = some x → ys[j]? = some y → EqR K H n x y true) : EqR K H (n + 1) (.ref a) (.ref b) true := by
  have := EqR.lst (fun _ => true) ha hb hl h
  rwa [all_true] at this
end L2

set_option Elab.async false
set_option linter.all false
set_option maxRecDepth 100000
set_option maxHeartbeats 2000000
namespace L2
open PySem PySem.Spec PyProof.Rows
/-! ### range downwards -/
def Itd (hi : Int) (n : Nat) : It := ⟨fun i _ => i < n, fun i H x H' => H' = H ∧ x = .int (hi - i), fun i _ => n ≤ i⟩
section
variable {X : Cx} {tg : Expr}
@[irreducible] def rRangeD (i j : Int) (H : Hp) (R : It → Hp → Prop) : Prop := (-(2 ^ 62) ≤ i ∧ i < 2 ^ 62 ∧ -(2 ^ 62) ≤ j ∧ j < 2 ^ 62) ∧ R (Itd i (i - j).toNat) H
def qiRngD (ta : TA) : TI := fun σ H R => ta σ H fun vs H1 => match vs with
  | [.int i, .int j, .int (-1)] => rRangeD i j H1 R
  | _ => False
end
section
variable {K : PySem.W.Frag} {g : TG} {tb : TS} {D : Ends} {σ : St} {H : Hp} {R : It → Hp → Prop}
end
/-! ### methods of lists without arguments; extend -/
section
variable {X : Cx} {K : PySem.W.Frag}
def qBM0 (K : PySem.W.Frag) (r : Addr → List V → Hp → VK → Prop) (to : TE) : TE := fun σ H Q => to σ H fun x H1 => match x with
  | .ref p => rLstIs K p H1 (r p [] H1 Q)
  | _ => False
theorem peBM0 {o : Expr} {to : TE} {name : Str} {apos cpos : Pos} {id : String} {r : Addr → List V → Hp → VK → Prop} (slot : Slot "list" name id) (hty : typeOf (.builtin id) = pure (.type "method_descriptor")) (hm : MtA X id r) (ho : PE X o to)
    (hbase : attributeBase o name X.env (eval o X.env) = eval o X.env := by rfl) (hline : (apos.endLine == cpos.line) = true := by rfl) :
    PE X (.Call (.Attribute o name apos) [] [] cpos) (qBM0 X.K r to) := by
  intro pins s σ H Q I h
  refine wpAny_Call_method0_late hbase hline (thn (ho pins s σ H _ I h) fun v s1 ⟨x, H1, I1, r1, q1⟩ => ?_)
  dsimp only at q1
  split at q1
  · rename_i p
    unfold rLstIs at q1
    obtain ⟨hq, q1⟩ := q1
    obtain ⟨h1, h2⟩ := tyV_is (T := "list") I1 r1 (.inl ⟨rfl, hq⟩)
    cases r1
    exact ⟨"list", id, PySem.F.plainAttrs_list, slot, hty, h1, h2, Calls.callWith_builtin rfl (PySem.evalArgs_none (hm pins s1 σ H1 p [] [] Q I1 .nil q1))⟩
  · exact q1.elim
@[irreducible] def rRevA (p : Addr) (H : Hp) (Q : VK) : Prop := ∃ xs, H p = some (.lst xs) ∧ ∀ H', Chg p H H' → H' p = some (.lst xs.reverse) → Q .non H'
@[irreducible] def rClrA (p : Addr) (H : Hp) (Q : VK) : Prop := ∃ xs, H p = some (.lst xs) ∧ ∀ H', Chg p H H' → H' p = some (.lst []) → Q .non H'
@[irreducible] def rExtA (p b : Addr) (H : Hp) (Q : VK) : Prop := ∃ xs zs, H p = some (.lst xs) ∧ H b = some (.lst zs) ∧ xs.length + zs.length ≤ sizeLine ∧ ∀ H', Chg p H H' → H' p = some (.lst (xs ++ zs)) → Q .non H'
def rRevM : Addr → List V → Hp → VK → Prop := fun p vs H Q => match vs with
  | [] => rRevA p H Q
  | _ => False
def rClrM : Addr → List V → Hp → VK → Prop := fun p vs H Q => match vs with
  | [] => rClrA p H Q
  | _ => False
def rExtM : Addr → List V → Hp → VK → Prop := fun p vs H Q => match vs with
  | [.ref b] => rExtA p b H Q
  | _ => False
theorem mClear : MtA X "list.clear" rClrM := fun pins s σ H p xs us Q I r h => by
  unfold rClrM at h
  split at h
  · unfold rClrA at h
    obtain ⟨ys, h1, h2⟩ := h
    exact mt_clear pins s σ H (.ref p) [] (.ref p) us Q I rfl r ⟨p, ys, rfl, rfl, h1, h2 _ Chg.upd upd_same⟩
  · exact h.elim
theorem mExtend : MtA X "list.extend" rExtM := fun pins s σ H p xs us Q I r h => by
  unfold rExtM at h
  split at h
  · unfold rExtA at h
    obtain ⟨ys, zs, h1, h2, h3, h4⟩ := h
    exact mt_extend pins s σ H (.ref p) _ (.ref p) us Q I rfl r ⟨p, _, ys, zs, rfl, rfl, h1, h2, h3, h4 _ Chg.upd upd_same⟩
  · exact h.elim
theorem peM_clear {o : Expr} {to : TE} {apos cpos : Pos} (hK : X.K = K) (ho : PE X o to) (hbase : attributeBase o "clear" X.env (eval o X.env) = eval o X.env := by rfl) (hline : (apos.endLine == cpos.line) = true := by rfl) : PE X (.Call (.Attribute o "clear" apos) [] [] cpos) (qBM0 K rClrM to) := by
  subst hK
  exact peBM0 PySem.F.slot_list_clear PySem.F.type_list_clear mClear ho hbase hline
theorem peM_extend {o e : Expr} {to : TE} {t : TA} {apos cpos : Pos} (hK : X.K = K) (ho : PE X o to) (ha : PA X [e] t) (hbase : attributeBase o "extend" X.env (eval o X.env) = eval o X.env := by rfl)
    (hfew : ((backTo cpos (starEach [e] X.env)).all (fun x => !x.1) && (backToKw cpos (keywordEach [] X.env)).all (fun x => x.1.isSome)
      && decide ([e].length + ([] : List Keyword).length + (if ([] : List Keyword).isEmpty then 0 else 1) < 30)) = true := by rfl)
    (hline : (apos.endLine == cpos.line) = true := by rfl) (hs : starEach [e] X.env = (false, eval e X.env) :: starEach [] X.env := by rfl) (hplain : (backTo cpos (starEach [] X.env)).any (·.1) = false := by rfl) : PE X (.Call (.Attribute o "extend" apos) [e] [] cpos) (qBM K rExtM to t) := by
  subst hK
  exact peBM PySem.F.slot_list_extend PySem.F.type_list_extend mExtend ho ha hbase hfew hline hs hplain
theorem clr_rd {p : Addr} {H : Hp} {Q : VK} {xs : List V} (h : H p = some (.lst xs)) (q : ∀ H', Chg p H H' → H' p = some (.lst []) → Q .non H') : rClrA p H Q := by unfold rClrA; exact ⟨xs, h, q⟩
theorem ext_rd {p b : Addr} {H : Hp} {Q : VK} {xs zs : List V} (h : H p = some (.lst xs)) (h2 : H b = some (.lst zs)) (hz : xs.length + zs.length ≤ sizeLine) (q : ∀ H', Chg p H H' → H' p = some (.lst (xs ++ zs)) → Q .non H') : rExtA p b H Q := by unfold rExtA; exact ⟨xs, zs, h, h2, hz, q⟩
/-! ### xs[::-1] -/
/-! ### min of a list of ints -/
@[irreducible] def rMinL (K : PySem.W.Frag) (p : Addr) (H : Hp) (Q : VK) : Prop := ∃ ns : List Int, SqL K H p (ns.map V.int) ∧ 0 < ns.length ∧ ∀ M : Int, M ∈ ns → (∀ a ∈ ns, M ≤ a) → Q (.int M) H
def rMinM1 (K : PySem.W.Frag) : List V → Hp → VK → Prop := fun xs H Q => match xs with
  | [.ref p] => rMinL K p H Q
  | [.int i, .int j] => Q (.int (if j < i then j else i)) H
  | _ => False
theorem cMinK (hK : X.K = K) (hc : X.calm = true) : CallR X (.builtin "min") (rMinM1 K) := by
  subst hK
  intro pins s σ H xs us Q I r h
  unfold rMinM1 at h
  split at h
  · unfold rMinL at h
    obtain ⟨ns, h1, h2, h3⟩ := h
    obtain ⟨u, rfl, rx⟩ := vals1 r
    cases rx
    obtain ⟨its, r', pl, hz⟩ := I.list h1
    have hi := intsAre_of r'
    obtain ⟨ys, hx⟩ := hi.allInts.items
    have e1 : ns = ys.toList.map (·.1) := by
      rw [← nums_intItems, ← hx]
      exact (show numsOf its.toArray.toList = ns from hi.numsOf).symm
    have hs : 0 < ys.size := by
      have z : ns.length = ys.size := by
        conv => lhs; rw [e1]
        rw [List.length_map, Array.length_toList]
      omega
    have hl' : s.heap.IsList _ (intItems ys) := hx ▸ pl.isList
    refine min_intList (I.ok.hd hc) hl' hs fun v h' tk hv hk => ?_
    obtain ⟨t, rfl⟩ := intItems_at hv
    have best := argBest_lt (numAt ys) (ys.size - 1)
    refine ⟨.int _, H, I.kept hk, ⟨t, rfl⟩, h3 _ ?_ fun a ha => ?_⟩
    · rw [e1, numAt_eq]
      exact getD_mem (by rw [List.length_map, Array.length_toList]; omega)
    · rw [e1] at ha
      obtain ⟨j, hj, rfl⟩ := mem_getD ha
      rw [List.length_map, Array.length_toList] at hj
      rw [← numAt_eq]
      exact best.2 j (by omega)
  · exact call_min2 hc pins s σ H _ us Q I r ⟨_, _, rfl, h⟩
  · exact h.elim
theorem ptW {e : Expr} {t : TT} (h : PW X e t) : PT X e t := h.pt
end
end L2

set_option Elab.async false
set_option linter.all false
set_option maxRecDepth 100000
set_option maxHeartbeats 2000000
namespace L2
open PySem PySem.Spec PyProof.Rows
/-! ### an exception in flight, with its own dict: what notes a frame leaves it as it is but for its entry -/
/-- its record: no entry yet, or an entry that is in no frame's flight -/
def ExAt (B h : Heap) (e : Addr) (cls : Value) (dx : Option Addr) : Prop :=
  ∃ (oe : Obj) (vs : Array Value), h.get? e = some oe ∧ oe.cls = cls ∧ oe.dict = dx ∧ oe.data = .fields vs ∧ 1 < vs.size ∧
    (vs[1]? = some .none ∨ ∃ (T : Addr) (oT : Obj) (ts : Array Value), vs[1]? = some (.ref T) ∧ B.get? T = none ∧ T ≠ e ∧ h.get? T = some oT ∧ oT.data = .fields ts ∧ 3 < ts.size ∧ ts[3]? = some .none)
/-- nothing is gone -/
def Th (h h' : Heap) : Prop := ∀ b o, h.get? b = some o → ∃ o', h'.get? b = some o'
structure FlyX (B : Heap) (l : List Env) (e : Addr) (cls : Value) (dx : Option Addr) (h : Heap) : Prop where
  stays : B.StaysIn h
  new : B.get? e = none
  frames : h.FunFrames B l
  ex : ExAt B h e cls dx
section
variable {M : Model} {A : Around} {E : Value → Shared → Prop} {s : Shared} {B : Heap} {env : Env} {outer : List Env} {L e : Addr} {cls : Value} {dx : Option Addr} {Q : Unit → Shared → Prop}
theorem mapFields_parts (f : Array Value → Array Value) (o : Obj) : (Obj.mapFields f o).cls = o.cls ∧ (Obj.mapFields f o).dict = o.dict := by
  obtain ⟨c, d, dt, sl⟩ := o
  cases dt <;> exact ⟨rfl, rfl⟩
theorem entry_fly {head : Value} {hn : Bool} {oe : Obj} {vs : Array Value} (hfr : A.frames = some (env :: outer)) (hf : env.frame = some L) (f1 : B.StaysIn s.heap) (f2 : B.get? e = none) (f3 : s.heap.FunFrames B (env :: outer))
    (he : s.heap.get? e = some oe) (hc : oe.cls = cls) (hdx : oe.dict = dx) (hd : oe.data = .fields vs) (hsz : 1 < vs.size)
    (hQ : ∀ h', FlyX B (env :: outer) e cls dx h' → s.heap.UpToSlots h' → Th s.heap h' → Q () { s with heap := h' }) :
    wpAny M A (do let a ← frameOf env; let pl ← entryPlaceOf L hn; let b ← EntryCells.newEntry head a .none (rawInt L) .none pl; setField (.ref e) 1 b) (fun _ s1 => wpAny M A (setFlight (.ref e) none) Q E s1) E s := by
  have hene : e ∉ (env :: outer).filterMap (·.frame) := fun hm => by
    obtain ⟨_, o, ho, hnf⟩ := f3.mem hm
    rw [he] at ho
    cases ho
    exact hnf vs hd
  refine wpAny_bind (wpAny_frameOf_fun hfr f3 hf fun g hg => wpAny_bind (wpAny_entryPlaceOf fun pl hpl => ?_))
  refine wpAny_bind (wpAny_newObj_type ?_ (hpl.sizeOk5 _ _ _ _ _))
  have e1 : g.get? e = some oe := (hg.2.1 e hene).trans he
  have lt1 := Heap.lt_size e1
  generalize hO : ({ cls := .type "traceback", data := .fields ([head, .ref L, .none, rawInt L, .none] ++ (if pl.isEmpty then List.replicate 6 Value.none else pl)).toArray } : Obj) = O
  have hOd : O.data = .fields ([head, .ref L, .none, rawInt L, .none] ++ (if pl.isEmpty then List.replicate 6 Value.none else pl)).toArray := by rw [← hO]
  have hOz : 3 < ([head, .ref L, .none, rawInt L, .none] ++ (if pl.isEmpty then List.replicate 6 Value.none else pl)).toArray.size := by simp
  have hOf : O.isFreed = false := by rw [← hO]; rfl
  generalize ([head, .ref L, .none, rawInt L, .none] ++ (if pl.isEmpty then List.replicate 6 Value.none else pl)).toArray = ts at hOd hOz
  have e2 : (g.push O).get? e = some oe := Heap.get?_push_of_some _ e1
  have t2 : (g.push O).get? g.objs.size = some O := Heap.get?_push_size _ hOf
  have nT : g.objs.size ≠ e := Nat.ne_of_gt lt1
  refine wpAny_setField e2 hd hsz ?_
  have d3 := Obj.data_mapFields hd (fun a => a.setIfInBounds 1 (Value.ref g.objs.size))
  have e3 := Heap.get?_update_self (Obj.mapFields fun a => a.setIfInBounds 1 (Value.ref g.objs.size)) e2 (Obj.isFreed_of_fields d3)
  have t3 := (Heap.get?_update_other (g.push O) (Obj.mapFields fun a => a.setIfInBounds 1 (Value.ref g.objs.size)) (Ne.symm nT)).trans t2
  unfold setFlight
  refine wpAny_bind (wpAny_field e3 d3 (x := .ref g.objs.size) (by simp [hsz]) ?_)
  rw [if_pos (by simp)]
  refine wpAny_setField t3 hOd hOz (hQ _ ?_ ?_ ?_)
  · have kp : ∀ b o, b ≠ e → g.get? b = some o → (((g.push O).update e (Obj.mapFields fun a => a.setIfInBounds 1 (Value.ref g.objs.size))).update g.objs.size (Obj.mapFields fun a => a.setIfInBounds 3 Value.none)).get? b = some o := fun b o hb hz => by
      rw [Heap.get?_update_other _ _ (Nat.ne_of_gt (Heap.lt_size hz)), Heap.get?_update_other _ _ (Ne.symm hb)]
      exact Heap.get?_push_of_some _ hz
    have d4 := Obj.data_mapFields hOd (fun a => a.setIfInBounds 3 Value.none)
    have t4 := Heap.get?_update_self (Obj.mapFields fun a => a.setIfInBounds 3 Value.none) t3 (Obj.isFreed_of_fields d4)
    have e4 := (Heap.get?_update_other ((g.push O).update e (Obj.mapFields fun a => a.setIfInBounds 1 (Value.ref g.objs.size))) (Obj.mapFields fun a => a.setIfInBounds 3 Value.none) nT).trans e3
    have pf := mapFields_parts (fun a => a.setIfInBounds 1 (Value.ref g.objs.size)) oe
    refine ⟨fun b o hb => kp b o (fun z => by rw [z, f2] at hb; cases hb) ((hg.2.1 b fun hm => by rw [(f3.mem hm).1] at hb; cases hb).trans (f1 b o hb)), f2, f3.of_keeps fun b o hb hnf => ?_, _, _, e4, pf.1.trans hc, pf.2.trans hdx, d3, by simpa using hsz, .inr ⟨_, _, _, by simp [hsz], ?_, nT, t4, d4, by simpa using hOz, by simp [hOz]⟩⟩
    · obtain ⟨sl, hs⟩ := hg.2.2 b o hb
      refine ⟨_, kp b _ (fun z => ?_) hs, rfl⟩
      rw [z, he] at hb
      cases hb
      exact hnf vs hd
    · cases q : B.get? g.objs.size with
      | none => rfl
      | some o =>
        have z1 := f1 _ _ q
        have z2 := (hg.2.1 _ fun hm => by rw [(f3.mem hm).1] at q; cases q).trans z1
        exact absurd (Heap.lt_size z2) (Nat.lt_irrefl _)
  · intro b o hb hnf
    obtain ⟨sl, hs⟩ := hg.2.2 b o hb
    refine ⟨sl, ?_⟩
    rw [Heap.get?_update_other _ _ (Nat.ne_of_gt (Heap.lt_size hs)), Heap.get?_update_other _ _ (fun z => ?_)]
    · exact Heap.get?_push_of_some _ hs
    · rw [← z, he] at hb
      cases hb
      exact hnf vs hd
  · intro b o hb
    by_cases hbe : b = e
    · subst hbe
      exact ⟨_, (Heap.get?_update_other _ _ nT).trans e3⟩
    · obtain ⟨sl, hs⟩ := hg.2.2 b o hb
      refine ⟨{ o with slots := sl }, ?_⟩
      rw [Heap.get?_update_other _ _ (Nat.ne_of_gt (Heap.lt_size hs)), Heap.get?_update_other _ _ (Ne.symm hbe)]
      exact Heap.get?_push_of_some _ hs
theorem note_fly (hfr : A.frames = some (env :: outer)) (hf : env.frame = some L) (F : FlyX B (env :: outer) e cls dx s.heap)
    (hQ : ∀ h', FlyX B (env :: outer) e cls dx h' → s.heap.UpToSlots h' → Th s.heap h' → Q () { s with heap := h' }) : wpAny M A (noteFrame (.ref e) env) (fun _ s1 => wpAny M A (setFlight (.ref e) none) Q E s1) E s := by
  obtain ⟨f1, f2, f3, oe, vs, he, hc, hdx, hd, hsz, hT⟩ := F
  unfold noteFrame
  rw [hf]
  rcases hT with h1 | ⟨T, oT, ts, h1, bT, nT, gT, dT, zT, vT⟩
  · refine wpAny_bind (wpAny_field he hd h1 ?_)
    dsimp only
    rw [if_neg (by simp)]
    exact entry_fly hfr hf f1 f2 f3 he hc hdx hd hsz hQ
  · refine wpAny_bind (wpAny_field he hd h1 ?_)
    dsimp only
    rw [if_pos (by simp)]
    refine wpAny_bind (wpAny_field gT dT vT ?_)
    rw [if_neg (by simp [rawInt])]
    refine wpAny_bind (wpAny_setField gT dT zT ?_)
    have ne : ∀ b o, s.heap.get? b = some o → (∀ vs, o.data ≠ .fields vs) → b ≠ T := fun b o hb hnf z => by
      rw [z, gT] at hb
      cases hb
      exact hnf ts dT
    have kp : ∀ b o, b ≠ T → s.heap.get? b = some o → (s.heap.update T (Obj.mapFields fun a => a.setIfInBounds 3 Value.none)).get? b = some o := fun b o hb hz => by
      rw [Heap.get?_update_other _ _ (Ne.symm hb)]; exact hz
    refine entry_fly (s := { s with heap := s.heap.update T (Obj.mapFields fun a => a.setIfInBounds 3 Value.none) }) hfr hf (fun b o hb => kp b o (fun z => by rw [z, bT] at hb; cases hb) (f1 b o hb)) f2 (f3.of_keeps fun b o hb hnf => ⟨o, kp b o (ne b o hb hnf) hb, rfl⟩)
      (kp e oe (Ne.symm nT) he) hc hdx hd hsz fun h' F' U W => hQ h' F' (fun b o hb hnf => U b o (kp b o (ne b o hb hnf) hb) hnf) fun b o hb => ?_
    by_cases hbT : b = T
    · subst hbT
      exact W b _ (Heap.get?_update_self (Obj.mapFields fun a => a.setIfInBounds 3 Value.none) gT (Obj.isFreed_of_fields (Obj.data_mapFields dT _)))
    · exact W b o (kp b o hbT hb)
theorem set_fly (F : FlyX B outer e cls dx s.heap) (hQ : ∀ h', FlyX B outer e cls dx h' → s.heap.UpToSlots h' → Th s.heap h' → Q () { s with heap := h' }) : wpAny M A (setFlight (.ref e) none) Q E s := by
  obtain ⟨f1, f2, f3, oe, vs, he, hc, hdx, hd, hsz, hT⟩ := F
  unfold setFlight
  rcases hT with h1 | ⟨T, oT, ts, h1, bT, nT, gT, dT, zT, vT⟩
  · refine wpAny_bind (wpAny_field he hd h1 ?_)
    rw [if_neg (by simp)]
    exact wpAny_pure (hQ s.heap ⟨f1, f2, f3, oe, vs, he, hc, hdx, hd, hsz, .inl h1⟩ (Heap.UpToSlots.refl _) fun b o hb => ⟨o, hb⟩)
  · refine wpAny_bind (wpAny_field he hd h1 ?_)
    rw [if_pos (by simp)]
    refine wpAny_setField gT dT zT ?_
    have kp : ∀ b o, b ≠ T → s.heap.get? b = some o → (s.heap.update T (Obj.mapFields fun a => a.setIfInBounds 3 Value.none)).get? b = some o := fun b o hb hz => by
      rw [Heap.get?_update_other _ _ (Ne.symm hb)]; exact hz
    have ne : ∀ b o, s.heap.get? b = some o → (∀ vs, o.data ≠ .fields vs) → b ≠ T := fun b o hb hnf z => by
      rw [z, gT] at hb
      cases hb
      exact hnf ts dT
    have d4 := Obj.data_mapFields dT (fun a => a.setIfInBounds 3 Value.none)
    have t4 := Heap.get?_update_self (Obj.mapFields fun a => a.setIfInBounds 3 Value.none) gT (Obj.isFreed_of_fields d4)
    exact hQ _ ⟨fun b o hb => kp b o (fun z => by rw [z, bT] at hb; cases hb) (f1 b o hb), f2, f3.of_keeps fun b o hb hnf => ⟨o, kp b o (ne b o hb hnf) hb, rfl⟩, oe, vs, kp e oe (Ne.symm nT) he, hc, hdx, hd, hsz,
      .inr ⟨T, _, _, h1, bT, nT, t4, d4, by simpa using zT, by simp [zT]⟩⟩ (fun b o hb hnf => ⟨o.slots, kp b o (ne b o hb hnf) hb⟩) fun b o hb => (Classical.em (b = T)).elim (fun z => by subst z; exact ⟨_, t4⟩) fun z => ⟨o, kp b o z hb⟩
/-- leaving a frame -/
theorem leave_fly (hfr : A.frames = some (env :: outer)) (hf : env.frame = some L) (F : FlyX B (env :: outer) e cls dx s.heap)
    (hQ : ∀ h', FlyX B outer e cls dx h' → s.heap.UpToSlots h' → Th s.heap h' → Q () { s with heap := h' }) : wpAny M A (leaving env (.ref e)) Q E s := by
  unfold leaving
  exact wpAny_bind (note_fly hfr hf F fun h' F' U W => hQ h' ⟨F'.stays, F'.new, F'.frames.2.2, F'.ex⟩ U W)
end
/-! ### how an exception lies behind a call -/
/-- an exception flies in the body of X: the state as X has it, B all that stood when it was raised but the frames -/
structure FlyIn (X : Cx) (pins : List (Addr × Obj)) (σ : St) (H : Hp) (B : Heap) (e : Addr) (cls : Value) (dx : Option Addr) (s : Shared) : Prop where
  inv : Inv X pins σ H s
  hok : HOk X.prog X.w H B
  fly : FlyX B X.stack e cls dx s.heap
  kb : ∀ b o, X.s₀.heap.get? b = some o → X.H₀ b = none → b ∉ X.fs → b ∉ X.ex → B.get? b = some o
  en : ∀ o, X.s₀.heap.get? e = some o → e ∈ X.ex
def CXR (P : Program) (w : World) : CXT := fun outer H s E e s' => ∃ (ea : Addr) (cls : Value) (dx : Option Addr) (H' : Hp) (B : Heap), e = .ref ea ∧ s'.os = s.os ∧ AllBare s'.gens ∧ HOk P w H' B ∧ FlyX B outer ea cls dx s'.heap ∧
  Un (frs outer) [] H H' s.heap s'.heap ∧ (∀ b o, s.heap.get? b = some o → H b = none → b ∉ frs outer → B.get? b = some o) ∧ (∀ o, s.heap.get? ea ≠ some o) ∧ E cls dx H'
section
variable {X : Cx} {pins : List (Addr × Obj)} {σ : St} {H : Hp} {s s' : Shared}
theorem not_frame (I : Inv X pins σ H s) {b : Addr} {o : Obj} (e : X.s₀.heap.get? b = some o) (h : b ∉ X.fs) : b ∉ frs X.stack := fun hm => by
  rcases List.mem_cons.mp (I.stkSub b hm) with z | z
  · exact absurd (Nat.lt_of_lt_of_le (Heap.lt_size e) I.ok.above) (by rw [z]; exact Nat.lt_irrefl _)
  · exact h z
/-- raised here -/
theorem FlyIn.of_raise {e : Addr} {cls : Value} {args : List Value} {h' : Heap} {t' : Nat} (I : Inv X pins σ H s) (m : Heap.MadeExcOf s.heap h' e cls args) : FlyIn X pins σ H (PySem.W.hideAll s.heap (frs X.stack)) e cls none { s with heap := h', toks := t' } := by
  have nofr : ∀ b o, H b = some o → b ∉ frs X.stack := fun b o hb hm => by rw [I.stkFree b hm] at hb; cases hb
  refine ⟨I.kept m.keeps, fun a o ha => ?_, ⟨fun b o hb => m.keeps _ _ (PySem.W.of_hideAll _ hb), ?_, ?_, ?_⟩, fun b o e n h1 h2 => ?_, fun o hz => ?_⟩
  · refine (I.hok a o ha).stay (fun b u hb hu => PySem.W.hideAll_get _ hu ?_) (fun _ q => q) fun _ _ q => q
    rcases hb with rfl | hb
    · exact nofr _ _ ha
    · exact nofr _ _ hb
  · cases q : (PySem.W.hideAll s.heap (frs X.stack)).get? e with
    | none => rfl
    | some o =>
      have := PySem.W.of_hideAll _ q
      rw [m.new] at this
      cases this
  · refine Heap.FunFrames.of_keeps (fun b o hb _ => ⟨o, m.keeps b o hb, rfl⟩) (PySem.W.funFrames_hide I.stack fun env he a hf => ?_)
    exact List.mem_filterMap.mpr ⟨env, he, hf⟩
  · obtain ⟨t, h1, _, _⟩ := m.there
    exact ⟨_, _, h1, rfl, rfl, rfl, by simp, .inl rfl⟩
  · exact PySem.W.hideAll_get _ (I.base.keep b o e n h1 h2) (not_frame I e h1)
  · apply Classical.byContradiction
    intro hx
    obtain ⟨o', k⟩ := I.base.there _ o hz hx
    rw [m.new] at k
    cases k
/-- what is wanted of an exception that leaves this body -/
def XOut (X : Cx) (E : XK) : Prop := ∀ (pins : List (Addr × Obj)) (σ : St) (H : Hp) (B : Heap) (e : Addr) (cls : Value) (dx : Option Addr) (s : Shared), FlyIn X pins σ H B e cls dx s → E cls dx H → X.xe (.ref e) s
theorem passR0 {P : Program} {w : World} : Passes (CXR P w) X E0 := fun _ _ _ _ _ _ _ h => by
  obtain ⟨_, _, _, _, _, _, _, _, _, _, _, _, _, h⟩ := h
  exact (show False from h).elim
end
/-- a def's body: the exception leaves its frame -/
theorem xout {P : Program} {w : World} {K : PySem.W.Frag} {mg : Str → Option Value} {base : Heap} {N : List Str} {qual : Str} {scope : Scope} {f : Addr} {cd : Value} {A : Around} {outer : List Env} {s : Shared} {H : Hp} {E : XK} :
    XOut (cxOf (CXR P w) P w K mg base N qual scope f cd A outer s H E) E := fun pins σ H' B e cls dx s' F hE => by
  have I := F.inv
  refine leave_fly (outer := outer) I.ok.frames (rfl : (envOfC qual scope s.heap.objs.size f cd).frame = some s.heap.objs.size) F.fly fun h' F' U W => ?_
  have kb : ∀ b o, s.heap.get? b = some o → H b = none → b ∉ frs outer → B.get? b = some o := fun b o e n h1 => F.kb b o e n h1 (by exact List.not_mem_nil)
  refine ⟨e, cls, dx, H', B, rfl, I.os, I.bare, F.hok, F', ?_, kb, fun o z => absurd (F.en o z) (by exact List.not_mem_nil), hE⟩
  have un : Un (frs outer) [] H H' s.heap s'.heap := I.base
  refine ⟨fun b o e n h1 _ => F'.stays _ _ (kb b o e n h1), fun b o e n h1 h2 => ?_, un.free, fun b o e h2 => ?_, un.tups, un.frzs, un.tbls⟩
  · obtain ⟨sl, k⟩ := un.slot b o e n h1 h2
    obtain ⟨_, o2, ho2, hd⟩ := I.ok.funs.mem h1
    have : o2 = o := Option.some.inj (ho2.symm.trans e)
    subst this
    obtain ⟨sl', k'⟩ := U b _ k hd
    exact ⟨sl', k'⟩
  · obtain ⟨o', k⟩ := un.there b o e h2
    exact W b o' k
/-! ### raise C(..), C a class without __init__ -/
section
variable {X : Cx} {x : Str} {C : Addr} {bm : List Value} {B newId initId : String} {np cpos pos : Pos} {e₀ : Expr} {rest : List Expr} {t : TA} {E : XK}
def qRaise (C : Addr) (E : XK) (t : TA) : TS := fun _ σ H => t σ H fun vs H1 => vs.length ≤ sizeLine ∧ E (.ref C) none H1
theorem psRaise (O : OwnCls x C bm newId X.mg X.base) (FB : ExcBaseFacts B newId initId bm) (hc : X.calm = true) (hout : XOut X E) (ha : PA X (e₀ :: rest) t) (hg : Gl X x := by rfl) (hd : (x == ("__debug__" : Str)) = false := by decide)
    (he : starEach (e₀ :: rest) X.env = (false, eval e₀ X.env) :: starEach rest X.env := by rfl) (hpl : (backTo cpos (starEach rest X.env)).any (·.1) = false := by rfl) :
    PS X (.Raise (some (.Call (.Name x np) (e₀ :: rest) [] cpos)) none pos) (qRaise C E t) := by
  intro pins s σ H D I h
  obtain ⟨tl, N, nm, q, bs, hdct, sn, sub, ab, col, dd, k0, k1, k2, k3, k5, mN, hC, hN, hni, T⟩ := O.obj
  refine wpAny_Raise_call_subT (C := C) (nm := nm) (q := q) (N := N) (bs := bs) (bm := tl) (hdct := hdct) (sn := sn) (sub := sub) (ab := ab) (col := col) (dd := dd) (k0 := k0) (k1 := k1) (k2 := k2) (k3 := k3) (k5 := k5) FB (mN := mN)
    (T.hasType FB.hasBase) (I.ok.hd hc) (by rw [he]; show (false || (backTo cpos (starEach rest X.env)).any (·.1)) = false; rw [hpl]; rfl) hni (ld_glob I hg O.bound ⟨rfl, ?_⟩ hd)
  have hA := ha cpos pins s σ H _ I h
  rw [he] at hA ⊢
  refine Calls.evalArgs_plain (thn hA fun us s2 ⟨vs, H1, I1, r, hz, q⟩ => ⟨rfl, by rw [← r.length]; exact hz, I1.bk _ _ hC, hN.keeps I1.bk, T.keeps I1.bk, fun h' e m => ?_⟩)
  exact hout _ _ _ _ _ _ _ _ (FlyIn.of_raise (t' := s2.toks) I1 m) q
end
/-! ### a def that may raise -/
section
variable {P : Program} {w : World} {K : PySem.W.Frag} {mg : Str → Option Value} {base : Heap}
theorem Fun.okR {x qual : Str} {st : Stmt} {f : Addr} {fd : FuncData} {N ps : List Str} {k : Nat} {sp : Sp} (F : Fun K x qual st f fd) (S : FnScope N ps (defScope st)) (len : ∀ vs H Q E, sp vs H Q E → vs.length = ps.length)
    (hbody : ∀ (cdv : Value) (A : Around) (outer : List Env) (s : Shared) (H : Hp) (vs : List V) (Q : VK) (E : XK), Room k (A.deeper (envOfC qual (defScope st) s.heap.objs.size f cdv)) → XOut (cxOf (CXR P w) P w K mg base N qual (defScope st) f cdv A outer s H E) E → sp vs H Q E →
      ∃ t, PSs (cxOf (CXR P w) P w K mg base N qual (defScope st) f cdv A outer s H E) (defBody st) t ∧ t { nx := fun _ H' => Q .non H', rt := Q } (start N vs) H) : FnOk P w K mg base (CXR P w) (k + 1) f fd ps sp := by
  obtain ⟨oc, od, kV, doc, pm, an, cdv, ct, osl, rfl, lk, hcd⟩ := F.ex
  refine fn_of lk hcd S len fun A outer s H vs Q E hr hsp => ?_
  exact hbody cdv A outer s H vs Q E hr xout hsp
end
end L2

set_option Elab.async false
set_option linter.all false
set_option maxRecDepth 100000
set_option maxHeartbeats 4000000
namespace L2
open PySem PySem.Spec PyProof.Rows
/-! ### isinstance of a caught exception -/
/-- what the written part knows of an exception's class -/
structure ExcK (K : PySem.W.Frag) (D : Addr) : Prop where
  h1 : PySem.W.findIn K (.ref D) "__getattribute__" = some (some (.builtin "BaseException.__getattribute__"))
  h2 : PySem.W.findIn K (.ref D) "__getattr__" = some none
  h3 : PySem.W.findIn K (.ref D) "__class__" = some (some (.builtin "object.__class__"))
  h4 : PySem.W.subIn K (.ref D) (.type "BaseException") = some true
  h5 : PySem.W.mroIn K D (.type "object") = some true
/-- a caught exception -/
def ExcIs (e : Addr) (cls : Value) (dx : Option Addr) (h : Heap) : Prop := ∃ (oe : Obj) (vs : Array Value), h.get? e = some oe ∧ oe.cls = cls ∧ oe.dict = dx ∧ oe.data = .fields vs
section
open PySem.W PySem.Calls
theorem exc_class {prog : Program} {w : World} {A : Around} {E : Value → Shared → Prop} {K : Frag} {D e : Addr} {h : Heap} {g d t os} {Q : Option Value → Shared → Prop} (X : K.In h) (x : ExcIs e (.ref D) none h) (k : ExcK K D)
    (hq : Q (some (.ref D)) ⟨h, g, d, t + 1, os⟩) : wpAny (model prog w) A (getAttr? (.ref e) "__class__") Q E ⟨h, g, d, t, os⟩ := by
  obtain ⟨oe, vs, he, hc, hdx, hd⟩ := x
  obtain ⟨h1, h2, h3, h4, h5⟩ := k
  have L0 : Looks (model prog w) h (typeOf (.ref e)) (.ref D) := hc ▸ (Looks.ld he).andThen .now
  have L1 := looks_findIn (M := model prog w) X h1
  have L2 := looks_findIn (M := model prog w) X h2
  have L3 := looks_findIn (M := model prog w) X h3
  have hx : (onTheHeap (Value.ref D) && Value.builtin "BaseException.__getattribute__" == Value.builtin "object.__getattribute__") = false := by
    have z : (Value.builtin "BaseException.__getattribute__" == Value.builtin "object.__getattribute__") = false := by decide +kernel
    rw [z]; rfl
  have I : InstAt h e oe D none := ⟨he, hc, by unfold notCls; rw [hd], by rw [hdx]; trivial⟩
  have L4 : Looks (model prog w) h (isInstance (.ref e) (.type "BaseException")) true := L0.andThen (looks_subIn X h4)
  have FB := PySem.F.attrBase_ValueError
  have f3 := FB.ga.bind (.ref e)
  have kd : builtinKind "BaseException.__getattribute__" = some .slot := by decide +kernel
  have sid : splitId "BaseException.__getattribute__" = some ("BaseException", "__getattribute__") := by decide +kernel
  have aok := PySem.F.args_bexc_ga (.ref e) (.str "__class__" t)
  have f5 := KF.type_class
  have f6 := PySem.F.slot_gs_get.lookup
  have f7 := PySem.F.slot_gs_set.lookup
  unfold getAttr? getAttrBy? getAttrBy
  refine wpAny_bind (wpAny_mkText (wpAny_bind (wpAny_attempt (wpAny_holding (wpAny_bind (L0.at (wpAny_bind (L1.at ?_))))))))
  dsimp only
  rw [if_neg (by rw [hx]; decide)]
  unfold getAttrByItsOwn hookBefore
  repeat (any_goals (first | assumption | with_reducible refine L0.at ?_ | with_reducible refine L1.at ?_ | with_reducible refine L2.at ?_ | with_reducible refine L3.at ?_ | wp_step))
  refine codeAny_call_builtin FB.ga.plain PySem.F.entry_bexc_ga ?_
  simp only [checkBuiltinCall, kd, sid]
  refine wpAny_bind (L4.at ?_)
  repeat (any_goals (first | assumption | with_reducible refine L0.at ?_ | with_reducible refine L1.at ?_ | with_reducible refine L2.at ?_ | with_reducible refine L3.at ?_ | wp_step))
  refine class_get (ox := oe) (od := none) X I h5 ?_
  repeat (any_goals (first | assumption | wp_step))
theorem kitx_exc {K : Frag} {e D : Addr} (k : ExcK K D) (hcl : (clsIn K D).isSome = true) : KitX K (.ref e) (.ref D) (ExcIs e (.ref D) none) where
  ty := fun M h _ p => by
    obtain ⟨oe, vs, he, hc, _⟩ := p
    exact hc ▸ (Looks.ld he).andThen .now
  it := fun M h X p => by
    obtain ⟨cd, hcd⟩ := Option.isSome_iff_exists.mp hcl
    unfold clsIn at hcd
    split at hcd
    · rename_i ho
      intro A' Q' E' s' kk q
      unfold isType loadHead
      exact wpAny_bind (wpAny_loadPart (kk _ _ (X _ _ ho)) (wpAny_pure q))
    · cases hcd
  ne := fun h tp dd its n sl X htp => by
    refine Bool.eq_false_iff.mpr fun q => ?_
    have z : D = tp := Value.ref.inj (beq_iff_eq.mp q)
    subst z
    obtain ⟨cd, hcd⟩ := Option.isSome_iff_exists.mp hcl
    unfold clsIn at hcd
    split at hcd
    · rename_i ho
      cases (X _ _ ho).symm.trans htp
    · cases hcd
  ca := fun {prog w A E Q s} X p q => by
    obtain ⟨hh, g, d, t, os⟩ := s
    exact exc_class X p k q
end
/-! ### isinstance, of anything and of a caught exception -/
abbrev excO (ea : Addr) (cls : Value) (dx : Option Addr) : HO := .ext (ExcIs ea cls dx)
section
variable {X : Cx} {K : PySem.W.Frag} {H : Hp} {Q : VK}
@[irreducible] def rIsiX (K : PySem.W.Frag) (x c : V) (H : Hp) (Q : VK) : Prop := rIsiA K x c H Q ∨ ∃ (ea D : Addr) (b : Bool), x = .ref ea ∧ H ea = some (excO ea (.ref D) none) ∧ ExcK K D ∧ (PySem.W.clsIn K D).isSome = true ∧ (∀ cv, RelV c cv → PySem.W.kitOne K (.ref D) cv = some b) ∧ Q (.bl b) H
def rIsiMX (K : PySem.W.Frag) : List V → Hp → VK → Prop := fun xs H Q => match xs with
  | [x, c] => rIsiX K x c H Q
  | _ => False
theorem cIsiX (hK : X.K = K) : CallR X (.builtin "isinstance") (rIsiMX K) := by
  subst hK
  intro pins s σ H xs us Q I r h
  unfold rIsiMX at h
  split at h
  · unfold rIsiX at h
    rcases h with h | ⟨ea, D, b, rfl, h1, h2, h3, h4, h5⟩
    · exact cIsi pins s σ H _ us Q I r h
    · obtain ⟨u, w, rfl, r1, r2⟩ := vals2 r
      cases r1
      obtain ⟨p, _⟩ := I.hok ea _ h1
      exact PySem.W.kia_one (kitx_exc h2 h3) I.kIn p (h4 _ r2) (fun z => nomatch z) fun tk => ⟨.bl b, H, I.tok _, rfl, h5⟩
  · exact h.elim
theorem isiE_rd {ea D C : Addr} {b : Bool} (h1 : H ea = some (excO ea (.ref D) none)) (h2 : ExcK K D) (h3 : (PySem.W.clsIn K D).isSome = true) (e : PySem.W.kitOne K (.ref D) (.ref C) = some b) (q : Q (.bl b) H) : rIsiX K (.ref ea) (.ref C) H Q := by
  unfold rIsiX; exact .inr ⟨ea, D, b, rfl, h1, h2, h3, fun cv r => by cases r; exact e, q⟩
theorem isiET_rd {ea D : Addr} {n : String} {b : Bool} (h1 : H ea = some (excO ea (.ref D) none)) (h2 : ExcK K D) (h3 : (PySem.W.clsIn K D).isSome = true) (e : PySem.W.kitOne K (.ref D) (.type n) = some b) (q : Q (.bl b) H) : rIsiX K (.ref ea) (.ty n) H Q := by
  unfold rIsiX; exact .inr ⟨ea, D, b, rfl, h1, h2, h3, fun cv r => by cases r; exact e, q⟩
theorem bt_ValueError : bootBuiltins "ValueError" = some (.type "ValueError") := by decide +kernel
end
/-! ### try: f(..) except C as n: y = n -/
section
variable {X : Cx} {pins : List (Addr × Obj)} {σ : St} {H : Hp} {s : Shared}
/-- what lies behind an exception of a statement that has stored nothing ahead of it -/
def ExcP (X : Cx) (pins : List (Addr × Obj)) (σ : St) (EX : XK) (e : Value) (s' : Shared) : Prop := ∃ (H' : Hp) (B : Heap) (ea : Addr) (cls : Value) (dx : Option Addr), e = .ref ea ∧ FlyIn X pins σ H' B ea cls dx s' ∧ (∀ p ∈ X.pn ++ pins, B.get? p.1 = some p.2) ∧ EX cls dx H'
def PSX (X : Cx) (st : Stmt) (t : XK → TS) : Prop := ∀ (pins : List (Addr × Obj)) (s : Shared) (σ : St) (H : Hp) (D : Ends) (EX : XK), Inv X pins σ H s → t EX D σ H → wpAny (model X.prog X.w) X.A (exec st X.env) (SP X pins D) (ExcP X pins σ EX) s
def PSXs (X : Cx) (l : List Stmt) (t : XK → TS) : Prop := ∀ (pins : List (Addr × Obj)) (s : Shared) (σ : St) (H : Hp) (D : Ends) (EX : XK), Inv X pins σ H s → t EX D σ H → wpAny (model X.prog X.w) X.A (execs l X.env) (SP X pins D) (ExcP X pins σ EX) s
theorem excP_of {EX : XK} {e : Value} {s' : Shared} (I : Inv X pins σ H s) (h : CXR X.prog X.w X.stack H s EX e s') : ExcP X pins σ EX e s' := by
  obtain ⟨ea, cls, dx, H', B, rfl, os, bare, hok, fly, un, k, en, hE⟩ := h
  refine ⟨H', B, ea, cls, dx, rfl, ⟨I.call' os un (hok.kept fly.stays) bare (fun b hb => absurd hb (by simp)), hok, fly, fun b o e n h1 h2 => ?_, fun o e => ?_⟩, fun p hp => ?_, hE⟩
  · exact k b o (I.base.keep b o e n h1 h2) (I.base.free b o e n h2) (not_frame I e h1)
  · apply Classical.byContradiction
    intro hx
    obtain ⟨o', k'⟩ := I.base.there ea o e hx
    exact en o' k'
  · obtain ⟨q1, q2, q3, q4, _⟩ := I.pin p hp
    exact k _ _ q1 q2 fun hm => (List.mem_cons.mp (I.stkSub _ hm)).elim q3 q4
/-- the state moves on while the exception flies -/
theorem FlyIn.move {B : Heap} {e : Addr} {cls : Value} {dx : Option Addr} {h' : Heap} (F : FlyIn X pins σ H B e cls dx s) (hp : ∀ p ∈ X.pn ++ pins, B.get? p.1 = some p.2) (F' : FlyX B X.stack e cls dx h') (U : s.heap.UpToSlots h') (W : Th s.heap h') :
    FlyIn X pins σ H B e cls dx { s with heap := h' } := by
  have I := F.inv
  have cell : ∀ {c : Addr} {v : Option Value}, s.heap.IsCell c v → h'.IsCell c v := fun ⟨o, ho, hd⟩ => by
    obtain ⟨sl, z⟩ := U _ o ho fun vs q => by rw [hd] at q; cases q
    exact ⟨_, z, hd⟩
  refine ⟨⟨I.ok, I.os, I.bare, ⟨fun b o e n h1 h2 => F'.stays _ _ (F.kb b o e n h1 h2), fun b o e n h1 h2 => ?_, I.base.free, fun b o e h2 => ?_, I.base.tups, I.base.frzs, I.base.tbls⟩, ?_, fun x c hc => ?_, I.free, I.freeC, fun p hpp => ?_, F.hok.kept F'.stays, I.len⟩, F.hok, F', F.kb, F.en⟩
  · obtain ⟨sl, k⟩ := I.base.slot b o e n h1 h2
    obtain ⟨_, o2, ho2, hd⟩ := I.ok.funs.mem h1
    have : o2 = o := Option.some.inj (ho2.symm.trans e)
    subst this
    obtain ⟨sl', k'⟩ := U b _ k hd
    exact ⟨sl', k'⟩
  · obtain ⟨o', k⟩ := I.base.there b o e h2
    exact W b o' k
  · obtain ⟨m, hn, hl⟩ := I.loc
    refine ⟨m, U.ns hn, fun i x v h1 h2 h3 => ?_⟩
    obtain ⟨u, r, q⟩ := hl i x v h1 h2 h3
    refine ⟨u, r, ?_⟩
    rcases q with q | ⟨k, c, e, z⟩
    · exact .inl q
    · exact .inr ⟨k, c, e, cell z⟩
  · obtain ⟨v, z⟩ := I.cell x c hc
    exact ⟨v, cell z⟩
  · obtain ⟨_, q2, q3, q4, q5⟩ := I.pin p hpp
    exact ⟨F'.stays _ _ (hp p hpp), q2, q3, q4, q5⟩
/-- a call by itself, its exception kept -/
theorem callX {k j : Nat} {x : Str} {ps : List Str} {sp : Sp} {p pos : Pos} {e : Expr} {es : List Expr} {t : TA} (F : Def X.prog X.w X.K X.mg X.base (CXR X.prog X.w) k x ps sp) (hr : Room j X.A) (ha : PA X.nox (e :: es) t) (hk : k ≤ j := by decide) (hg : Gl X x := by rfl)
    (hdb : (x == ("__debug__" : Str)) = false := by decide) (he : starEach (e :: es) X.env = (false, eval e X.env) :: starEach es X.env := by rfl) (hpl : (backTo pos (starEach es X.env)).any (·.1) = false := by rfl)
    {Q : VK} {EX : XK} (I : Inv X pins σ H s) (h : t σ H fun vs H1 => sp vs H1 Q EX) : wpAny (model X.prog X.w) X.A (eval (.Call (.Name x p) (e :: es) [] pos) X.env) (EP X pins σ Q) (ExcP X pins σ EX) s := by
  obtain ⟨f, fd, F1, F2, F3, F4⟩ := F.ex
  refine wpAny_Call_Name_kw (ld_glob I hg F2 ?_ hdb)
  have hA := ha pos pins s σ H _ (I.wish _) h
  refine PySem.W.callWith_K (h₀ := X.base) I.ok.mod.kin F3 (wpAny_mono hA (fun us s1 h1 => ?_) fun _ _ z => z.elim) he hpl
  obtain ⟨vs, H1, I1, r, q⟩ := h1
  have I1 : Inv X pins σ H1 s1 := I1.unwish
  refine ⟨I1.kIn, ?_⟩
  have hl : us.length = ps.length := by rw [← r.length]; exact F1.len _ _ _ _ q
  have hb := F4 s1 us I1.kIn (by rw [List.append_nil]; exact hl)
  rw [List.append_nil] at hb
  refine wpAny_call (codeAny_mono (F1.run X.A X.stack s1 H1 ⟨us, []⟩ us vs Q EX (hr.mono hk) I1.env0 hb r q) fun r s' hq => ?_)
  cases r with
  | error e => exact excP_of I1 hq
  | ok fl =>
    cases fl with
    | ret u => exact I1.after hq
    | next => exact False.elim hq
    | brk => exact False.elim hq
    | cont => exact False.elim hq
def qxCall (sp : Sp) (t : TA) : XK → TS := fun EX D σ H => t σ H fun vs H1 => sp vs H1 (fun _ H2 => D.nx σ H2) EX
theorem psxCall {k j : Nat} {x : Str} {ps : List Str} {sp : Sp} {p pos spos : Pos} {e : Expr} {es : List Expr} {t : TA} (F : Def X.prog X.w X.K X.mg X.base (CXR X.prog X.w) k x ps sp) (hr : Room j X.A) (ha : PA X.nox (e :: es) t) (hk : k ≤ j := by decide) (hg : Gl X x := by rfl)
    (hdb : (x == ("__debug__" : Str)) = false := by decide) (he : starEach (e :: es) X.env = (false, eval e X.env) :: starEach es X.env := by rfl) (hpl : (backTo pos (starEach es X.env)).any (·.1) = false := by rfl)
    (hs : swapsWith (.Call (.Name x p) (e :: es) [] pos) none spos.line X.env = pure false := by rfl) : PSX X (.Expr (.Call (.Name x p) (e :: es) [] pos) spos) (qxCall sp t) := by
  intro pins s σ H D EX I h
  exact wpAny_Expr_any (wpAny_mono (callX F hr ha hk hg hdb he hpl I h) (fun v s1 ⟨x, H1, I1, r1, q1⟩ => ⟨σ, H1, I1, q1⟩) fun _ _ z => z) I.quiet hs
theorem psxOne {st : Stmt} {t : XK → TS} (h : PSX X st t) : PSXs X [st] t := by
  intro pins s σ H D EX I hq
  refine wpAny_execs_cons (wpAny_mono (h pins s σ H D EX I hq) (fun f s1 q => ?_) fun _ _ z => z)
  cases f with
  | next => exact wpAny_execs_nil q
  | brk => exact q
  | cont => exact q
  | ret u => exact q
/-! the exception is caught: it is tracked from here on -/
theorem ObjOk.ex {P : Program} {w : World} {H : Hp} {h : Heap} {a : Addr} {o : HO} (x : ObjOk P w H h a o) : ∃ u, h.get? a = some u := by
  cases o with
  | lst xs => obtain ⟨_, _, _, _, e⟩ := x; exact ⟨_, e⟩
  | tup xs => obtain ⟨_, _, _, ob, e, _⟩ := x; exact ⟨ob, e⟩
  | dK kvs => obtain ⟨_, _, _, _, ob, _, _, e, _⟩ := x; exact ⟨ob, e⟩
  | dT kvs => obtain ⟨_, _, _, _, ob, _, _, e, _⟩ := x; exact ⟨ob, e⟩
  | set S n => obtain ⟨ob, _, _, _, e, _⟩ := x; exact ⟨ob, e⟩
  | ins C dx fs => obtain ⟨_, _, _, e, _⟩ := x; exact ⟨_, e⟩
  | own y => exact x
  | xd fs => obtain ⟨_, ⟨ob, _, _, e, _⟩, _⟩ := x; exact ⟨ob, e⟩
  | rng lo hi => obtain ⟨_, _, _, e⟩ := x; exact ⟨_, e⟩
  | frz ob u => obtain ⟨e, _⟩ := x; exact ⟨_, e⟩
  | tbl ps => exact ⟨_, (show h.get? a = some _ from x)⟩
  | met f y => exact ⟨_, (show h.get? a = some _ from x)⟩
  | ext φ => obtain ⟨_, e, _⟩ := x; exact e
theorem FlyIn.track {B : Heap} {ea : Addr} {cls : Value} {dx : Option Addr} (F : FlyIn X pins σ H B ea cls dx s) (hp : ∀ p ∈ X.pn ++ pins, B.get? p.1 = some p.2) (hex : X.ex = []) :
    H ea = none ∧ Inv X pins σ (upd H ea (excO ea cls dx)) s := by
  have I := F.inv
  obtain ⟨oe, vs, he, hc, hdx, hd, _⟩ := F.fly.ex
  have hn : H ea = none := by
    cases q : H ea with
    | none => rfl
    | some o =>
      obtain ⟨u, z⟩ := ObjOk.ex (F.hok ea o q)
      rw [F.fly.new] at z
      cases z
  have nl : ∀ {b : Addr} {o : Obj}, s.heap.get? b = some o → (∀ vs, o.data ≠ .fields vs) → b ≠ ea := fun hb hnf z => by
    rw [z, he] at hb
    cases hb
    exact hnf vs hd
  have n0 : ∀ {b : Addr} {o : Obj}, X.s₀.heap.get? b = some o → b ≠ ea := fun hb z => by
    have := F.en _ (z ▸ hb)
    rw [hex] at this
    cases this
  refine ⟨hn, I.ok, I.os, I.bare, ⟨I.base.keep, I.base.slot, fun b o e n h1 => ?_, I.base.there, fun b xs q => ?_, fun b o u q => ?_, fun b ps q => ?_⟩, I.loc, I.cell, ?_, fun x c hcl => ?_, fun p hpp => ?_, fun b o q => ?_, I.len⟩
  · rw [upd_ne (n0 e)]; exact I.base.free b o e n h1
  · have z := I.base.tups b xs q
    rw [upd_ne (ne_of_none z hn)]; exact z
  · have z := I.base.frzs b o u q
    rw [upd_ne (ne_of_none z hn)]; exact z
  · obtain ⟨more, z⟩ := I.base.tbls b ps q
    exact ⟨more, by rw [upd_ne (ne_of_none z hn)]; exact z⟩
  · obtain ⟨m, ⟨o, es, ep, ho, hdd, _⟩, _⟩ := I.loc
    rw [upd_ne (nl ho fun vs q => by rw [hdd] at q; cases q)]; exact I.free
  · obtain ⟨v, o, ho, hdd⟩ := I.cell x c hcl
    rw [upd_ne (nl ho fun vs q => by rw [hdd] at q; cases q)]; exact I.freeC x c hcl
  · obtain ⟨q1, q2, q3, q4, q5⟩ := I.pin p hpp
    refine ⟨q1, ?_, q3, q4, q5⟩
    rw [upd_ne fun z => ?_]
    · exact q2
    · have := hp p hpp
      rw [z, F.fly.new] at this
      cases this
  · by_cases hb : b = ea
    · subst hb
      rw [upd_same] at q
      cases q
      refine ⟨⟨oe, vs, he, hc, hdx, hd⟩, ⟨oe, he⟩, fun h1 h2 x k => ?_⟩
      obtain ⟨o1, v1, e1, r⟩ := x
      exact ⟨o1, v1, k _ e1, r⟩
    · rw [upd_ne hb] at q
      refine (I.hok b o q).stay (fun _ _ _ z => z) (fun c z => ?_) fun c xs z => ?_
      · rw [upd_ne (ne_of_none z hn)]; exact z
      · rw [upd_ne (ne_of_none z hn)]; exact z
/-- a name is unbound -/
theorem unbind_ok {M : Model} {A : Around} {E : Value → Shared → Prop} {i : Nat} {n : Str} {v : V} {Q : Unit → Shared → Prop} (I : Inv X pins σ H s) (hN : X.N.Nodup) (hi : X.N[i]? = some n) (hl : X.env.kindOf n = some .local) (hv : σ[i]? = some (some v))
    (h : ∀ s', Inv X pins (σ.set i none) H s' → Q () s') : wpAny M A (unbindName X.env n) Q E s := by
  obtain ⟨m, hn, hlk⟩ := id I.loc
  have hcls : (X.env.scope.kind == .class || (X.env.scope.kind == .module && X.env.locals != X.env.globals)) = false := by rw [I.ok.kind]; rfl
  obtain ⟨u, _, q⟩ := hlk i n v hi hv (.inl hl)
  have hm : m n = some u := by
    rcases q with q | ⟨k, _⟩
    · exact q.2
    · rw [hl] at k
      rcases k with k | k <;> cases k
  refine wpAny_unbindName_local hl hn hm hcls fun h' u' hn' hs => h _ ?_
  obtain ⟨oL, _, _, hoL, _⟩ := id hn
  have below : ∀ {b : Addr} {o : Obj}, X.s₀.heap.get? b = some o → b ≠ X.env.locals := fun e => Nat.ne_of_lt (Nat.lt_of_lt_of_le (Heap.lt_size e) I.ok.above)
  refine ⟨I.ok, I.os, I.bare, ⟨fun b o e n hb hx => (hs.2 b (below e)).trans (I.base.keep b o e n hb hx), fun b o e n hb hx => ?_, I.base.free, fun b o e hx => ?_, I.base.tups, I.base.frzs, I.base.tbls⟩, ⟨_, hn', fun j y v' e1 e2 e3 => ?_⟩, fun y c e => ?_, I.free, I.freeC, fun p hp => ?_, fun b ob e => ?_, by rw [List.length_set]; exact I.len⟩
  · obtain ⟨sl, z⟩ := I.base.slot b o e n hb hx
    exact ⟨sl, (hs.2 b (below e)).trans z⟩
  · obtain ⟨o', z⟩ := I.base.there b o e hx
    exact ⟨o', (hs.2 b (below e)).trans z⟩
  · by_cases hj : j = i
    · subst hj
      rw [List.getElem?_set_self (by rw [I.len]; exact (List.getElem?_eq_some_iff.mp hi).1)] at e2
      cases e2
    · rw [List.getElem?_set_ne (Ne.symm hj)] at e2
      obtain ⟨w', r', q⟩ := hlk j y v' e1 e2 e3
      refine ⟨w', r', ?_⟩
      rcases q with ⟨k, z⟩ | ⟨k, c, z, zz⟩
      · refine .inl ⟨k, ?_⟩
        have : y ≠ n := fun z => hj (nodup_ix hN e1 (z ▸ hi))
        show (if y = n then u' else m y) = _
        rw [if_neg this]; exact z
      · exact .inr ⟨k, c, z, zz.sameBut hs (I.cne y c z)⟩
  · obtain ⟨w', z⟩ := I.cell y c e
    exact ⟨w', z.sameBut hs (I.cne y c e)⟩
  · obtain ⟨e, n, ne, nf, d⟩ := I.pin p hp
    exact ⟨(hs.2 p.1 ne).trans e, n, ne, nf, d⟩
  · refine (I.hok b ob e).stay (fun c w' hc q => (hs.2 c ?_).trans q) (fun _ q => q) fun _ _ q => q
    rintro rfl
    rcases hc with z | hc
    · rw [← z, I.free] at e; cases e
    · rw [I.free] at hc; cases hc
/-- within an except suite -/
def marked (X : Cx) (e : Value) : Cx := { X with A := X.A.mark (some e), calm := false, xe := fun _ _ => False }
theorem Inv.mark (I : Inv X pins σ H s) (e : Value) : Inv (marked X e) pins σ H s :=
  ⟨⟨I.ok.mod, I.ok.kind, I.ok.glob, I.ok.blt, I.ok.above, I.ok.inj, I.ok.has, I.ok.cab, (fun z => absurd (show false = true from z) Bool.false_ne_true), I.ok.frames, I.ok.stk, I.ok.exf, I.ok.bs, I.ok.bsz, I.ok.noex, I.ok.exfs, I.ok.funs, I.ok.frf⟩, I.os, I.bare, I.base, I.loc, I.cell, I.free, I.freeC, I.pin, I.hok, I.len⟩
theorem Inv.unmark {e : Value} (I0 : Inv X pins σ H s) {σ' : St} {H' : Hp} {s' : Shared} (I : Inv (marked X e) pins σ' H' s') : Inv X pins σ' H' s' :=
  ⟨I0.ok, I.os, I.bare, I.base, I.loc, I.cell, I.free, I.freeC, I.pin, I.hok, I.len⟩
@[irreducible] def xCatch (K : PySem.W.Frag) (CH : Addr) (D : Ends) (σ : St) (ke ky : Nat) (cls : Value) (dx : Option Addr) (H' : Hp) : Prop := PySem.W.exmOne K cls (.ref CH) = some true ∧
  ∀ ea H'', H' ea = none → Same H' H'' → H'' ea = some (excO ea cls dx) → D.nx ((σ.set ke none).set ky (some (.ref ea))) H''
def qTry (K : PySem.W.Frag) (CH : Addr) (t : XK → TS) (ke ky : Nat) : TS := fun D σ H => t (fun cls dx H' => xCatch K CH D σ ke ky cls dx H') D σ H
theorem psTry {K : PySem.W.Frag} {body : List Stmt} {t : XK → TS} {hx n y : Str} {CH : Addr} {ke ky : Nat} {np p1 p2 p3 hpos pos : Pos} (hK : X.K = K) (hN : X.N.Nodup) (hcl : X.mg hx = some (.ref CH)) (hb : PSXs X body t)
    (hke : X.N[ke]? = some n := by rfl) (hky : X.N[ky]? = some y := by rfl) (hkk : ke ≠ ky := by decide) (hln : X.env.kindOf n = some .local := by rfl) (hly : X.env.kindOf y = some .local := by rfl) (hgl : Gl X hx := by rfl) (hdb : (hx == ("__debug__" : Str)) = false := by decide)
    (hnd : (n == ("__debug__" : Str)) = false := by decide) (hnc : (n == ("__classdict__" : Str)) = false := by decide)
    (hstk : X.stack = X.env :: X.outer := by rfl) (hfr : X.env.frame = some X.env.locals := by rfl) (hex : X.ex = [] := by rfl) (hs : swapsWith (.Name n p2) (some (.Name y p1)) p3.line X.env = pure false := by rfl) :
    PS X (.Try body [.ExceptHandler (some (.Name hx np)) (some n) [.Assign [.Name y p1] (.Name n p2) p3] hpos] [] [] pos) (qTry K CH t ke ky) := by
  subst hK
  intro pins s σ H D I h
  rw [arm_exec_Try]
  refine wpAny_bind (wpAny_standAt (wpAny_tryStmt_except (wpAny_mono (hb pins s σ H D _ I h) (fun f s1 q => ?_) fun e s1 q => ?_)))
  · cases f with
    | next => exact wpAny_execs_nil q
    | brk => exact q
    | cont => exact q
    | ret u => exact q
  · obtain ⟨H1, B, ea, cls, dx, rfl, F, hp, q⟩ := q
    unfold xCatch at q
    obtain ⟨hm, q⟩ := q
    have I1 := F.inv
    refine note_fly (L := X.env.locals) (outer := X.outer) (by rw [← hstk]; exact I1.ok.frames) hfr (by rw [← hstk]; exact F.fly) fun h2 F2 U2 W2 => ?_
    rw [← hstk] at F2
    have F2 := F.move hp F2 U2 W2
    have I2 := F2.inv
    refine wpAny_handleBy_cons (codeAny_handlers_test ?_) (by intro z; cases z)
    refine ld_glob (X := marked X (.ref ea)) (I2.mark _) hgl hcl ?_ hdb
    have LT : PySem.W.Looks (model X.prog X.w) h2 (typeOf (.ref ea)) cls := by
      obtain ⟨oe, vs, he, hc, _⟩ := F2.fly.ex
      exact hc ▸ (PySem.W.Looks.ld he).andThen .now
    refine (PySem.W.exm_one I2.kIn LT hm).here ?_
    refine codeAny_handlers_suite_as ?_
    refine set_fly F2.fly fun h3 F3 U3 W3 => ?_
    have F3 := F2.move hp F3 U3 W3
    obtain ⟨hn, I3⟩ := F3.track hp hex
    have hlσ : ke < σ.length := by rw [I1.len]; exact (List.getElem?_eq_some_iff.mp hke).1
    refine store_ok I3 hN hke (.inl hln) (v := .ref ea) rfl (fun s4 I4 => ?_) (.inr hln)
    have pn : PS (marked X (.ref ea)) (.Assign [.Name y p1] (.Name n p2) p3) (tAsg (qV ke) (gName ky)) := ps_set (X := marked X (.ref ea)) hN hky (.inl hly) (pq (X := marked X (.ref ea)) ke hke (.inl hln) hnd hnc) hs (.inr hly)
    refine wpAny_mono (pss_one pn pins s4 _ _ { nx := fun σ' H' => σ' = (σ.set ke (some (.ref ea))).set ky (some (.ref ea)) ∧ H' = upd H1 ea (excO ea cls dx), rt := fun _ _ => False } (I4.mark (.ref ea)) ?_) (fun f s5 q5 => ?_) fun _ _ z => (show False from z).elim
    · show qV ke (σ.set ke (some (.ref ea))) _ _
      unfold qV
      rw [List.getElem?_set_self hlσ]
      exact ⟨rfl, rfl⟩
    · cases f with
      | next =>
        obtain ⟨σ5, H5, I5, rfl, rfl⟩ := q5
        have I5 := Inv.unmark I1 I5
        refine wpAny_bind (wpAny_bindName (store_ok I5 hN hke (.inl hln) (v := .non) rfl (fun s6 I6 => ?_) (.inr hln)))
        refine wpAny_onRaise (unbind_ok (v := .non) I6 hN hke hln (by rw [List.getElem?_set_self (by rw [List.length_set, List.length_set]; exact hlσ)]) fun s7 I7 => ?_)
        refine ⟨_, _, I7, ?_⟩
        rw [List.set_set, List.set_comm _ _ (Ne.symm hkk), List.set_set]
        exact q ea _ hn (Same.upd hn) upd_same
      | brk => obtain ⟨_, _, _, z⟩ := q5; exact False.elim z
      | cont => obtain ⟨_, _, _, z⟩ := q5; exact False.elim z
      | ret u => obtain ⟨_, _, _, _, _, z⟩ := q5; exact False.elim z
end
end L2

set_option Elab.async false
set_option linter.all false
set_option maxRecDepth 100000
set_option maxHeartbeats 4000000
namespace L2
open PySem PySem.Spec PyProof.Rows
/-! ### what the written part says of the classes -/
section
open PySem.W
theorem own_of_K {K : Frag} {h : Heap} {mg : Str → Option Value} {x : Str} {C : Addr} {bmB : List Value} {newId : String} (X : K.In h) (G : h.Ns mainGlobals mg) (e : nsIn K mainGlobals x = some (some (.ref C))) (q : excIn K C bmB newId = true) : OwnCls x C bmB newId mg h := by
  have bd := mg_of X G e
  unfold excIn at q
  split at q
  case h_2 => cases q
  rename_i dd cd sl ho
  split at q
  case h_2 => cases q
  rename_i C1 bm k0 k1 k2 k3 n k5 hm hs
  simp only [Bool.and_eq_true, beq_iff_eq, Bool.not_eq_true'] at q
  obtain ⟨⟨⟨⟨⟨q1, q2⟩, q3⟩, q4⟩, q5⟩, q6⟩ := q
  have z : sl = #[k0, k1, k2, k3, some (.builtin n), k5] := by
    cases sl with
    | mk l => rw [show l = [k0, k1, k2, k3, some (.builtin n), k5] from hs]
  cases cd with
  | mk nm bs mro ns qn hd sn sub ab col del =>
    have hm : mro = .ref C1 :: bm := hm
    have q3 : del = false := q3
    subst q1 q2 z hm q3
    exact ⟨bd, bm, ns, nm, qn, bs, hd, sn, sub, ab, col, dd, k0, k1, k2, k3, k5, _, X _ _ ho, .of_isNs (isNs_of_in X q5), nsMap_none_of_in X q5 q6, tail_of_in X q4⟩
theorem kitCls_ref {K : Frag} {t : Value} {C : Addr} {cd : ClassData} {b : Bool} (h1 : clsIn K C = some cd) (h2 : typeIn K (.ref C) = some (.type "type")) (h3 : subIn K t (.ref C) = some b) : kitCls K t (.ref C) = some b := by
  unfold kitCls
  dsimp only
  rw [h1, h2, if_pos (by simp)]
  exact h3
theorem kit_ref {K : Frag} {t : Value} {C : Addr} {cd : ClassData} {b : Bool} (h1 : clsIn K C = some cd) (h2 : typeIn K (.ref C) = some (.type "type")) (h3 : subIn K t (.ref C) = some b) (h4 : subIn K t t = some true) : kitOne K t (.ref C) = some b := by
  unfold kitOne
  split
  · rename_i z
    have z : t = .ref C := by simpa using z
    subst z
    rw [h3] at h4
    exact h4.symm
  · exact kitCls_ref h1 h2 h3
theorem kit_none {K : Frag} {C : Addr} {cd : ClassData} {b : Bool} (h1 : clsIn K C = some cd) (h2 : typeIn K (.ref C) = some (.type "type")) (h3 : subIn K (.type "NoneType") (.ref C) = some b) : kitOne K (.type "NoneType") (.ref C) = some b := by
  unfold kitOne
  rw [if_neg (by simp)]
  exact kitCls_ref h1 h2 h3
theorem kit_ValueError {K : Frag} {D : Addr} {b : Bool} (h : subIn K (.ref D) (.type "ValueError") = some b) : kitOne K (.ref D) (.type "ValueError") = some b := by
  unfold kitOne kitCls
  rw [if_neg (by simp)]
  dsimp only
  rw [if_pos (by decide +kernel)]
  exact h
theorem exm_ref {K : Frag} {t : Value} {C : Addr} {cd : ClassData} {b : Bool} (h0 : subIn K (.ref C) (.type "BaseException") = some true) (h1 : clsIn K C = some cd) (h2 : typeIn K (.ref C) = some (.type "type")) (h3 : subIn K t (.ref C) = some b) : exmOne K t (.ref C) = some b := by
  unfold exmOne
  rw [if_pos (by rw [h0]; simp)]
  exact kitCls_ref h1 h2 h3
end
theorem PS.nox' {X : Cx} {st : Stmt} {t : TS} (h : PS X.nox st t) : PS X st t := fun pins s σ H D I hw =>
  wpAny_mono (h pins s σ H D (I.wish _) hw) (fun f s' q => SP.unwish q) fun _ _ z => (show False from z).elim
/-- what a caught exception is -/
theorem catch_rd {K : PySem.W.Frag} {CH : Addr} {D : Ends} {σ : St} {ke ky : Nat} {cls : Value} {dx : Option Addr} {H' : Hp} (h1 : PySem.W.exmOne K cls (.ref CH) = some true) (h2 : ∀ ea H'', H' ea = none → Same H' H'' → H'' ea = some (excO ea cls dx) → D.nx ((σ.set ke none).set ky (some (.ref ea))) H'') : xCatch K CH D σ ke ky cls dx H' := by
  unfold xCatch; exact ⟨h1, h2⟩
abbrev bmV : List Value := [.type "ValueError", .type "Exception", .type "BaseException", .type "object"]
abbrev newV : String := "ValueError.__new__"
/-! ### list.index of flat things -/
section
variable {X : Cx} {K : PySem.W.Frag}
end
/-! ### the same words, closed: a row of literals alone would be run while its term is read -/
section
variable {X : Cx} {st : Stmt} {rest : List Stmt} {t u : TS} {e : Expr} {es : List Expr} {te : TE} {ta : TA}
@[irreducible] def PSsI (X : Cx) (st : List Stmt) (t : TS) : Prop := PSs X st t
@[irreducible] def PSI (X : Cx) (st : Stmt) (t : TS) : Prop := PS X st t
@[irreducible] def PEI (X : Cx) (e : Expr) (t : TE) : Prop := PE X e t
@[irreducible] def PAI (X : Cx) (es : List Expr) (t : TA) : Prop := PA X es t
theorem psOf (h : PS X st t) : PSI X st t := by unfold PSI; exact h
theorem pssTo {st : List Stmt} (h : PSsI X st t) : PSs X st t := by unfold PSsI at h; exact h
theorem pssI_cons (h1 : PSI X st t) (h2 : PSsI X rest u) : PSsI X (st :: rest) (tSeq t u) := by unfold PSsI PSI at *; exact pss_cons h1 h2
theorem pssI_one (h1 : PSI X st t) : PSsI X [st] t := by unfold PSsI PSI at *; exact pss_one h1
theorem psIS {i : Nat} {x : Str} {pos' pos : Pos} (hN : X.N.Nodup) (he : PEI X e te) (hi : X.N[i]? = some x := by rfl) (hx : Loc X.env.scope x := by first | exact Or.inl rfl | exact Or.inr rfl) (hs : swapsWith e (some (.Name x pos')) pos.line X.env = pure false := by rfl) (hf : X.fn x = true ∨ X.env.scope.names.lookup x = some .local := by first | exact .inl rfl | exact .inr rfl | assumption) :
    PSI X (.Assign [.Name x pos'] e pos) (tAsg te (gName i)) := by unfold PSI PEI at *; exact ps_set hN hi hx he hs hf
theorem peILst {pos : Pos} (h : PAI X es ta) : PEI X (.List es pos) (qLst ta) := by unfold PEI PAI at *; exact peLst h
theorem peI_str {x j pos} : PEI X (.Constant (.str x) j pos) (tC (.str x)) := by unfold PEI; exact pe_str
theorem paI_nil : PAI X [] tNil := by unfold PAI; exact pa_nil
theorem paI_cons (ha : PEI X e te) (hr : PAI X es ta) (hs : starEach (e :: es) X.env = (false, eval e X.env) :: starEach es X.env := by rfl) : PAI X (e :: es) (tCons te ta) := by unfold PEI PAI at *; exact pa_cons ha hr hs
end
end L2

set_option Elab.async false
set_option linter.all false
set_option maxRecDepth 100000
set_option maxHeartbeats 1000000
namespace L2
open PySem PySem.Spec PyProof.Rows
/-! ### sorted(e, reverse = True), of ints -/
section
variable {X : Cx} {K : PySem.W.Frag}
end
end L2

set_option Elab.async false
set_option linter.all false
set_option maxRecDepth 100000
set_option maxHeartbeats 2000000
namespace L2
open PySem PySem.Spec PyProof.Rows
/-! ### zip over two lists -/
def Itz (K : PySem.W.Frag) (a b : Addr) : It :=
  ⟨fun i H => ∃ xs ys x y, SqL K H a xs ∧ SqL K H b ys ∧ xs[i]? = some x ∧ ys[i]? = some y,
   fun i H v H' => ∃ p x y, v = .ref p ∧ H p = none ∧ Same H H' ∧ H' p = some (.tup [x, y]) ∧ (∀ xs, SqL K H a xs → xs[i]? = some x) ∧ ∀ ys, SqL K H b ys → ys[i]? = some y,
   fun i H => ∃ xs ys, SqL K H a xs ∧ SqL K H b ys ∧ (xs.length ≤ i ∨ ys.length ≤ i)⟩
theorem turn_zip {P : Program} {w : World} {K : PySem.W.Frag} {elts : List Expr} {k : Nat} {pos : Pos} (l1 l2 z TI TO i1 i2 : Addr) (D : ZipApart z TI TO i1 i2 l1 l2) :
    Turn P w K (.Tuple elts k pos) (Itz K l1 l2) [z, TI, TO, i1, i2] z (fun i h => IsZip h z TI TO .none ∧ IsPair h TI (.ref i1) (.ref i2) ∧ (∃ a b, IsPair h TO a b) ∧ h.IsListIter i1 l1 i ∧ h.IsListIter i2 l2 i) where
  mem := by simp
  obj := fun i h st b hb => by
    obtain ⟨hz, hTI, ⟨a, b', hTO⟩, ⟨o1, e1, c1, d1⟩, ⟨o2, e2, c2, d2⟩⟩ := st
    simp only [List.mem_cons, List.not_mem_nil, or_false] at hb
    rcases hb with rfl | rfl | rfl | rfl | rfl
    · exact ⟨_, hz, fun v z => by cases z⟩
    · exact ⟨_, hTI, fun v z => by cases z⟩
    · exact ⟨_, hTO, fun v z => by cases z⟩
    · exact ⟨o1, e1, fun v z => by rw [d1] at z; cases z⟩
    · exact ⟨o2, e2, fun v z => by rw [d2] at z; cases z⟩
  keep := fun i h h' st kp => by
    obtain ⟨hz, hTI, ⟨a, b', hTO⟩, h1, h2⟩ := st
    exact ⟨kp z (by simp) _ hz, kp TI (by simp) _ hTI, ⟨a, b', kp TO (by simp) _ hTO⟩, h1.at fun o x => kp i1 (by simp) o x, h2.at fun o x => kp i2 (by simp) o x⟩
  item := by
    intro X hP hw hK hc i pins s σ H E I hf st hg
    subst hP hw hK
    obtain ⟨hz, hTI, ⟨a0, b0, hTO⟩, h1, h2⟩ := st
    obtain ⟨xs, ys, x, y, hq1, hq2, hx, hy⟩ := hg
    obtain ⟨its1, rv1, p1, _⟩ := I.list hq1
    obtain ⟨its2, rv2, p2, _⟩ := I.list hq2
    obtain ⟨u, hu, ru⟩ := rv1.get hx
    obtain ⟨v, hv, rv⟩ := rv2.get hy
    have hzl : z < s.heap.objs.size := Heap.lt_size hz
    refine wpAny_pyNext_zip_item D hz hTI hTO h1 h2 p1.isList p2.isList (x := u) (y := v) (by simpa using hu) (by simpa using hv) fun h3 z3 TO3 j1 j2 T3 sz3 kp3 => ?_
    refine ⟨_, rfl, wpAny_letOwnedTupleGo_zip z3 fun h4 z4 hs4 => ?_⟩
    replace hs4 : Heap.SameBut z h3 h4 := hs4
    have kp : ∀ b o, b ∉ [z, TI, TO, i1, i2] → s.heap.get? b = some o → h4.get? b = some o := fun b o hb x => by
      simp only [List.mem_cons, List.not_mem_nil, or_false, not_or] at hb
      obtain ⟨b1, b2, b3, b4, b5⟩ := hb
      exact (hs4.2 b b1).trans (kp3 b o b1 b3 b4 b5 x)
    have ht4 : h4.get? s.heap.objs.size = some { cls := .type "tuple", data := .seq #[u, v] } := (hs4.2 _ (Nat.ne_of_gt hzl)).trans T3
    have hfr : H s.heap.objs.size = none := I.fresh
    have nof : ∀ b v, H b = some v → b ∉ [z, TI, TO, i1, i2] := fun b v hb m => by
      have := (hf b m).1
      rw [this] at hb
      cases hb
    have nlt : ∀ b o, s.heap.get? b = some o → b ≠ s.heap.objs.size := fun b o x => Nat.ne_of_lt (Heap.lt_size x)
    have hok : HOk X.prog X.w (upd H s.heap.objs.size (.tup [x, y])) h4 := fun b v' hb => by
      by_cases e1 : b = s.heap.objs.size
      · subst e1
        rw [upd_same] at hb
        cases hb
        exact ⟨by show 2 ≤ sizeLine; decide, [u, v], .cons ru (.cons rv .nil), ⟨_, ht4, rfl, _, rfl⟩⟩
      · rw [upd_ne e1] at hb
        refine (I.hok b v' hb).stay (fun c w' hc q => ?_) (fun c q => ?_) (fun c ys q => ?_)
        · rcases hc with rfl | hc
          · exact kp _ _ (nof _ _ hb) q
          · exact kp _ _ (nof _ _ hc) q
        · rw [upd_ne (ne_of_none q hfr)]; exact q
        · rw [upd_ne (ne_of_none q hfr)]; exact q
    have chs : ∀ b ∈ [z, TI, TO, i1, i2], (b ∈ X.ex ∨ X.s₀.heap.objs.size ≤ b) ∧ b ≠ X.env.locals ∧ (∀ x c, X.env.cells.lookup x = some c → c ≠ b) ∧ ∀ p ∈ X.pn ++ pins, p.1 ≠ b := fun b hb => by
      obtain ⟨f0, f1, f2, f3, f4, f5⟩ := hf b hb
      exact ⟨f3, f1, f4, f5⟩
    have I2 : Inv X pins σ (upd H s.heap.objs.size (.tup [x, y])) { s with heap := h4 } :=
      I.step (g' := s.gens) (d' := s.drawn) (t' := s.toks) (ch := [z, TI, TO, i1, i2]) chs (fun b o _ _ hb x _ => kp b o hb x) (fun b o _ _ hb x _ => ⟨o.slots, kp b o hb x⟩)
        (fun b o _ x n => by rw [upd_ne (nlt b o x)]; exact n) (fun b o hb x => ⟨o, kp b o hb x⟩) (fun b ys q => by rw [upd_ne (ne_of_none q hfr)]; exact q) (fun b o v q => by rw [upd_ne (ne_of_none q hfr)]; exact q)
        (fun b ps q => ⟨#[], by rw [upd_ne (ne_of_none q hfr), q]; simp⟩)
        (fun m hm => by
          obtain ⟨o, es, ep, ho, r⟩ := hm
          exact ⟨o, es, ep, kp _ o (fun m => (chs _ m).2.1 rfl) ho, r⟩) hok I.bare
    refine ⟨.ref s.heap.objs.size, _, I2, rfl, ⟨_, x, y, rfl, hfr, Same.upd hfr, upd_same, fun ys hy' => by rw [I.list_inj hy' hq1]; exact hx, fun ys hy' => by rw [I.list_inj hy' hq2]; exact hy⟩, ⟨z4, ?_, ⟨u, v, ?_⟩, ?_, ?_⟩, fun b hb => ?_⟩
    · exact (hs4.2 _ D.TIz).trans (kp3 _ _ D.TIz D.TITO D.TIi1 D.TIi2 hTI)
    · exact (hs4.2 _ D.TOz).trans TO3
    · exact j1.extBut hs4.extBut D.i1z
    · exact j2.extBut hs4.extBut D.i2z
    · have hb0 : H b = none := (hf b hb).1
      have hlt : b ≠ s.heap.objs.size := by
        simp only [List.mem_cons, List.not_mem_nil, or_false] at hb
        rcases hb with rfl | rfl | rfl | rfl | rfl
        · exact nlt _ _ hz
        · exact nlt _ _ hTI
        · exact nlt _ _ hTO
        · obtain ⟨o, ho, _⟩ := h1; exact nlt _ _ ho
        · obtain ⟨o, ho, _⟩ := h2; exact nlt _ _ ho
      rw [upd_ne hlt]; exact hb0
  done := by
    intro X hP hw hK hc i pins s σ H E I hf st hg
    subst hP hw hK
    obtain ⟨hz, hTI, ⟨a0, b0, hTO⟩, h1, h2⟩ := st
    obtain ⟨xs, ys, hq1, hq2, hx⟩ := hg
    obtain ⟨its1, rv1, p1, _⟩ := I.list hq1
    obtain ⟨its2, rv2, p2, _⟩ := I.list hq2
    have hl1 := rv1.length
    have hl2 := rv2.length
    have nof : ∀ b v, H b = some v → b ∉ [z, TI, TO, i1, i2] := fun b v hb m => by
      have := (hf b m).1
      rw [this] at hb
      cases hb
    have chs : ∀ b ∈ [z, TI, TO, i1, i2], (b ∈ X.ex ∨ X.s₀.heap.objs.size ≤ b) ∧ b ≠ X.env.locals ∧ (∀ x c, X.env.cells.lookup x = some c → c ≠ b) ∧ ∀ p ∈ X.pn ++ pins, p.1 ≠ b := fun b hb => by
      obtain ⟨f0, f1, f2, f3, f4, f5⟩ := hf b hb
      exact ⟨f3, f1, f4, f5⟩
    refine wpAny_pyNext_zip_end (I.ok.hd hc) D hz hTI hTO h1 h2 p1.isList p2.isList ?_ fun h' kp3 => ⟨rfl, ?_⟩
    · rcases hx with hx | hx
      · exact .inl (by simp; omega)
      · exact .inr (by simp; omega)
    · have kp : ∀ b o, b ∉ [z, TI, TO, i1, i2] → s.heap.get? b = some o → h'.get? b = some o := fun b o hb x => by
        simp only [List.mem_cons, List.not_mem_nil, or_false, not_or] at hb
        obtain ⟨b1, b2, b3, b4, b5⟩ := hb
        exact kp3 b o b1 b3 b4 b5 x
      have hok : HOk X.prog X.w H h' := fun b v' hb => by
        refine (I.hok b v' hb).stay (fun c w' hc q => ?_) (fun c q => q) (fun c ys q => q)
        rcases hc with rfl | hc
        · exact kp _ _ (nof _ _ hb) q
        · exact kp _ _ (nof _ _ hc) q
      exact I.step (g' := s.gens) (d' := s.drawn) (t' := s.toks) (ch := [z, TI, TO, i1, i2]) chs (fun b o _ _ hb x _ => kp b o hb x) (fun b o _ _ hb x _ => ⟨o.slots, kp b o hb x⟩)
        (fun b o _ x n => n) (fun b o hb x => ⟨o, kp b o hb x⟩) (fun b ys q => q) (fun b o v q => q)
        (fun b ps q => ⟨#[], by rw [q]; simp⟩)
        (fun m hm => by
          obtain ⟨o, es, ep, ho, r⟩ := hm
          exact ⟨o, es, ep, kp _ o (fun m => (chs _ m).2.1 rfl) ho, r⟩) hok I.bare
  self := fun _ _ _ _ _ st h => wpAny_pyIter_zip st.1 h
section
variable {X : Cx} {K : PySem.W.Frag}
theorem bt_zip : bootBuiltins "zip" = some (.type "zip") := by decide +kernel
@[irreducible] def rZip (K : PySem.W.Frag) (a b : Addr) (H : Hp) (R : It → Hp → Prop) : Prop := (∃ xs, SqL K H a xs) ∧ (∃ ys, SqL K H b ys) ∧ R (Itz K a b) H
def qiZip (K : PySem.W.Frag) (ta : TA) : TI := fun σ H R => ta σ H fun vs H1 => match vs with
  | [.ref a, .ref b] => rZip K a b H1 R
  | _ => False
theorem piZipK {elts : List Expr} {k : Nat} {pt : Pos} {a b : Expr} {ta : TA} {p pos : Pos} (hK : X.K = K) (hm : X.mg "zip" = none) (ha : PA X [a, b] ta) (hg : Gl X "zip" := by rfl) (hs : starEach [a, b] X.env = (false, eval a X.env) :: starEach [b] X.env := by rfl)
    (hpl : (backTo pos (starEach [b] X.env)).any (·.1) = false := by rfl) :
    PI X (.Tuple elts k pt) (.Call (.Name "zip" p) [a, b] [] pos) (qiZip K ta) := by
  subst hK
  intro pins s σ H R I h
  refine Call_ (ld_blt I hg hm bt_zip (PyProof.Rows.callWith_type1 (thn (ha pos pins s σ H _ I h) fun us s1 ⟨vs, H1, I1, r1, q1⟩ => ?_) hs hpl))
  dsimp only at q1
  split at q1
  · rename_i l m
    unfold rZip at q1
    obtain ⟨⟨xs, hq1⟩, ⟨ys, hq2⟩, q⟩ := q1
    obtain ⟨u1, u2, rfl, rx, ry⟩ := vals2 r1
    cases rx
    cases ry
    obtain ⟨its1, rv1, p1, _⟩ := I1.list hq1
    obtain ⟨its2, rv2, p2, _⟩ := I1.list hq2
    have l1 : @LT.lt Nat _ l s1.heap.objs.size := by obtain ⟨o, ho, _⟩ := p1.isList; exact Heap.lt_size ho
    have l2 : @LT.lt Nat _ m s1.heap.objs.size := by obtain ⟨o, ho, _⟩ := p2.isList; exact Heap.lt_size ho
    refine call_zip_2 p1.isList p2.isList fun h' hz hTI hTO j1 j2 hsz hk => ?_
    refine wpAny_pyIter_zip hz ?_
    have I2 : Inv X pins σ H1 { s1 with heap := h' } := I1.kept (t' := s1.toks) hk
    have D : ZipApart (s1.heap.objs.size + 4) (s1.heap.objs.size + 2) (s1.heap.objs.size + 3) s1.heap.objs.size (s1.heap.objs.size + 1) l m := by
      constructor <;> (intro z; have z : (_ : Nat) = _ := z; omega)
    refine ⟨_, _, _, Itz X.K l m, H1, rfl, I2, turn_zip l m _ _ _ _ _ D, ⟨hz, hTI, ⟨_, _, hTO⟩, j1, j2⟩, fun b hb => ?_, q⟩
    have hb' : s1.heap.objs.size ≤ b := by
      simp only [List.mem_cons, List.not_mem_nil, or_false] at hb
      rcases hb with rfl | rfl | rfl | rfl | rfl
      · exact Nat.le_add_right _ _
      · exact Nat.le_add_right _ _
      · exact Nat.le_add_right _ _
      · exact Nat.le_refl _
      · exact Nat.le_add_right _ _
    exact I1.fpOk hb' (I1.hok.fresh hb')
  · exact q1.elim
end
section
variable {K : PySem.W.Frag} {g : TG} {tb : TS} {D : Ends} {σ : St} {H : Hp} {R : It → Hp → Prop}
theorem zip_rd {a b : Addr} {xs ys : List V} (h : SqL K H a xs) (h' : SqL K H b ys) (q : R (Itz K a b) H) : rZip K a b H R := by unfold rZip; exact ⟨⟨xs, h⟩, ⟨ys, h'⟩, q⟩
theorem Wk.zip {a b : Addr} {xs ys : List V} {n : Nat} {H1 : Hp} (h : SqL K H1 a xs) (h' : SqL K H1 b ys) (hx : xs.length = n) (hy : ys.length = n) : Wk (Itz K a b) n H1 fun i v H => ∃ p x y, v = .ref p ∧ H p = some (.tup [x, y]) ∧ xs[i]? = some x ∧ ys[i]? = some y :=
  ⟨fun i H s hi => ⟨xs, ys, xs[i], ys[i], s.seq h, s.seq h', by simp, by simp⟩, fun H s => ⟨xs, ys, s.seq h, s.seq h', .inl (Nat.le_of_eq hx)⟩, fun i H v H' s _ y => by
    obtain ⟨p, x, y, rfl, y1, y2, y3, y4, y5⟩ := y
    exact ⟨y2, p, x, y, rfl, y3, y4 xs (s.seq h), y5 ys (s.seq h')⟩⟩
theorem loop_zip {a b : Addr} {xs ys : List V} (n : Nat) (hx : xs.length = n) (hy : ys.length = n) (Pv : Nat → St → Hp → Prop) (h0 : Pv 0 σ H) (hl : ∀ i σ H, i ≤ n → Pv i σ H → SqL K H a xs ∧ SqL K H b ys)
    (hs : ∀ i x y σ H p H', xs[i]? = some x → ys[i]? = some y → Pv i σ H → H p = none → Same H H' → H' p = some (.tup [x, y]) → g (.ref p) σ H' fun σ2 H2 => tb { D with nx := Pv (i + 1), ct := Pv (i + 1), bk := D.nx } σ2 H2) (hd : ∀ σ H, Pv n σ H → D.nx σ H) : loopW (Itz K a b) g tb D σ H := by
  unfold loopW
  refine ⟨fun i m σ H => m = n - i ∧ i ≤ n ∧ Pv i σ H, ⟨n, by simp, Nat.zero_le _, h0⟩, ?_⟩
  rintro i m σ H ⟨rfl, hi, p⟩
  obtain ⟨q1, q2⟩ := hl i σ H hi p
  by_cases hlt : i < n
  · refine .inr ⟨⟨xs, ys, xs[i], ys[i], q1, q2, by simp, by simp⟩, Pv (i + 1), fun σ' H' p' => ⟨n - (i + 1), by omega, rfl, hlt, p'⟩, fun x H' y => ?_⟩
    obtain ⟨pp, x1, y1, rfl, w1, w2, w3, w4, w5⟩ := y
    exact hs i x1 y1 σ H pp H' (w4 xs q1) (w5 ys q2) p w1 w2 w3
  · have e : i = n := by omega
    subst e
    exact .inl ⟨⟨xs, ys, q1, q2, .inl (Nat.le_of_eq hx)⟩, hd σ H p⟩
end
end L2

set_option Elab.async false
set_option linter.all false
set_option maxRecDepth 100000
set_option maxHeartbeats 2000000
namespace L2
open PySem PySem.Spec PyProof.Rows
section
variable {X : Cx} {K : PySem.W.Frag}
/-! ### list(range(n)) -/
end
/-! ### comprehensions of things with new objects behind them -/
section
variable {J : It} {n : Nat} {H1 : Hp} {X : Nat → V → Hp → Prop} {g : TG} {tt : TT} {te : TE} {σ0 : St} {Q : VK}
theorem comp_A (w : Wk J n H1 X) (hn : n < sizeLine) (Pv : Addr → Nat → List V → St → Hp → Prop) (h0 : ∀ acc H, H1 acc = none → Same H1 H → H acc = some (.lst []) → Pv acc 0 [] σ0 H)
    (hP : ∀ acc i ys σ H H', Same H H' → Pv acc i ys σ H → Pv acc i ys σ H')
    (turn : ∀ acc i x ys σ H (R : St → V → Hp → Prop) (S : St → Hp → Prop), i < n → H1 acc = none → Same H1 H → H acc = some (.lst ys) → X i x H → Pv acc i ys σ H →
      (∀ σ2 v H5, Same H H5 → (∀ H6, Chg acc H5 H6 → Pv acc (i + 1) (ys ++ [v]) σ2 H6) → R σ2 v H5) → (∀ σ2 H5, Same H H5 → Pv acc (i + 1) ys σ2 H5 → S σ2 H5) →
      g x σ H fun σ2 H3 => tt σ2 H3 fun b H4 => br b (te σ2 H4 fun v H5 => R σ2 v H5) (S σ2 H4))
    (fin : ∀ acc ys σ H, H1 acc = none → Same H1 H → H acc = some (.lst ys) → Pv acc n ys σ H → Q (.ref acc) H) : compW J g tt te σ0 H1 Q := by
  unfold compW
  intro acc H2 hf hs ha
  refine ⟨fun i m ys σ H => m = n - i ∧ i ≤ n ∧ ys.length ≤ i ∧ Same H1 H ∧ H acc = some (.lst ys) ∧ Pv acc i ys σ H, ⟨n, by simp, Nat.zero_le _, Nat.le_refl _, hs, ha, h0 acc H2 hf hs ha⟩, ?_⟩
  rintro i m ys σ H ⟨rfl, hi, hl, s, hy, P⟩
  refine ⟨hy, by omega, ?_⟩
  by_cases hlt : i < n
  · refine .inr ⟨w.go i H s hlt, fun x H' y => ?_⟩
    obtain ⟨s1, x1⟩ := w.yld i H x H' s hlt y
    refine turn acc i x ys σ H' (fun σ2 v H5 => cPut _ acc ys i (n - i) σ2 v H5) (fun σ2 H4 => cSkip _ ys i (n - i) σ2 H4) hlt hf (s.trans s1) (s1 _ _ hy) x1 (hP _ _ _ _ _ _ s1 P) ?_ ?_
    · intro σ2 v H5 s5 q
      have s15 := s1.trans s5
      unfold cPut
      refine ⟨s15 _ _ hy, fun H6 c6 h6 => ⟨n - (i + 1), by omega, rfl, hlt, by rw [List.length_append]; simp; omega, (s.trans s15).chg hf c6, h6, q H6 c6⟩⟩
    · intro σ2 H5 s5 q
      have s15 := s1.trans s5
      unfold cSkip
      exact ⟨n - (i + 1), by omega, rfl, hlt, by omega, s.trans s15, s15 _ _ hy, q⟩
  · have e : i = n := by omega
    subst e
    exact .inl ⟨w.stop H s, fin acc ys σ H hf s hy P⟩
end
end L2

set_option Elab.async false
set_option linter.all false
set_option maxRecDepth 100000
set_option maxHeartbeats 2000000
/-! ### zip over three lists: iterators at n, n + 1, n + 2, what is walked at n + 3, what is told at n + 4, the zip at n + 5 -/
namespace PySem
open Sem (wp)
namespace F
end F
section
variable {prog : Program} {w : World} {A : Around} {E : Value → Shared → Prop} {s : Shared}
end
section
variable {prog : Program} {w : World} {A : Around} {E : Value → Shared → Prop} {s : Shared}
end
end PySem

set_option Elab.async false
set_option linter.all false
set_option maxRecDepth 100000
set_option maxHeartbeats 2000000
namespace L2
open PySem PySem.Spec PyProof.Rows
/-! ### zip over three lists of one length -/
section
variable {X : Cx} {K : PySem.W.Frag}
end
section
variable {K : PySem.W.Frag} {H : Hp} {R : It → Hp → Prop}
end
end L2

set_option Elab.async false
set_option linter.all false
set_option maxRecDepth 100000
set_option maxHeartbeats 2000000
namespace L2
open PySem PySem.Spec PyProof.Rows
/-! ### xs.pop() -/
section
variable {X : Cx} {K : PySem.W.Frag}
end
end L2

set_option Elab.async false
set_option linter.all false
set_option maxRecDepth 100000
set_option maxHeartbeats 2000000
namespace L2
open PySem PySem.Spec PyProof.Rows
/-! ### sorted(e), of ints -/
section
variable {X : Cx} {K : PySem.W.Frag}
end
end L2

set_option Elab.async false
set_option linter.all false
set_option maxRecDepth 100000
set_option maxHeartbeats 2000000
namespace L2
open PySem PySem.Spec PyProof.Rows
/-! ### tuple(e) of a list; tuples walked in a comprehension -/
section
variable {X : Cx} {K : PySem.W.Frag}
@[irreducible] def rTupA (K : PySem.W.Frag) (p : Addr) (H : Hp) (Q : VK) : Prop := ∃ ys, SqL K H p ys ∧ ∀ l H', H l = none → Same H H' → H' l = some (.tup ys) → Q (.ref l) H'
def rTupM (K : PySem.W.Frag) : List V → Hp → VK → Prop := fun xs H Q => match xs with
  | [.ref p] => rTupA K p H Q
  | _ => False
theorem cTupK (hK : X.K = K) : CallR X (.type "tuple") (rTupM K) := fun pins s σ H xs us Q I r h => by
  subst hK
  unfold rTupM at h
  split at h
  · unfold rTupA at h
    obtain ⟨ys, h1, h2⟩ := h
    exact call_tuple_of pins s σ H _ us Q I r ⟨_, ys, rfl, .inl ⟨h1, fun l hl => h2 l _ hl (Same.upd hl) upd_same⟩⟩
  · exact h.elim
theorem tupL_rd {p : Addr} {H : Hp} {Q : VK} {ys : List V} (h : SqL K H p ys) (q : ∀ l H', H l = none → Same H H' → H' l = some (.tup ys) → Q (.ref l) H') : rTupA K p H Q := by unfold rTupA; exact ⟨ys, h, q⟩
end
theorem Same.seqT {K : PySem.W.Frag} {H H' : Hp} {a : Addr} {xs : List V} (e : Same H H') (h : H a = some (.tup xs)) : SqT K H' a xs := SqT.of (e _ _ h)
theorem Wk.tup {K : PySem.W.Frag} {a : Addr} {xs : List V} {H1 : Hp} (h : H1 a = some (.tup xs)) : Wk (Itt K a) xs.length H1 fun i x _ => xs[i]? = some x :=
  ⟨fun i H s hi => ⟨xs, xs[i], Same.seqT s h, by simp [hi]⟩, fun H s => ⟨xs, Same.seqT s h, Nat.le_refl _⟩, fun i H x H' s _ y => by
    obtain ⟨e, y⟩ := y
    subst e
    exact ⟨Same.refl _, y xs (Same.seqT s h)⟩⟩
end L2

set_option Elab.async false
set_option linter.all false
set_option maxRecDepth 100000
set_option maxHeartbeats 4000000
namespace L2
open PySem PySem.Spec PyProof.Rows
/-! ### isinstance(x, (C, D)) -/
section
variable {X : Cx} {K : PySem.W.Frag} {H : Hp} {Q : VK}
end
/-! ### list.count of a text among things of all kinds -/
section
variable {X : Cx} {K : PySem.W.Frag}
end
end L2

set_option Elab.async false
set_option linter.all false
set_option maxRecDepth 100000
set_option maxHeartbeats 4000000
namespace L2
open PySem PySem.Spec PyProof.Rows
/-! ### a class of exceptions with an __init__ of its own: it is made -/
section
variable {prog : Program} {w : World} {A : Around} {E : Value → Shared → Prop} {h : Heap} {g : Array GenState} {d : Drawn} {t : Nat} {os : OsState}
variable {nm q : Str} {C N : Addr} {bs bm bmB : List Value} {hdct : Bool} {sn : List Str} {sub : List Value} {ab : Bool} {col : Option Bool} {dd : Option Addr} {k0 k1 k2 k3 k5 : Option Value} {B newId initId : String} {K : PySem.W.Frag}
end
section
variable {prog : Program} {w : World} {A : Around} {E : Value → Shared → Prop} {s : Shared} {env : Env}
variable {nm q : Str} {C N : Addr} {bs bm bmB : List Value} {hdct : Bool} {sn : List Str} {sub : List Value} {ab : Bool} {col : Option Bool} {dd : Option Addr} {k0 k1 k2 k3 k5 : Option Value} {B newId initId : String} {K : PySem.W.Frag}
end
/-! ### its attribute is stored -/
section
open PySem.W
variable {prog : Program} {w : World} {A : Around} {E : Value → Shared → Prop} {s : Shared} {K : Frag}
end
end L2

set_option Elab.async false
set_option linter.all false
set_option maxRecDepth 100000
set_option maxHeartbeats 4000000
namespace L2
open PySem PySem.Spec PyProof.Rows
/-! ### an exception that is being made -/
section
variable {X : Cx} {K : PySem.W.Frag}
/-! ### it is raised -/
section
variable {pins : List (Addr × Obj)} {σ : St} {H : Hp} {s : Shared} {e : Addr} {φ : Heap → Prop}
end
end
end L2

set_option Elab.async false
set_option linter.all false
set_option maxRecDepth 100000
set_option maxHeartbeats 4000000
namespace L2
open PySem PySem.Spec PyProof.Rows
/-! ### a caught exception with a dict: its class, its attribute -/
section
open PySem.W PySem.Calls
end
section
variable {X : Cx} {K : PySem.W.Frag} {H : Hp} {Q : VK}
/-! e.f of a caught exception -/
end
end L2
namespace L2
open PySem PySem.Spec PyProof.Rows
/-! ### short words for a class with an __init__ -/
end L2

set_option Elab.async false
set_option linter.all false
set_option maxRecDepth 100000
set_option maxHeartbeats 2000000
namespace L2
open PySem PySem.Spec PyProof.Rows
/-! ### comprehensions whose target is seen by an inner one: it is a cell -/
def OneCell (x0 : Str) (names : List (Str × NameKind)) : Prop := names.filter (fun y => y.2 == .cell) = [(x0, .cell)] ∧ names.lookup x0 = some .cell
theorem OneCell.only {x0 : Str} {names : List (Str × NameKind)} (h : OneCell x0 names) : ∀ y ∈ names, y.2 = .cell → y.1 = x0 := fun y hy hc => by
  have : y ∈ names.filter (fun y => y.2 == .cell) := List.mem_filter.mpr ⟨hy, by rw [hc]; rfl⟩
  rw [h.1] at this
  rw [List.mem_singleton.mp this]
section
variable {X : Cx} {pins : List (Addr × Obj)} {σ : St} {H : Hp} {s2 : Shared}
end
end L2

set_option Elab.async false
set_option linter.all false
set_option maxRecDepth 100000
set_option maxHeartbeats 1000000
namespace L2
open PySem PySem.Spec PyProof.Rows

/-! ### lists of pairs as tables -/
section
variable {κ : Type} [DecidableEq κ]
def valV (kvs : List (κ × V)) (k : κ) : Option V := (kvs.find? fun kv => decide (kv.1 = k)).map (·.2)
/-- in its place, or at the end -/
def putK (kvs : List (κ × V)) (k : κ) (v : V) : List (κ × V) :=
  if (kvs.any fun kv => decide (kv.1 = k)) = true then kvs.map (fun kv => if kv.1 = k then (kv.1, v) else kv) else kvs ++ [(k, v)]
theorem KV.any {kvs : List (κ × V)} {vs : List (κ × Value)} (r : KV kvs vs) (k : κ) : (kvs.any fun kv => decide (kv.1 = k)) = vs.any fun kv => decide (kv.1 = k) := by
  unfold KV at r
  induction r with
  | nil => rfl
  | cons h t ih => rw [List.any_cons, List.any_cons, ih, h.1]
theorem KV.length {kvs : List (κ × V)} {vs : List (κ × Value)} (r : KV kvs vs) : kvs.length = vs.length := Paired.length r
end


/-! ### a tracked dict, its keys ints and texts or tuples of these -/
section
variable {P : Program} {w : World} {H : Hp} {h : Heap} {a : Addr}
end

/-- what the dict at a holds at the key y -/
def DGet (H : Hp) (a : Addr) (y : V) (r : Option V) : Prop :=
  (∃ kvs k, Rd H a (.dK kvs) ∧ y = kV k ∧ r = valV kvs k) ∨ ∃ kvs k b, Rd H a (.dT kvs) ∧ y = .ref b ∧ H b = some (.tup (k.map kV)) ∧ r = valV kvs k
/-- the heap behind a[y] = v -/
def DPut (H : Hp) (a : Addr) (y v : V) (H' : Hp) : Prop :=
  (∃ kvs k, H a = some (.dK kvs) ∧ y = kV k ∧ kvs.length < sizeLine ∧ H' = upd H a (.dK (putK kvs k v))) ∨
  ∃ kvs k b, H a = some (.dT kvs) ∧ y = .ref b ∧ H b = some (.tup (k.map kV)) ∧ kvs.length < sizeLine ∧ H' = upd H a (.dT (putK kvs k v))
theorem DGet.k {H : Hp} {a : Addr} {kvs : List (Key × V)} {k : Key} (e : H a = some (.dK kvs)) : DGet H a (kV k) (valV kvs k) := .inl ⟨kvs, k, .inl e, rfl, rfl⟩
theorem DGet.t {H : Hp} {a b : Addr} {kvs : List (List Key × V)} {k : List Key} (e : H a = some (.dT kvs)) (eb : H b = some (.tup (k.map kV))) : DGet H a (.ref b) (valV kvs k) := .inr ⟨kvs, k, b, .inl e, rfl, eb, rfl⟩
theorem DPut.k {H : Hp} {a : Addr} {kvs : List (Key × V)} {k : Key} {v : V} (e : H a = some (.dK kvs)) (hl : kvs.length < sizeLine) : DPut H a (kV k) v (upd H a (.dK (putK kvs k v))) := .inl ⟨kvs, k, e, rfl, hl, rfl⟩
theorem DPut.t {H : Hp} {a b : Addr} {kvs : List (List Key × V)} {k : List Key} {v : V} (e : H a = some (.dT kvs)) (eb : H b = some (.tup (k.map kV))) (hl : kvs.length < sizeLine) :
    DPut H a (.ref b) v (upd H a (.dT (putK kvs k v))) := .inr ⟨kvs, k, b, e, rfl, eb, hl, rfl⟩


section
variable {X : Cx} {pins : List (Addr × Obj)} {σ : St} {H : Hp} {s : Shared} {a : Addr} {y v : V} {u r : Value} {o : Option V} {A : Around} {E : Value → Shared → Prop}

end

section
variable {X : Cx} {pins : List (Addr × Obj)} {σ : St} {H : Hp} {s : Shared} {a : Addr} {kvs : List (Key × V)} {k : Key} {u : Value} {A : Around} {E : Value → Shared → Prop}
end


/-! ### readings and rules -/
section
variable {X : Cx} {o i e value : Expr} {pos pos' tpos : Pos} {td ty tv : TE}
end


/-! ### displays -/
section
variable {X : Cx} {pos : Pos}
end

/-! ### methods -/
/-- a method call o.m(e) of a built-in, with one argument: what must be seen of the text -/
structure M1 (X : Cx) (o : Expr) (m : Str) (apos : Pos) (e : Expr) (cpos : Pos) : Prop where
  base : attributeBase o m X.env (eval o X.env) = eval o X.env
  few : ((backTo cpos (starEach [e] X.env)).all (fun x => !x.1) && (backToKw cpos (keywordEach [] X.env)).all (fun x => x.1.isSome)
    && decide (([e] : List Expr).length + ([] : List Keyword).length + (if ([] : List Keyword).isEmpty then 0 else 1) < 30)) = true
  line : (apos.endLine == cpos.line) = true
  trees : backTo cpos (starEach [e] X.env) = [(false, eval e X.env)]
structure M2 (X : Cx) (o : Expr) (m : Str) (apos : Pos) (e f : Expr) (cpos : Pos) : Prop where
  base : attributeBase o m X.env (eval o X.env) = eval o X.env
  few : ((backTo cpos (starEach [e, f] X.env)).all (fun x => !x.1) && (backToKw cpos (keywordEach [] X.env)).all (fun x => x.1.isSome)
    && decide (([e, f] : List Expr).length + ([] : List Keyword).length + (if ([] : List Keyword).isEmpty then 0 else 1) < 30)) = true
  line : (apos.endLine == cpos.line) = true
  trees : backTo cpos (starEach [e, f] X.env) = [(false, eval e X.env), (false, eval f X.env)]

section
variable {X : Cx} {pins : List (Addr × Obj)} {σ : St} {H : Hp} {s : Shared} {a : Addr} {y d : V} {u r : Value} {o : Option V} {A : Around} {E : Value → Shared → Prop}
end

section
variable {X : Cx} {o e f : Expr} {apos cpos : Pos} {td ty tx : TE}
end

/-! ### dict(d): a copy -/
section
variable {X : Cx} {pins : List (Addr × Obj)} {σ : St} {H : Hp} {s : Shared} {a : Addr} {kvs : List (Key × V)} {A : Around} {E : Value → Shared → Prop}
end


section
variable {X : Cx} {pins : List (Addr × Obj)} {σ : St} {H : Hp} {s : Shared} {a : Addr} {y : V} {u : Value} {A : Around} {E : Value → Shared → Prop}
end
end L2
namespace L2
open PySem PySem.Spec PyProof.Rows
/-! ### a dict's pairs: keys that differ -/
section
variable {κ : Type} [DecidableEq κ]
end
end L2

set_option Elab.async false
set_option linter.all false
set_option maxRecDepth 100000
set_option maxHeartbeats 2000000
namespace L2
open PySem PySem.Spec PyProof.Rows
/-! ### a dict walked by its keys, whatever they are -/
section
variable {prog : Program} {w : World} {A : Around} {E : Value → Shared → Prop} {s : Shared} {d it : Addr} {es : Array DictEntry} {ep : Nat}
end
end L2

set_option Elab.async false
set_option linter.all false
set_option maxRecDepth 100000
set_option maxHeartbeats 2000000
namespace L2
open PySem PySem.Spec PyProof.Rows PySem.W
/-! ### sorting by an order that is known: what is asked, what comes out -/
section
variable {lt : Nat → Nat → Bool} {n : Nat}
def Pm (n : Nat) (p : Array Nat) : Prop := p.toList.Perm (List.range n)
end
/-! ### list.sort -/
section
variable {prog : Program} {w : World} {A : Around} {E : Value → Shared → Prop} {s : Shared}
end
end L2

set_option Elab.async false
set_option linter.all false
set_option maxRecDepth 100000
set_option maxHeartbeats 2000000
namespace L2
open PySem PySem.Spec PyProof.Rows PySem.W
/-! ### sorted(d), of a dict whose keys are pairs of ints -/
section
variable {prog : Program} {w : World} {A : Around} {E : Value → Shared → Prop} {s : Shared}
end
end L2

set_option Elab.async false
set_option linter.all false
set_option maxRecDepth 100000
set_option maxHeartbeats 2000000
namespace L2
open PySem PySem.Spec PyProof.Rows PySem.W
/-! ### dicts with tuples for keys, read by computing -/
section
variable {X : Cx} {K : PySem.W.Frag}
/- {} -/
/- d[k] -/
/- d.get(k, z) -/
/- d[k] = v -/
/- sorted(d) -/
end
end L2

set_option Elab.async false
set_option linter.all false
set_option maxRecDepth 100000
set_option maxHeartbeats 2000000
namespace L2
open PySem PySem.Spec PyProof.Rows PySem.W
/-! ### what a sort gives is in order -/
section
variable {lt : Nat → Nat → Bool} {n : Nat}
/-- the state: a permutation -/
theorem Pm.size {p : Array Nat} (h : Pm n p) : p.size = n := by have := h.length_eq; rw [Array.length_toList, List.length_range] at this; exact this
end
end L2

set_option Elab.async false
set_option linter.all false
set_option maxRecDepth 100000
set_option maxHeartbeats 2000000
namespace L2
open PySem PySem.Spec PyProof.Rows PySem.W
/-! ### sorted(d) in order -/
section
variable {prog : Program} {w : World} {A : Around} {E : Value → Shared → Prop} {s : Shared}
end
section
variable {X : Cx} {K : PySem.W.Frag}
end
end L2

set_option Elab.async false
set_option linter.all false
set_option maxRecDepth 100000
set_option maxHeartbeats 4000000
namespace L2
open PySem PySem.Spec PyProof.Rows
/-! ### isinstance(e, (C, D)) of what was caught -/
section
variable {X : Cx} {K : PySem.W.Frag} {H : Hp} {Q : VK}
/-- a caught exception of the class D -/
def ExA (H : Hp) (e D : Addr) : Prop := H e = some (excO e (.ref D) none) ∨ ∃ d fs, H e = some (excO e (.ref D) (some d)) ∧ H d = some (.xd fs)
theorem ExA.same {H H' : Hp} {e D : Addr} (x : ExA H e D) (s : Same H H') : ExA H' e D := by
  rcases x with x | ⟨d, fs, x, y⟩
  · exact .inl (s _ _ x)
  · exact .inr ⟨d, fs, s _ _ x, s _ _ y⟩
end
/-! ### try: y = ['..', f(..)] -/
section
variable {X : Cx} {pins : List (Addr × Obj)} {σ : St} {H : Hp} {s : Shared}
end
end L2

set_option Elab.async false
set_option linter.all false
set_option maxRecDepth 100000
set_option maxHeartbeats 4000000
namespace L2
open PySem PySem.Spec PyProof.Rows
/-! ### str(x) of a list, a tuple -/
mutual
inductive ShV (H : Hp) : V → PyData → Prop
  | non : ShV H .non .none
  | bl (b : Bool) : ShV H (.bl b) (.bool b)
  | int (i : Int) : ShV H (.int i) (.int i)
  | str (x : Str) : ShV H (.str x) (.str x)
  | lst {a : Addr} {xs : List V} {ds : List PyData} : H a = some (.lst xs) → ShL H xs ds → ShV H (.ref a) (.list ds)
  | tup {a : Addr} {xs : List V} {ds : List PyData} : H a = some (.tup xs) → ShL H xs ds → ShV H (.ref a) (.tuple ds)
inductive ShL (H : Hp) : List V → List PyData → Prop
  | nil : ShL H [] []
  | cons {x : V} {d : PyData} {xs : List V} {ds : List PyData} : ShV H x d → ShL H xs ds → ShL H (x :: xs) (d :: ds)
end
section
variable {X : Cx} {pins : List (Addr × Obj)} {σ : St} {H H' : Hp} {s : Shared} {Q : VK}
mutual
theorem ShV.same {v : V} {d : PyData} (h : ShV H v d) (k : Same H H') : ShV H' v d := match h with
  | .non => .non
  | .bl b => .bl b
  | .int i => .int i
  | .str x => .str x
  | .lst e l => .lst (k _ _ e) (l.same k)
  | .tup e l => .tup (k _ _ e) (l.same k)
theorem ShL.same {xs : List V} {ds : List PyData} (h : ShL H xs ds) (k : Same H H') : ShL H' xs ds := match h with
  | .nil => .nil
  | .cons a b => .cons (a.same k) (b.same k)
end
theorem ShL.len {xs : List V} {ds : List PyData} (h : ShL H xs ds) : xs.length = ds.length := match h with
  | .nil => rfl
  | .cons _ b => by rw [List.length_cons, List.length_cons, b.len]
mutual
theorem ShV.reads (I : Inv X pins σ H s) {v : V} {d : PyData} {u : Value} (h : ShV H v d) (r : RelV v u) : ∃ as, Reads s.heap u d as := match h with
  | .non => by cases (show u = Value.none from r); exact ⟨_, .none⟩
  | .bl b => by cases (show u = Value.bool b from r); exact ⟨_, .bool b⟩
  | .int i => by obtain ⟨t, q⟩ := (show ∃ t, u = Value.int i t from r); cases q; exact ⟨_, .int i t⟩
  | .str x => by obtain ⟨t, q⟩ := (show ∃ t, u = Value.str x t from r); cases q; exact ⟨_, .str x t⟩
  | .lst (a := a) (xs := xs) e l => by
    cases (show u = Value.ref a from r)
    obtain ⟨_, us, n, rv, h1⟩ := (show ObjOk X.prog X.w H s.heap a (.lst xs) from I.hok a _ e)
    obtain ⟨as, ra⟩ := l.reads I rv
    exact ⟨_, .list h1 rfl rfl (by simpa using ra)⟩
  | .tup (a := a) (xs := xs) e l => by
    cases (show u = Value.ref a from r)
    obtain ⟨_, us, rv, o, h1, h2, n, h3⟩ := (show ObjOk X.prog X.w H s.heap a (.tup xs) from I.hok a _ e)
    obtain ⟨as, ra⟩ := l.reads I rv
    exact ⟨_, .tuple h1 h2 h3 (by simpa using ra)⟩
theorem ShL.reads (I : Inv X pins σ H s) {xs : List V} {ds : List PyData} {us : List Value} (h : ShL H xs ds) (r : Vals xs us) : ∃ as, ReadsAll s.heap us ds as := match h, r with
  | .nil, .nil => ⟨_, .nil⟩
  | .cons a b, .cons r1 r2 => by
    obtain ⟨as, ra⟩ := a.reads I r1
    obtain ⟨bs, rb⟩ := b.reads I r2
    exact ⟨_, .cons ra rb⟩
end
/-- what can be shown: its depth, its length -/
structure Shows (d : PyData) (k m : Nat) : Prop where
  ok : d.showable = true
  nd : d.hasDict = false
  dp : d.depth ≤ k
  ln : d.shown.length ≤ m
theorem Shows.up {d : PyData} {k m k' m' : Nat} (h : Shows d k m) (h1 : k ≤ k') (h2 : m ≤ m') : Shows d k' m' := ⟨h.ok, h.nd, Nat.le_trans h.dp h1, Nat.le_trans h.ln h2⟩
theorem all_show {k m : Nat} : ∀ {ds : List PyData}, (∀ d ∈ ds, Shows d k m) → PyData.showableAll ds = true ∧ PyData.hasDictAll ds = false ∧ PyData.depthAll ds ≤ k ∧ piled (PyData.shownAll ds) ≤ ds.length * (m + 2)
  | [], _ => ⟨rfl, rfl, Nat.zero_le _, by simp [PyData.shownAll, piled]⟩
  | d :: ds, h => by
    have h0 := h d (.head _)
    obtain ⟨a1, a2, a3, a4⟩ := all_show (ds := ds) fun x hx => h x (.tail _ hx)
    refine ⟨by simp [PyData.showableAll, h0.ok, a1], by simp [PyData.hasDictAll, h0.nd, a2], ?_, ?_⟩
    · have := h0.dp
      simp only [PyData.depthAll]
      omega
    · have := h0.ln
      simp only [PyData.shownAll, piled_cons, List.length_cons, Nat.succ_mul]
      omega
theorem textFrom_le : ∀ (ts : List Str) (k : Nat) (acc : Str), (textFrom k acc ts).length ≤ acc.length + piled ts
  | [], _, acc => by simp [textFrom, piled]
  | t :: ts, k, acc => by
    have ih := textFrom_le ts (k + 1) (acc ++ (if k > 0 then ", " else "" : String) ++ t)
    have e : (acc ++ (if k > 0 then ", " else "" : String) ++ t).length = acc.length + (if k > 0 then 2 else 0) + t.length := by
      rw [strLen_append, strLen_append]
      congr 2
      split <;> rfl
    rw [piled_cons]
    show (textFrom (k + 1) _ ts).length ≤ _
    rw [e] at ih
    have e2 : (if k > 0 then 2 else 0) ≤ 2 := by split <;> omega
    omega
theorem Shows.list {ds : List PyData} {k m : Nat} (h : ∀ d ∈ ds, Shows d k m) : Shows (.list ds) (k + 1) (ds.length * (m + 2) + 2) := by
  obtain ⟨a1, a2, a3, a4⟩ := all_show h
  refine ⟨by simpa [PyData.showable] using a1, by simpa [PyData.hasDict] using a2, by simp only [PyData.depth]; omega, ?_⟩
  have := textFrom_le (PyData.shownAll ds) 0 "["
  have e1 : ((("[" : String) : Str)).length = 1 := rfl
  have e2 : ((("]" : String) : Str)).length = 1 := rfl
  simp only [PyData.shown, listText, strLen_append]
  omega
theorem Shows.tuple {ds : List PyData} {k m : Nat} (h : ∀ d ∈ ds, Shows d k m) : Shows (.tuple ds) (k + 1) (ds.length * (m + 2) + 4) := by
  obtain ⟨a1, a2, a3, a4⟩ := all_show h
  refine ⟨by simpa [PyData.showable] using a1, by simpa [PyData.hasDict] using a2, by simp only [PyData.depth]; omega, ?_⟩
  have e1 : ((("(" : String) : Str)).length = 1 := rfl
  have e3 : ((if (PyData.shownAll ds).length == 1 then ",)" else ")" : String) : Str).length ≤ 2 := by split <;> decide
  have e4 : (Str.join ", " (PyData.shownAll ds)).length ≤ piled (PyData.shownAll ds) := by
    by_cases z : PyData.shownAll ds = []
    · rw [z]; decide
    · have := join_length_add _ z; omega
  simp only [PyData.shown, tupleText, strLen_append]
  omega
theorem Shows.int {i : Int} (h : -(10 ^ 100) ≤ i) (h' : i ≤ 10 ^ 100) : Shows (.int i) 0 1921 := by
  have hl : i.natAbs.log2 < 1920 := by
    by_cases z : i.natAbs = 0
    · rw [z]; decide
    · rw [Nat.log2_lt z]
      have h1 : i.natAbs ≤ 10 ^ 100 := by omega
      exact Nat.lt_of_le_of_lt h1 (by decide +kernel)
  exact ⟨by simpa [PyData.showable] using hl, rfl, by simp [PyData.depth], by simpa only [PyData.shown] using PyProof.Rows.int_text_len_1921 hl⟩
theorem Shows.non : Shows .none 0 4 := ⟨rfl, rfl, by simp [PyData.depth], by decide⟩
theorem Shows.bl {b : Bool} : Shows (.bool b) 0 5 := by cases b <;> exact ⟨rfl, rfl, by simp [PyData.depth], by decide⟩
theorem Shows.str {x : Str} {m : Nat} (h : (reprText x).length ≤ m) : Shows (.str x) 0 m := ⟨rfl, rfl, by simp [PyData.depth], h⟩
/-- a list whose parts are shown -/
theorem ShL.of {xs : List V} (f : V → PyData) (h : ∀ x ∈ xs, ShV H x (f x)) : ShL H xs (xs.map f) := by
  induction xs with
  | nil => exact .nil
  | cons x xs ih => exact .cons (h x (.head _)) (ih fun y hy => h y (.tail _ hy))
end
end L2

set_option Elab.async false
set_option linter.all false
set_option maxRecDepth 100000
set_option maxHeartbeats 4000000
namespace L2
open PySem PySem.Spec PyProof.Rows
/-! ### things of any kind: what can be read of the heap as data -/
mutual
def sml : PyData → Bool
  | .none | .bool _ | .int _ | .str _ => true
  | .list xs | .tuple xs => decide (xs.length ≤ 1000) && smlAll xs
  | .dict _ => false
def smlAll : List PyData → Bool
  | [] => true
  | x :: xs => sml x && smlAll xs
end
theorem smlAll_of : ∀ {ds : List PyData}, (∀ d ∈ ds, sml d = true) → smlAll ds = true
  | [], _ => rfl
  | d :: ds, h => by simp [smlAll, h d (.head _), smlAll_of fun x hx => h x (.tail _ hx)]
theorem smlAll_mem : ∀ {ds : List PyData}, smlAll ds = true → ∀ d ∈ ds, sml d = true
  | [], _, d, h => by cases h
  | x :: ds, h, d, hd => by
    simp only [smlAll, Bool.and_eq_true] at h
    rcases List.mem_cons.mp hd with rfl | hd
    · exact h.1
    · exact smlAll_mem h.2 d hd
section
variable {H H' : Hp} {K : PySem.W.Frag} {Q : VK}
theorem ShL.idx : ∀ {xs : List V} {ds : List PyData}, xs.length = ds.length → (∀ (i : Nat) x d, xs[i]? = some x → ds[i]? = some d → ShV H x d) → ShL H xs ds
  | [], [], _, _ => .nil
  | [], _ :: _, h, _ => by simp at h
  | _ :: _, [], h, _ => by simp at h
  | x :: xs, d :: ds, h, k => .cons (k 0 x d rfl rfl) (ShL.idx (by simpa using h) fun i y e h1 h2 => k (i + 1) y e (by simpa using h1) (by simpa using h2))
theorem ShL.get : ∀ {xs : List V} {ds : List PyData} (_ : ShL H xs ds) (i : Nat) (x : V), xs[i]? = some x → ∃ d, ds[i]? = some d ∧ ShV H x d
  | _, _, .nil, i, x, e => by simp at e
  | _, _, .cons a b, 0, x, e => by cases (show some _ = some x from e); exact ⟨_, rfl, a⟩
  | _, _, .cons a b, i + 1, x, e => by
    obtain ⟨d, e1, e2⟩ := ShL.get b i x (by simpa using e)
    exact ⟨d, by simpa using e1, e2⟩
theorem ShL.ex {P : PyData → Prop} : ∀ {xs : List V}, (∀ x ∈ xs, ∃ d, ShV H x d ∧ P d) → ∃ ds, ShL H xs ds ∧ ∀ d ∈ ds, P d
  | [], _ => ⟨[], .nil, fun _ h => by cases h⟩
  | x :: xs, h => by
    obtain ⟨d, h1, h2⟩ := h x (.head _)
    obtain ⟨ds, h3, h4⟩ := ShL.ex (xs := xs) fun y hy => h y (.tail _ hy)
    refine ⟨d :: ds, .cons h1 h3, fun e he => ?_⟩
    rcases List.mem_cons.mp he with rfl | he
    · exact h2
    · exact h4 e he
/-- readable: as data, small, with a text of at most m signs -/
def Rda (H : Hp) (v : V) (k m : Nat) : Prop := ∃ d, ShV H v d ∧ sml d = true ∧ Shows d k m
theorem Rda.same {v : V} {k m : Nat} (h : Rda H v k m) (s : Same H H') : Rda H' v k m := by obtain ⟨d, h1, h2, h3⟩ := h; exact ⟨d, h1.same s, h2, h3⟩
theorem Rda.up {v : V} {k m k' m' : Nat} (h : Rda H v k m) (h1 : k ≤ k' := by omega) (h2 : m ≤ m' := by omega) : Rda H v k' m' := by obtain ⟨d, a, b, c⟩ := h; exact ⟨d, a, b, c.up h1 h2⟩
theorem Rda.int {i : Int} (h : -(10 ^ 100) ≤ i) (h' : i ≤ 10 ^ 100) : Rda H (.int i) 0 1921 := ⟨_, .int i, rfl, Shows.int h h'⟩
theorem Rda.non : Rda H .non 0 1921 := ⟨_, .non, rfl, Shows.non.up (by omega) (by omega)⟩
theorem Rda.lst {a : Addr} {xs : List V} {k m : Nat} (e : H a = some (.lst xs)) (l : xs.length ≤ 1000) (h : ∀ x ∈ xs, Rda H x k m) : Rda H (.ref a) (k + 1) (xs.length * (m + 2) + 4) := by
  obtain ⟨ds, h1, h2⟩ := ShL.ex (P := fun d => sml d = true ∧ Shows d k m) h
  have hl := h1.len
  refine ⟨.list ds, .lst e h1, ?_, ?_⟩
  · simp only [sml, Bool.and_eq_true, decide_eq_true_eq]
    exact ⟨by omega, smlAll_of fun d hd => (h2 d hd).1⟩
  · have := Shows.list (ds := ds) (k := k) (m := m) fun d hd => (h2 d hd).2
    rw [hl]
    exact this.up (Nat.le_refl _) (by omega)
theorem Rda.tup {a : Addr} {xs : List V} {k m : Nat} (e : H a = some (.tup xs)) (l : xs.length ≤ 1000) (h : ∀ x ∈ xs, Rda H x k m) : Rda H (.ref a) (k + 1) (xs.length * (m + 2) + 4) := by
  obtain ⟨ds, h1, h2⟩ := ShL.ex (P := fun d => sml d = true ∧ Shows d k m) h
  have hl := h1.len
  refine ⟨.tuple ds, .tup e h1, ?_, ?_⟩
  · simp only [sml, Bool.and_eq_true, decide_eq_true_eq]
    exact ⟨by omega, smlAll_of fun d hd => (h2 d hd).1⟩
  · have := Shows.tuple (ds := ds) (k := k) (m := m) fun d hd => (h2 d hd).2
    rw [hl]
    exact this
/-! isinstance of any thing -/
def isD (n : String) : PyData → Bool
  | .none => false
  | .bool _ => n == "bool" || n == "int"
  | .int _ => n == "int"
  | .str _ => n == "str"
  | .list _ => n == "list"
  | .tuple _ => n == "tuple"
  | .dict _ => n == "dict"
theorem isiD_rd' {v : V} {d : PyData} {n : String} (h : ShV H v d) (hn : n = "int" ∨ n = "bool" ∨ n = "list" ∨ n = "tuple") (q : Q (.bl (isD n d)) H) : rIsiA K v (.ty n) H Q := by
  rcases hn with rfl | rfl | rfl | rfl <;> cases h
  all_goals first
    | exact isiN_rd q (by rfl)
    | exact isiB_rd q (by rfl)
    | exact isiI_rd q (by rfl)
    | exact isiS_rd q (by rfl)
    | (rename_i e l; exact isiL_rd e q (by rfl))
    | (rename_i e l; exact isiT_rd e q (by rfl))
end
end L2

set_option Elab.async false
set_option linter.all false
set_option maxRecDepth 100000
set_option maxHeartbeats 4000000
namespace L2
open PySem PySem.Spec PyProof.Rows
/-! ### x in a list or a tuple of flat things -/
section
variable {X : Cx} {K : PySem.W.Frag} {H : Hp} {Q : VK}
/-! ### str of any thing -/
def strD : PyData → Str
  | .str x => x
  | d => d.shown
@[irreducible] def rStrA (x : V) (H : Hp) (Q : VK) : Prop := ∃ d : PyData, ShV H x d ∧ Shows d 20 16000000 ∧ Q (.str (strD d)) H
def rStrAM : List V → Hp → VK → Prop := fun xs H Q => match xs with
  | [x] => rStrA x H Q
  | _ => False
theorem cStrA {j : Nat} (hr : Room j X.A) : CallR X (.type "str") rStrAM := fun pins s σ H xs us Q I r h => by
  unfold rStrAM at h
  split at h
  · unfold rStrA at h
    obtain ⟨d, hv, hs, q⟩ := h
    obtain ⟨u, rfl, r1⟩ := vals1 r
    have := hr.un
    have hd := hs.dp
    cases hv with
    | non => cases (show u = Value.none from r1); exact P.str_of_none ⟨.str _, H, I.tok _, ⟨_, rfl⟩, q⟩
    | bl b => cases (show u = Value.bool b from r1); exact P.str_of_bool ⟨.str _, H, I.tok _, ⟨_, rfl⟩, q⟩
    | int i =>
      obtain ⟨t, e⟩ := (show ∃ t, u = Value.int i t from r1)
      cases e
      have ok : decide (i.natAbs.log2 < 1920) = true := hs.ok
      exact P.str_of_int (of_decide_eq_true ok) ⟨.str _, H, I.tok _, ⟨_, rfl⟩, q⟩
    | str x =>
      obtain ⟨t, e⟩ := (show ∃ t, u = Value.str x t from r1)
      cases e
      exact P.str_of_str ⟨.str x, H, I, ⟨_, rfl⟩, q⟩
    | @lst a xs ds e l =>
      cases (show u = Value.ref a from r1)
      obtain ⟨as, rd⟩ := (ShV.lst e l).reads I rfl
      exact str_of_reads (h₀ := s.heap) rd hs.ok (fun z => by rw [hs.nd] at z; cases z) hr.gd (by omega) (fun _ _ e => e) (fun h' u tk hk => ⟨.str _, H, I.kept hk, ⟨_, rfl⟩, q⟩) (Nat.le_trans hs.ln (by decide))
    | @tup a xs ds e l =>
      cases (show u = Value.ref a from r1)
      obtain ⟨as, rd⟩ := (ShV.tup e l).reads I rfl
      exact str_of_reads (h₀ := s.heap) rd hs.ok (fun z => by rw [hs.nd] at z; cases z) hr.gd (by omega) (fun _ _ e => e) (fun h' u tk hk => ⟨.str _, H, I.kept hk, ⟨_, rfl⟩, q⟩) (Nat.le_trans hs.ln (by decide))
  · exact h.elim
theorem strA_rd {x : V} {d : PyData} (h : ShV H x d) (hs : Shows d 20 16000000) (q : Q (.str (strD d)) H) : rStrA x H Q := by unfold rStrA; exact ⟨d, h, hs, q⟩
end
end L2

set_option Elab.async false
set_option linter.all false
set_option maxRecDepth 100000
set_option maxHeartbeats 1000000
namespace G
open PySem L2
def top (i : Nat) : Stmt := PySem.Challenge.pw_hostfields_k44_mixes_of_rings.main.body.getD i (.Pass ⟨0, 0, 0, 0⟩)
abbrev s_is_whole : Stmt := top 16
theorem sc_is_whole : FnScope ["thing"] ["thing"] (defScope s_is_whole) := ⟨rfl, rfl, rfl, by decide +kernel, rfl, by decide +kernel, by decide +kernel⟩
abbrev s_is_from : Stmt := top 17
theorem sc_is_from : FnScope ["thing", "least"] ["thing", "least"] (defScope s_is_from) := ⟨rfl, rfl, rfl, by decide +kernel, rfl, by decide +kernel, by decide +kernel⟩
abbrev s_is_between : Stmt := top 18
theorem sc_is_between : FnScope ["thing", "least", "most"] ["thing", "least", "most"] (defScope s_is_between) := ⟨rfl, rfl, rfl, by decide +kernel, rfl, by decide +kernel, by decide +kernel⟩
abbrev s_is_plan : Stmt := top 22
theorem sc_is_plan : FnScope ["hosts", "fields", "plan"] ["hosts", "fields", "plan"] (defScope s_is_plan) := ⟨rfl, rfl, rfl, by decide +kernel, rfl, by decide +kernel, by decide +kernel⟩
abbrev s_sends_hosts : Stmt := top 23
theorem sc_sends_hosts : FnScope ["plan"] ["plan"] (defScope s_sends_hosts) := ⟨rfl, rfl, rfl, by decide +kernel, rfl, by decide +kernel, by decide +kernel⟩
abbrev s_never_rises : Stmt := top 24
theorem sc_never_rises : FnScope ["plan"] ["plan"] (defScope s_never_rises) := ⟨rfl, rfl, rfl, by decide +kernel, rfl, by decide +kernel, by decide +kernel⟩
abbrev s_is_size : Stmt := top 25
theorem sc_is_size : FnScope ["hosts", "fields"] ["hosts", "fields"] (defScope s_is_size) := ⟨rfl, rfl, rfl, by decide +kernel, rfl, by decide +kernel, by decide +kernel⟩
abbrev s_is_mix : Stmt := top 27
theorem sc_is_mix : FnScope ["mix", "hosts", "fields"] ["mix"] (defScope s_is_mix) := ⟨rfl, rfl, rfl, by decide +kernel, rfl, by decide +kernel, by decide +kernel⟩
abbrev s_is_part : Stmt := top 28
theorem sc_is_part : FnScope ["part"] ["part"] (defScope s_is_part) := ⟨rfl, rfl, rfl, by decide +kernel, rfl, by decide +kernel, by decide +kernel⟩
abbrev s_ring_of : Stmt := top 30
theorem sc_ring_of : FnScope ["plan"] ["plan"] (defScope s_ring_of) := ⟨rfl, rfl, rfl, by decide +kernel, rfl, by decide +kernel, by decide +kernel⟩
abbrev s_ring_mix : Stmt := top 31
theorem sc_ring_mix : FnScope ["mix", "rings", "plan", "weight"] ["mix"] (defScope s_ring_mix) := ⟨rfl, rfl, rfl, by decide +kernel, rfl, by decide +kernel, by decide +kernel⟩
abbrev s__law_purse : Stmt := top 33
theorem sc__law_purse : FnScope ["_law_script", "_law_cells"] ["_law_script"] (defScope s__law_purse) := ⟨rfl, rfl, rfl, by decide +kernel, rfl, by decide +kernel, by decide +kernel⟩
abbrev s__law_draw : Stmt := top 34
theorem sc__law_draw : FnScope ["_law_purse_here", "_law_out_of", "_law_cells", "_law_turn", "_law_at", "_law_cell", "_law_number", "_law_other"] ["_law_purse_here", "_law_out_of"] (defScope s__law_draw) := ⟨rfl, rfl, rfl, by decide +kernel, rfl, by decide +kernel, by decide +kernel⟩
abbrev s__law_whole : Stmt := top 35
theorem sc__law_whole : FnScope ["_law_found"] ["_law_found"] (defScope s__law_whole) := ⟨rfl, rfl, rfl, by decide +kernel, rfl, by decide +kernel, by decide +kernel⟩
abbrev s__law_numbers : Stmt := top 36
theorem sc__law_numbers : FnScope ["_law_found", "_law_due"] ["_law_found", "_law_due"] (defScope s__law_numbers) := ⟨rfl, rfl, rfl, by decide +kernel, rfl, by decide +kernel, by decide +kernel⟩
abbrev s__law_counts : Stmt := top 37
theorem sc__law_counts : FnScope ["_law_purse_here", "_law_hosts", "_law_fields", "_law_found", "_law_left", "_law_most", "_law_field", "_law_low", "_law_high"] ["_law_purse_here", "_law_hosts", "_law_fields"] (defScope s__law_counts) := ⟨rfl, rfl, rfl, by decide +kernel, rfl, by decide +kernel, by decide +kernel⟩
abbrev s__law_mix : Stmt := top 38
theorem sc__law_mix : FnScope ["_law_purse_here", "_law_wide", "_law_hosts", "_law_fields", "_law_found", "_law_k", "_law_counts_here"] ["_law_purse_here"] (defScope s__law_mix) := ⟨rfl, rfl, rfl, by decide +kernel, rfl, by decide +kernel, by decide +kernel⟩
abbrev s__law_copy : Stmt := top 39
theorem sc__law_copy : FnScope ["_law_mix_here"] ["_law_mix_here"] (defScope s__law_copy) := ⟨rfl, rfl, rfl, by decide +kernel, rfl, by decide +kernel, by decide +kernel⟩
abbrev s__law_bent : Stmt := top 40
theorem sc__law_bent : FnScope ["_law_purse_here", "_law_mix_here", "_law_at", "_law_counts_here", "_law_weight", "_law_way", "_law_lower", "_law_k", "_law_some", "_law_bent_here", "_law_place", "_law_risen"] ["_law_purse_here", "_law_mix_here"] (defScope s__law_bent) := ⟨rfl, rfl, rfl, by decide +kernel, rfl, by decide +kernel, by decide +kernel⟩
abbrev s__law_odd : Stmt := top 41
theorem sc__law_odd : FnScope ["_law_purse_here", "_law_mix_here", "_law_at", "_law_counts_here", "_law_weight", "_law_place", "_law_strange", "_law_spoilt", "_law_some", "_law_way", "_law_nine", "_law_great"] ["_law_purse_here", "_law_mix_here"] (defScope s__law_odd) := ⟨rfl, rfl, rfl, by decide +kernel, rfl, by decide +kernel, by decide +kernel⟩
abbrev s__law_marks : Stmt := top 42
theorem sc__law_marks : FnScope ["_law_caught", "_law_some", "_law_words", "_law_found"] ["_law_caught"] (defScope s__law_marks) := ⟨rfl, rfl, rfl, by decide +kernel, rfl, by decide +kernel, by decide +kernel⟩
abbrev s__law_refused : Stmt := top 43
theorem sc__law_refused : FnScope ["_law_mix_here", "_law_caught", "e"] ["_law_mix_here"] (defScope s__law_refused) := ⟨rfl, rfl, rfl, by decide +kernel, rfl, by decide +kernel, by decide +kernel⟩
abbrev s__law_right : Stmt := top 44
theorem sc__law_right : FnScope ["_law_found", "_law_mix_here", "_law_due", "_law_counts_here", "_law_weight", "_law_k", "_law_part", "_law_pair"] ["_law_found", "_law_mix_here"] (defScope s__law_right) := ⟨rfl, rfl, rfl, by decide +kernel, rfl, by decide +kernel, by decide +kernel⟩
abbrev s_law : Stmt := top 45
theorem sc_law : FnScope ["_law_script", "_law_purse_here", "_law_turn", "_law_mix_here", "_law_handed", "_law_again", "_law_found", "_law_kept", "_law_none", "_law_odd_here"] ["_law_script"] (defScope s_law) := ⟨rfl, rfl, rfl, by decide +kernel, rfl, by decide +kernel, by decide +kernel⟩
theorem nb_0 : (["sent"] : List Str).Nodup := by decide +kernel
theorem nb_1 : (["place", "plan"] : List Str).Nodup := by decide +kernel
theorem nb_2 : (["part"] : List Str).Nodup := by decide +kernel
theorem nb_3 : (["plan", "weight", "hosts", "fields"] : List Str).Nodup := by decide +kernel
theorem nb_4 : (["start", "plan"] : List Str).Nodup := by decide +kernel
theorem nb_5 : (["plan", "weight"] : List Str).Nodup := by decide +kernel
theorem nb_6 : (["turning", "weight"] : List Str).Nodup := by decide +kernel
theorem nb_7 : (["_law_number"] : List Str).Nodup := by decide +kernel
theorem nb_8 : (["_law_counts_here", "_law_weight"] : List Str).Nodup := by decide +kernel
theorem nb_9 : (["_law_k", "_law_counts_here"] : List Str).Nodup := by decide +kernel
theorem nb_10 : (["_law_word", "_law_truth"] : List Str).Nodup := by decide +kernel
theorem nb_11 : (["_law_counts_here", "_law_weight"] : List Str).Nodup := by decide +kernel
structure Cz (K : PySem.W.Frag) (mg : Str → Option Value) (base : Heap) (a_HostError a_NoBattle a_NoPlan a_NoMix a_NoStream a_NoSide a_NoAlike a_NoNumber a_TooGreat a_NoEven a_NoText a_NoRow a_NoName a_NoPlace : Addr) : Prop where
  g_HostError : mg "HostError" = some (.ref a_HostError)
  g_NoBattle : mg "NoBattle" = some (.ref a_NoBattle)
  g_NoPlan : mg "NoPlan" = some (.ref a_NoPlan)
  g_NoMix : mg "NoMix" = some (.ref a_NoMix)
  g_NoStream : mg "NoStream" = some (.ref a_NoStream)
  g_NoSide : mg "NoSide" = some (.ref a_NoSide)
  g_NoAlike : mg "NoAlike" = some (.ref a_NoAlike)
  g_NoNumber : mg "NoNumber" = some (.ref a_NoNumber)
  g_TooGreat : mg "TooGreat" = some (.ref a_TooGreat)
  g_NoEven : mg "NoEven" = some (.ref a_NoEven)
  g_NoText : mg "NoText" = some (.ref a_NoText)
  g_NoRow : mg "NoRow" = some (.ref a_NoRow)
  g_NoName : mg "NoName" = some (.ref a_NoName)
  g_NoPlace : mg "NoPlace" = some (.ref a_NoPlace)
  o_NoMix : PyProof.Rows.OwnCls "NoMix" a_NoMix bmV newV mg base
  k_NoMix : ExcK K a_NoMix
  c_NoMix : (PySem.W.clsIn K a_NoMix).isSome = true
  m_NoMix : PySem.W.exmOne K (.ref a_NoMix) (.ref a_HostError) = some true
  v_NoMix : PySem.W.kitOne K (.ref a_NoMix) (.type "ValueError") = some true
  i_NoMix_HostError : PySem.W.kitOne K (.ref a_NoMix) (.ref a_HostError) = some true
  i_NoMix_NoBattle : PySem.W.kitOne K (.ref a_NoMix) (.ref a_NoBattle) = some false
  i_NoMix_NoPlan : PySem.W.kitOne K (.ref a_NoMix) (.ref a_NoPlan) = some false
  i_NoMix_NoMix : PySem.W.kitOne K (.ref a_NoMix) (.ref a_NoMix) = some true
  i_NoMix_NoStream : PySem.W.kitOne K (.ref a_NoMix) (.ref a_NoStream) = some false
  i_NoMix_NoSide : PySem.W.kitOne K (.ref a_NoMix) (.ref a_NoSide) = some false
  i_NoMix_NoAlike : PySem.W.kitOne K (.ref a_NoMix) (.ref a_NoAlike) = some false
  i_NoMix_NoNumber : PySem.W.kitOne K (.ref a_NoMix) (.ref a_NoNumber) = some false
  i_NoMix_TooGreat : PySem.W.kitOne K (.ref a_NoMix) (.ref a_TooGreat) = some false
  i_NoMix_NoEven : PySem.W.kitOne K (.ref a_NoMix) (.ref a_NoEven) = some false
  i_NoMix_NoText : PySem.W.kitOne K (.ref a_NoMix) (.ref a_NoText) = some false
  i_NoMix_NoRow : PySem.W.kitOne K (.ref a_NoMix) (.ref a_NoRow) = some false
  i_NoMix_NoName : PySem.W.kitOne K (.ref a_NoMix) (.ref a_NoName) = some false
  i_NoMix_NoPlace : PySem.W.kitOne K (.ref a_NoMix) (.ref a_NoPlace) = some false
  n_HostError : PySem.W.kitOne K (.type "NoneType") (.ref a_HostError) = some false
  n_NoBattle : PySem.W.kitOne K (.type "NoneType") (.ref a_NoBattle) = some false
  n_NoPlan : PySem.W.kitOne K (.type "NoneType") (.ref a_NoPlan) = some false
  n_NoMix : PySem.W.kitOne K (.type "NoneType") (.ref a_NoMix) = some false
  n_NoStream : PySem.W.kitOne K (.type "NoneType") (.ref a_NoStream) = some false
  n_NoSide : PySem.W.kitOne K (.type "NoneType") (.ref a_NoSide) = some false
  n_NoAlike : PySem.W.kitOne K (.type "NoneType") (.ref a_NoAlike) = some false
  n_NoNumber : PySem.W.kitOne K (.type "NoneType") (.ref a_NoNumber) = some false
  n_TooGreat : PySem.W.kitOne K (.type "NoneType") (.ref a_TooGreat) = some false
  n_NoEven : PySem.W.kitOne K (.type "NoneType") (.ref a_NoEven) = some false
  n_NoText : PySem.W.kitOne K (.type "NoneType") (.ref a_NoText) = some false
  n_NoRow : PySem.W.kitOne K (.type "NoneType") (.ref a_NoRow) = some false
  n_NoName : PySem.W.kitOne K (.type "NoneType") (.ref a_NoName) = some false
  n_NoPlace : PySem.W.kitOne K (.type "NoneType") (.ref a_NoPlace) = some false
structure Nm (mg : Str → Option Value) : Prop where
  ValueError_ : mg "ValueError" = none
  all_ : mg "all" = none
  bool_ : mg "bool" = none
  int_ : mg "int" = none
  isinstance_ : mg "isinstance" = none
  len_ : mg "len" = none
  list_ : mg "list" = none
  min_ : mg "min" = none
  range_ : mg "range" = none
  str_ : mg "str" = none
  sum_ : mg "sum" = none
  tuple_ : mg "tuple" = none
  zip_ : mg "zip" = none
/-! ### how a promise is read -/
local macro_rules | `(tactic| walk_at "hp") => `(tactic| first | assumption | (refine Same.at (H := ?H) ?s ?e; (case s => assumption); (case e => walk_at "hp")) | (refine Chg.at (a := ?a) (H := ?H) ?c ?e ?n; (case c => assumption); (case n => walk_at "ne"); (case e => walk_at "hp")) | fail "hp")
local macro_rules | `(tactic| walk_at "ne") => `(tactic| first | assumption | (apply Ne.symm; assumption) | fail "ne")
local macro_rules | `(tactic| walk_at "wh") => `(tactic| (conv => whnf))
local macro_rules | `(tactic| walk_at "st") => `(tactic| (conv => whnf); first
  | refine mulR_rd (by omega) (by omega) ?_
  | refine mulL_rd (by omega) (by omega) ?_
  | refine modG_rd (by omega) (fun r h0 h1 => ?_)
  | refine div_rd (by omega) (by omega) ?_
  | (refine pow_rd ⟨by decide, by decide, by decide⟩ ?_; simp only [Int.reduceToNat, Int.reducePow])
  | (refine ixT_rd (xs := ?xs) (v := ?v) ?hp ?ev ?_; (case hp => walk_at "hp"); (case ev => rfl))
  | (refine ixL_rd (xs := ?xs) (v := ?v) ?hp ?ev ?_; (case hp => walk_at "hp"); (case ev => rfl))
  | refine newT_rd (fun p H' hf hs ha => ?_)
  | refine newL_rd (fun p H' hf hs ha => ?_)
  | refine isiI_rd ?_
  | (refine isiT_rd (xs := ?xs) ?hp ?_; (case hp => walk_at "hp"))
  | (refine isiL_rd (xs := ?xs) ?hp ?_; (case hp => walk_at "hp"))
  | (refine lenT_rd (xs := ?xs) ?hp ?_; (case hp => walk_at "hp"))
  | (refine lenL_rd (xs := ?xs) ?hp ?_; (case hp => walk_at "hp"))
  | refine isiB_rd ?_
  | refine br_T ?_
  | refine br_F ?_
  | refine br_dT (by omega) ?_
  | refine br_dF (by omega) ?_
  | fail "st")
/-! ### counts by caps: the mathematics -/
/-! ### counts by their numbers: the mathematics -/
/-- never rising, the first not above m -/
def Fall : Nat → List Nat → Prop
  | _, [] => True
  | m, x :: xs => x ≤ m ∧ Fall x xs
/-! ### plans by numbers: the program -/
def pl (ns : List Nat) : List V := ns.map fun (n : Nat) => V.int (n : Int)
def il (ns : List Nat) : List Int := ns.map fun (n : Nat) => (n : Int)
theorem pl_il (ns : List Nat) : pl ns = (il ns).map V.int := by unfold pl il; rw [List.map_map]; rfl
theorem pl_len (ns : List Nat) : (pl ns).length = ns.length := by unfold pl; simp
theorem il_sum (ns : List Nat) : (il ns).sum = (ns.sum : Int) := by
  induction ns with
  | nil => rfl
  | cons n ns ih =>
    have : il (n :: ns) = (n : Int) :: il ns := rfl
    rw [this, List.sum_cons, ih, List.sum_cons]; push_cast; rfl
local macro_rules | `(tactic| walk_at "om") => `(tactic| first | decide | omega)
section
variable {P : Program} {w : World} {K : PySem.W.Frag} {mg : Str → Option Value} {base : Heap} {a_HostError : Addr} {a_NoBattle : Addr} {a_NoPlan : Addr} {a_NoMix : Addr} {a_NoStream : Addr} {a_NoSide : Addr} {a_NoAlike : Addr} {a_NoNumber : Addr} {a_TooGreat : Addr} {a_NoEven : Addr} {a_NoText : Addr} {a_NoRow : Addr} {a_NoName : Addr} {a_NoPlace : Addr}
/-! ### whole numbers, plans, parts, mixes: of things of any kind -/
def isW : PyData → Bool
  | .int _ => true
  | _ => false
def fromD (l : Int) : PyData → Bool
  | .int i => decide (l ≤ i)
  | _ => false
def betwD (l m : Int) : PyData → Bool
  | .int i => decide (l ≤ i ∧ i ≤ m)
  | _ => false
theorem dec_and1 {p q : Prop} [Decidable p] [Decidable q] (h : p) : decide (p ∧ q) = decide q := by simp [h]
theorem dec_and0 {p q : Prop} [Decidable p] [Decidable q] (h : ¬ p) : decide (p ∧ q) = false := by simp [h]
@[irreducible] def sp_is_whole : Sp := fun vs H Q _ => ∃ (v : V) (d : PyData), vs = [v] ∧ ShV H v d ∧ Q (.bl (isW d)) H
theorem iswD_rd {H : Hp} {v : V} {d : PyData} {Q : VK} {E : XK} (h : ShV H v d) (q : Q (.bl (isW d)) H) : sp_is_whole [v] H Q E := by unfold sp_is_whole; exact ⟨v, d, rfl, h, q⟩
theorem ok_is_whole {f : Addr} {fd : FuncData} (F : Fun K "is_whole" "is_whole" s_is_whole f fd) (N : Nm mg) : FnOk P w K mg base CX0 1 f fd ["thing"] sp_is_whole := by
  refine F.ok sc_is_whole (fun vs H Q E h => by unfold sp_is_whole at h; obtain ⟨_, _, rfl, _⟩ := h; rfl) (fun cdv A outer s H vs Q E hr h => ?_)
  unfold sp_is_whole at h
  obtain ⟨v, d, rfl, h, q⟩ := h
  refine ⟨_, (pss_one (ps_ret (peAnd (pB (cIsiK (K := K) rfl) N.isinstance_ bt_isinstance (pa_cons (pq 0) (pa_cons (pTy N.int_ bt_int) pa_nil))) (pe_one (peNot (pB (cIsiK (K := K) rfl) N.isinstance_ bt_isinstance (pa_cons (pq 0) (pa_cons (pTy N.bool_ bt_bool) pa_nil)))))))), ?_⟩
  refine isiD_rd' h (.inl rfl) ?_
  cases h
  case int i =>
    refine br_T ?_
    refine isiI_rd ?_
    walk_at "wh"
    exact q
  case bl b =>
    refine br_T ?_
    refine isiB_rd ?_
    walk_at "wh"
    exact q
  all_goals (walk_at "wh"; refine br_F ?_; walk_at "wh"; exact q)
@[irreducible] def sp_is_from : Sp := fun vs H Q _ => ∃ (v : V) (d : PyData) (l : Int), vs = [v, .int l] ∧ ShV H v d ∧ Q (.bl (fromD l d)) H
theorem isfD_rd {H : Hp} {v : V} {d : PyData} {l : Int} {Q : VK} {E : XK} (h : ShV H v d) (q : Q (.bl (fromD l d)) H) : sp_is_from [v, .int l] H Q E := by unfold sp_is_from; exact ⟨v, d, l, rfl, h, q⟩
theorem ok_is_from {f : Addr} {fd : FuncData} (F : Fun K "is_from" "is_from" s_is_from f fd) (N : Nm mg) (D_is_whole : Def P w K mg base CX0 1 "is_whole" ["thing"] sp_is_whole) : FnOk P w K mg base CX0 2 f fd ["thing", "least"] sp_is_from := by
  refine F.ok sc_is_from (fun vs H Q E h => by unfold sp_is_from at h; obtain ⟨_, _, _, rfl, _⟩ := h; rfl) (fun cdv A outer s H vs Q E hr h => ?_)
  unfold sp_is_from at h
  obtain ⟨v, d, l, rfl, h, q⟩ := h
  refine ⟨_, (pss_one (ps_ret (peAnd (pD D_is_whole hr pass0 (pa_cons (pq 0) pa_nil)) (pe_one (peC oLe (pq 1) (pq 0)))))), ?_⟩
  refine iswD_rd h ?_
  cases h
  case int i =>
    refine br_T ?_
    walk_at "wh"
    exact q
  all_goals (walk_at "wh"; refine br_F ?_; walk_at "wh"; exact q)
@[irreducible] def sp_is_between : Sp := fun vs H Q _ => ∃ (v : V) (d : PyData) (l m : Int), vs = [v, .int l, .int m] ∧ ShV H v d ∧ Q (.bl (betwD l m d)) H
theorem isbD_rd {H : Hp} {v : V} {d : PyData} {l m : Int} {Q : VK} {E : XK} (h : ShV H v d) (q : Q (.bl (betwD l m d)) H) : sp_is_between [v, .int l, .int m] H Q E := by unfold sp_is_between; exact ⟨v, d, l, m, rfl, h, q⟩
theorem isb_rd {H : Hp} {i l m : Int} {Q : VK} {E : XK} (q : Q (.bl (decide (l ≤ i ∧ i ≤ m))) H) : sp_is_between [.int i, .int l, .int m] H Q E := isbD_rd (.int i) q
theorem ok_is_between {f : Addr} {fd : FuncData} (F : Fun K "is_between" "is_between" s_is_between f fd) (N : Nm mg) (D_is_from : Def P w K mg base CX0 2 "is_from" ["thing", "least"] sp_is_from) : FnOk P w K mg base CX0 3 f fd ["thing", "least", "most"] sp_is_between := by
  refine F.ok sc_is_between (fun vs H Q E h => by unfold sp_is_between at h; obtain ⟨_, _, _, _, rfl, _⟩ := h; rfl) (fun cdv A outer s H vs Q E hr h => ?_)
  unfold sp_is_between at h
  obtain ⟨v, d, l, m, rfl, h, q⟩ := h
  refine ⟨_, (pss_one (ps_ret (peAnd (pD D_is_from hr pass0 (pa_cons (pq 0) (pa_cons (pq 1) pa_nil))) (pe_one (peC oLe (pq 0) (pq 2)))))), ?_⟩
  refine isfD_rd h ?_
  cases h
  case int i =>
    have q : Q (.bl (decide (l ≤ i ∧ i ≤ m))) H := q
    refine br_dec (fun h => ?_) (fun h => ?_)
    · walk_at "wh"
      rw [dec_and1 h] at q
      exact q
    · walk_at "wh"
      rw [dec_and0 h] at q
      exact q
  all_goals (walk_at "wh"; refine br_F ?_; walk_at "wh"; exact q)
/-! plans -/
def itemsD : PyData → List PyData
  | .list ds => ds
  | _ => []
def intD : PyData → Int
  | .int i => i
  | _ => 0
def sendsD : PyData → Bool
  | .list ds => ds.all (fromD 0)
  | _ => false
theorem fromD_int {l : Int} {d : PyData} (h : fromD l d = true) : ∃ i : Int, d = .int i ∧ l ≤ i := by
  cases d with
  | int i => exact ⟨i, rfl, of_decide_eq_true h⟩
  | _ => simp [fromD] at h
theorem sml_len {ds : List PyData} (h : sml (.list ds) = true) : ds.length ≤ 1000 ∧ ∀ d ∈ ds, sml d = true := by
  simp only [sml, Bool.and_eq_true, decide_eq_true_eq] at h
  exact ⟨h.1, smlAll_mem h.2⟩
theorem smlT_len {ds : List PyData} (h : sml (.tuple ds) = true) : ds.length ≤ 1000 ∧ ∀ d ∈ ds, sml d = true := by
  simp only [sml, Bool.and_eq_true, decide_eq_true_eq] at h
  exact ⟨h.1, smlAll_mem h.2⟩
theorem range_getB {ds : List PyData} (g : PyData → Bool) : (List.range ds.length).map (fun i => V.bl (g (ds.getD i .none))) = (ds.map g).map V.bl := by
  apply List.ext_getElem?
  intro i
  rw [List.getElem?_map, List.getElem?_map, List.getElem?_map]
  by_cases h : i < ds.length
  · rw [List.getElem?_range h, List.getElem?_eq_getElem h]
    simp [h]
  · rw [List.getElem?_eq_none (by simp; omega), List.getElem?_eq_none (by walk_at "om")]
    rfl
theorem all_mapB {ds : List PyData} (g : PyData → Bool) : (ds.map g).all id = ds.all g := by rw [List.all_map]; rfl
@[irreducible] def sp_sends_hosts : Sp := fun vs H Q _ => ∃ (v : V) (d : PyData), vs = [v] ∧ ShV H v d ∧ sml d = true ∧ ∀ H', Same H H' → Q (.bl (sendsD d)) H'
theorem sendsD_rd {H : Hp} {v : V} {d : PyData} {Q : VK} {E : XK} (h : ShV H v d) (hs : sml d = true) (q : ∀ H', Same H H' → Q (.bl (sendsD d)) H') : sp_sends_hosts [v] H Q E := by unfold sp_sends_hosts; exact ⟨v, d, rfl, h, hs, q⟩
theorem ok_sends_hosts {f : Addr} {fd : FuncData} (F : Fun K "sends_hosts" "sends_hosts" s_sends_hosts f fd) (N : Nm mg) (D_is_from : Def P w K mg base CX0 2 "is_from" ["thing", "least"] sp_is_from) : FnOk P w K mg base CX0 3 f fd ["plan"] sp_sends_hosts := by
  refine F.ok sc_sends_hosts (fun vs H Q E h => by unfold sp_sends_hosts at h; obtain ⟨_, _, rfl, _⟩ := h; rfl) (fun cdv A outer s H vs Q E hr h => ?_)
  unfold sp_sends_hosts at h
  obtain ⟨v, d, rfl, h, hs, q⟩ := h
  refine ⟨_, (pss_one (ps_ret (peAnd (pB (cIsiK (K := K) rfl) N.isinstance_ bt_isinstance (pa_cons (pq 0) (pa_cons (pTy N.list_ bt_list) pa_nil))) (pe_one (pB (cAllK (K := K) rfl rfl) N.all_ bt_all (pa_cons (peComp (N := ["sent"]) (ks := [none]) (piSeqK (K := K) rfl (pq 0)) (fun cl C s3 H3 fp => (pg_name (i := 0) nb_0 rfl (by first | exact Or.inl rfl | exact Or.inr rfl))) (fun cl C s3 H3 fp => pts_nil) (fun cl C s3 H3 fp => (pD D_is_from hr pass0 (pa_cons (pq 0) (pa_cons pe_int pa_nil)))) (.skip .nil)) pa_nil)))))), ?_⟩
  refine isiD_rd' h (.inr (.inr (.inl rfl))) ?_
  cases h
  case lst a xs ds e l =>
    have ll := l.len
    obtain ⟨dl, dm⟩ := sml_len hs
    refine br_T ?_
    refine iterL_rd e ?_
    refine comp_I (Wk.list (SqL.of e)) (by rw [sizeLine_eq]; omega) (fun i => .bl (fromD 0 (ds.getD i .none))) (fun _ => true) (fun j σ => ∃ t : Option V, σ = [t]) ⟨none, rfl⟩ ?_ ?_
    · rintro j x σ H1 R S hj s1 hx ⟨t, rfl⟩ k _
      obtain ⟨d, ed, hd⟩ := l.get j x hx
      have eg : ds.getD j .none = d := by rw [List.getD_eq_getElem?_getD, ed]; rfl
      refine br_T ?_
      refine isfD_rd (hd.same s1) ?_
      walk_at "wh"
      rw [← eg]
      exact k rfl _ _ (Same.refl _) ⟨_, rfl⟩
    intro acc H1 f1 s1 h1
    rw [filter_T, ll, range_getB (fromD 0)] at h1
    refine all_rd h1 ?_
    rw [all_mapB]
    walk_at "wh"
    exact q _ s1
  all_goals (walk_at "wh"; refine br_F ?_; walk_at "wh"; exact q _ (Same.refl _))
theorem shl_ints {H : Hp} : ∀ {xs : List V} {ds : List PyData}, ShL H xs ds → (∀ d ∈ ds, fromD 0 d = true) → ∃ ns : List Int, xs = ns.map V.int ∧ ds = ns.map PyData.int ∧ ∀ x ∈ ns, 0 ≤ x
  | _, _, .nil, _ => ⟨[], rfl, rfl, fun _ h => by cases h⟩
  | _, _, .cons (x := x) (d := d) a b, h => by
    obtain ⟨i, rfl, hi⟩ := fromD_int (h d (.head _))
    obtain ⟨ns, e1, e2, e3⟩ := shl_ints b fun y hy => h y (.tail _ hy)
    cases a
    refine ⟨i :: ns, by rw [e1]; rfl, by rw [e2]; rfl, fun y hy => ?_⟩
    rcases List.mem_cons.mp hy with rfl | hy
    · exact hi
    · exact e3 y hy
/-- a plan that sends hosts: a list of whole numbers -/
theorem sends_ints {H : Hp} {v : V} {d : PyData} (h : ShV H v d) (e : sendsD d = true) : ∃ (a : Addr) (ns : List Int), v = .ref a ∧ H a = some (.lst (ns.map V.int)) ∧ d = .list (ns.map PyData.int) ∧ ∀ x ∈ ns, 0 ≤ x := by
  cases h
  case lst a xs ds e1 l =>
    have e : ds.all (fromD 0) = true := e
    rw [List.all_eq_true] at e
    obtain ⟨ns, rfl, rfl, e3⟩ := shl_ints l e
    exact ⟨a, ns, rfl, e1, rfl, e3⟩
  all_goals simp [sendsD] at e
def numsD (d : PyData) : List Int := (itemsD d).map intD
theorem numsD_ints (ns : List Int) : numsD (.list (ns.map PyData.int)) = ns := by
  unfold numsD itemsD
  rw [List.map_map]
  exact (List.map_congr_left fun x _ => rfl).trans (List.map_id _)
def planD (h f : Int) (d : PyData) : Bool := sendsD d && decide (((numsD d).length : Int) = f) && decide ((numsD d).sum = h)
@[irreducible] def sp_is_plan : Sp := fun vs H Q _ => ∃ (h f : Int) (v : V) (d : PyData), vs = [.int h, .int f, v] ∧ ShV H v d ∧ sml d = true ∧ ∀ H', Same H H' → Q (.bl (planD h f d)) H'
theorem planD_rd {H : Hp} {h f : Int} {v : V} {d : PyData} {Q : VK} {E : XK} (hv : ShV H v d) (hs : sml d = true) (q : ∀ H', Same H H' → Q (.bl (planD h f d)) H') : sp_is_plan [.int h, .int f, v] H Q E := by unfold sp_is_plan; exact ⟨h, f, v, d, rfl, hv, hs, q⟩
theorem ok_is_plan {f : Addr} {fd : FuncData} (F : Fun K "is_plan" "is_plan" s_is_plan f fd) (N : Nm mg) (D_sends_hosts : Def P w K mg base CX0 3 "sends_hosts" ["plan"] sp_sends_hosts) : FnOk P w K mg base CX0 4 f fd ["hosts", "fields", "plan"] sp_is_plan := by
  refine F.ok sc_is_plan (fun vs H Q E h => by unfold sp_is_plan at h; obtain ⟨_, _, _, _, rfl, _⟩ := h; rfl) (fun cdv A outer s H vs Q E hr h => ?_)
  unfold sp_is_plan at h
  obtain ⟨h, f, v, d, rfl, hv, hs, q⟩ := h
  have hu := hu40 hr
  refine ⟨_, (pss_one (ps_ret (peAnd (pD D_sends_hosts hr pass0 (pa_cons (pq 2) pa_nil)) (peAnd (peC (oEqK (K := K) rfl (by exact hu)) (pB (cLenK (K := K) rfl) N.len_ bt_len (pa_cons (pq 2) pa_nil)) (pq 1)) (pe_one (peC (oEqK (K := K) rfl (by exact hu)) (pB (cSumK (K := K) rfl rfl) N.sum_ bt_sum (pa_cons (pq 2) pa_nil)) (pq 0))))))), ?_⟩
  refine sendsD_rd hv hs (fun H1 s1 => ?_)
  have q := q _ s1
  cases es : sendsD d
  · walk_at "wh"
    refine br_F ?_
    walk_at "wh"
    unfold planD at q
    rw [es] at q
    exact q
  · obtain ⟨a, ns, rfl, ha, rfl, nn⟩ := sends_ints hv es
    have q : Q (.bl (decide ((ns.length : Int) = f) && decide (ns.sum = h))) H1 := by
      unfold planD at q
      rw [es, numsD_ints, Bool.true_and] at q
      exact q
    refine br_T ?_
    refine lenL_rd (s1 _ _ ha) ?_
    rw [List.length_map]
    refine br_dec (fun h2 => ?_) (fun h2 => ?_)
    · rw [decide_eq_true h2, Bool.true_and] at q
      refine sum_rd (s1 _ _ ha) ?_
      walk_at "wh"
      exact q
    · rw [decide_eq_false h2, Bool.false_and] at q
      walk_at "wh"
      exact q
def partD : PyData → Bool
  | .tuple [a, b] => sendsD a && fromD 1 b
  | _ => false
@[irreducible] def sp_is_part : Sp := fun vs H Q _ => ∃ (v : V) (d : PyData), vs = [v] ∧ ShV H v d ∧ sml d = true ∧ ∀ H', Same H H' → Q (.bl (partD d)) H'
theorem partD_rd {H : Hp} {v : V} {d : PyData} {Q : VK} {E : XK} (h : ShV H v d) (hs : sml d = true) (q : ∀ H', Same H H' → Q (.bl (partD d)) H') : sp_is_part [v] H Q E := by unfold sp_is_part; exact ⟨v, d, rfl, h, hs, q⟩
theorem shl_two {H : Hp} {xs : List V} {ds : List PyData} (l : ShL H xs ds) (e : xs.length = 2) : ∃ x y a b, xs = [x, y] ∧ ds = [a, b] ∧ ShV H x a ∧ ShV H y b := by
  cases l with
  | nil => simp at e
  | cons h1 l =>
    cases l with
    | nil => simp at e
    | cons h2 l =>
      cases l with
      | nil => exact ⟨_, _, _, _, rfl, rfl, h1, h2⟩
      | cons _ _ => simp at e
theorem partD_no {ds : List PyData} (h : ds.length ≠ 2) : partD (.tuple ds) = false := by
  match ds, h with
  | [], _ => rfl
  | [_], _ => rfl
  | [_, _], h => simp at h
  | _ :: _ :: _ :: _, _ => rfl
theorem ok_is_part {f : Addr} {fd : FuncData} (F : Fun K "is_part" "is_part" s_is_part f fd) (N : Nm mg) (D_is_from : Def P w K mg base CX0 2 "is_from" ["thing", "least"] sp_is_from) (D_sends_hosts : Def P w K mg base CX0 3 "sends_hosts" ["plan"] sp_sends_hosts) : FnOk P w K mg base CX0 4 f fd ["part"] sp_is_part := by
  refine F.ok sc_is_part (fun vs H Q E h => by unfold sp_is_part at h; obtain ⟨_, _, rfl, _⟩ := h; rfl) (fun cdv A outer s H vs Q E hr h => ?_)
  unfold sp_is_part at h
  obtain ⟨v, d, rfl, h, hs, q⟩ := h
  have hu := hu40 hr
  refine ⟨_, (pss_one (ps_ret (peAnd (pB (cIsiK (K := K) rfl) N.isinstance_ bt_isinstance (pa_cons (pq 0) (pa_cons (pTy N.tuple_ bt_tuple) pa_nil))) (peAnd (peC (oEqK (K := K) rfl (by exact hu)) (pB (cLenK (K := K) rfl) N.len_ bt_len (pa_cons (pq 0) pa_nil)) pe_int) (peAnd (pD D_sends_hosts hr pass0 (pa_cons (peIxK (K := K) rfl (pq 0) pe_int) pa_nil)) (pe_one (pD D_is_from hr pass0 (pa_cons (peIxK (K := K) rfl (pq 0) pe_int) (pa_cons pe_int pa_nil))))))))), ?_⟩
  refine isiD_rd' h (.inr (.inr (.inr rfl))) ?_
  cases h
  case tup t xs ds e l =>
    have ll := l.len
    obtain ⟨dl, dm⟩ := smlT_len hs
    refine br_T ?_
    refine lenT_rd e ?_
    refine br_dec (fun h2 => ?_) (fun h2 => ?_)
    · obtain ⟨x, y, a, b, rfl, rfl, ha, hb⟩ := shl_two l (by walk_at "om")
      refine ixT_rd (v := x) e rfl ?_
      refine sendsD_rd ha (dm a (by simp)) (fun H1 s1 => ?_)
      have q : Q (.bl (sendsD a && fromD 1 b)) H1 := q _ s1
      cases es : sendsD a
      · rw [es] at q
        refine br_F ?_
        walk_at "wh"
        exact q
      · rw [es, Bool.true_and] at q
        refine br_T ?_
        refine ixT_rd (v := y) (s1 _ _ e) rfl ?_
        refine isfD_rd (hb.same s1) ?_
        walk_at "wh"
        exact q
    · have q := q _ (Same.refl _)
      rw [partD_no (by walk_at "om")] at q
      walk_at "wh"
      exact q
  all_goals (walk_at "wh"; refine br_F ?_; walk_at "wh"; exact q _ (Same.refl _))
/-- a part of a mix -/
theorem part_of {H : Hp} {v : V} {d : PyData} (h : ShV H v d) (e : partD d = true) : ∃ (t l : Addr) (w : Int) (ns : List Int), v = .ref t ∧ H t = some (.tup [.ref l, .int w]) ∧ H l = some (.lst (ns.map V.int)) ∧ d = .tuple [.list (ns.map PyData.int), .int w] ∧ (∀ x ∈ ns, 0 ≤ x) ∧ 1 ≤ w := by
  cases h
  case tup t xs ds e1 l =>
    have l2 : ds.length = 2 := Classical.byContradiction fun z => by rw [partD_no z] at e; cases e
    obtain ⟨x, y, a, b, rfl, rfl, ha, hb⟩ := shl_two l (by rw [l.len]; exact l2)
    have e : (sendsD a && fromD 1 b) = true := e
    rw [Bool.and_eq_true] at e
    obtain ⟨p, ns, rfl, h1, rfl, nn⟩ := sends_ints ha e.1
    obtain ⟨w, rfl, hw⟩ := fromD_int e.2
    cases hb
    exact ⟨t, p, w, ns, rfl, e1, h1, rfl, nn, hw⟩
  all_goals simp [partD] at e
def planOf : PyData → PyData
  | .tuple (a :: _) => a
  | _ => .none
def sizeD (h f : Int) : Bool := decide (0 ≤ h ∧ h ≤ 40) && decide (1 ≤ f ∧ f ≤ 8)
def firstP (ds : List PyData) : List Int := numsD (planOf (ds.getD 0 .none))
def mixD : PyData → Bool
  | .list ds => decide (ds.length ≠ 0) && ds.all partD && sizeD (firstP ds).sum (firstP ds).length && ds.all fun d => planD (firstP ds).sum (firstP ds).length (planOf d)
  | _ => false
-- @@split
@[irreducible] def sp_is_size : Sp := fun vs H Q _ => ∃ i l : Int, vs = [.int i, .int l] ∧ Q (.bl (sizeD i l)) H
theorem sizeD_rd {H : Hp} {i l : Int} {Q : VK} {E : XK} (q : Q (.bl (sizeD i l)) H) : sp_is_size [.int i, .int l] H Q E := by unfold sp_is_size; exact ⟨i, l, rfl, q⟩
theorem ok_is_size {f : Addr} {fd : FuncData} (F : Fun K "is_size" "is_size" s_is_size f fd) (N : Nm mg) {tk_MOST_FIELDS : Tok} (c_MOST_FIELDS : mg "MOST_FIELDS" = some (.int 8 tk_MOST_FIELDS)) {tk_MOST_HOSTS : Tok} (c_MOST_HOSTS : mg "MOST_HOSTS" = some (.int 40 tk_MOST_HOSTS)) (D_is_between : Def P w K mg base CX0 3 "is_between" ["thing", "least", "most"] sp_is_between) : FnOk P w K mg base CX0 4 f fd ["hosts", "fields"] sp_is_size := by
  refine F.ok sc_is_size (fun vs H Q E h => by unfold sp_is_size at h; obtain ⟨_, _, rfl, _⟩ := h; rfl) (fun cdv A outer s H vs Q E hr h => ?_)
  unfold sp_is_size at h
  obtain ⟨i, l, rfl, q⟩ := h
  refine ⟨_, (pss_one (ps_ret (peAnd (pD D_is_between hr pass0 (pa_cons (pq 0) (pa_cons pe_int (pa_cons (pe_glob (v := .int 40) rfl c_MOST_HOSTS ⟨_, rfl⟩) pa_nil)))) (pe_one (pD D_is_between hr pass0 (pa_cons (pq 1) (pa_cons pe_int (pa_cons (pe_glob (v := .int 8) rfl c_MOST_FIELDS ⟨_, rfl⟩) pa_nil)))))))), ?_⟩
  refine isb_rd ?_
  walk_at "wh"
  unfold sizeD at q
  refine br_dec (fun h => ?_) (fun h => ?_)
  · rw [decide_eq_true h, Bool.true_and] at q
    refine isb_rd ?_
    walk_at "wh"
    exact q
  · rw [decide_eq_false h, Bool.false_and] at q
    walk_at "wh"
    exact q
theorem getD_some {ds : List PyData} {i : Nat} {d : PyData} (h : ds[i]? = some d) : ds.getD i .none = d := by rw [List.getD_eq_getElem?_getD, h]; rfl
theorem mixD_list (ds : List PyData) : mixD (.list ds) = (decide (ds.length ≠ 0) && ds.all partD && sizeD (firstP ds).sum (firstP ds).length && ds.all fun d => planD (firstP ds).sum (firstP ds).length (planOf d)) := rfl
@[irreducible] def sp_is_mix : Sp := fun vs H Q _ => ∃ (v : V) (d : PyData), vs = [v] ∧ ShV H v d ∧ sml d = true ∧ ∀ H', Same H H' → Q (.bl (mixD d)) H'
theorem mixD_rd {H : Hp} {v : V} {d : PyData} {Q : VK} {E : XK} (h : ShV H v d) (hs : sml d = true) (q : ∀ H', Same H H' → Q (.bl (mixD d)) H') : sp_is_mix [v] H Q E := by unfold sp_is_mix; exact ⟨v, d, rfl, h, hs, q⟩
theorem ok_is_mix {f : Addr} {fd : FuncData} (F : Fun K "is_mix" "is_mix" s_is_mix f fd) (N : Nm mg) (D_is_part : Def P w K mg base CX0 4 "is_part" ["part"] sp_is_part) (D_is_plan : Def P w K mg base CX0 4 "is_plan" ["hosts", "fields", "plan"] sp_is_plan) (D_is_size : Def P w K mg base CX0 4 "is_size" ["hosts", "fields"] sp_is_size) : FnOk P w K mg base CX0 5 f fd ["mix"] sp_is_mix := by
  refine F.ok sc_is_mix (fun vs H Q E h => by unfold sp_is_mix at h; obtain ⟨_, _, rfl, _⟩ := h; rfl) (fun cdv A outer s H vs Q E hr h => ?_)
  unfold sp_is_mix at h
  obtain ⟨v, d, rfl, h, hs, q⟩ := h
  have hu := hu40 hr
  refine ⟨_, (pss_cons (psIf (ptW (pwOr (pt_not (ptV (pB (cIsiK (K := K) rfl) N.isinstance_ bt_isinstance (pa_cons (pq 0) (pa_cons (pTy N.list_ bt_list) pa_nil))))) (pwOr (ptC (oEqK (K := K) rfl (by exact hu)) (pB (cLenK (K := K) rfl) N.len_ bt_len (pa_cons (pq 0) pa_nil)) pe_int) (pw_or1 (pt_not (ptV (pB (cAllK (K := K) rfl rfl) N.all_ bt_all (pa_cons (peComp (N := ["part"]) (ks := [none]) (piSeqK (K := K) rfl (pq 0)) (fun cl C s3 H3 fp => (pg_name (i := 0) nb_2 rfl (by first | exact Or.inl rfl | exact Or.inr rfl))) (fun cl C s3 H3 fp => pts_nil) (fun cl C s3 H3 fp => (pD D_is_part hr pass0 (pa_cons (pq 0) pa_nil))) (.skip .nil)) pa_nil)))))))) (pss_one (ps_ret pe_bl)) pss_nil)
      (pss_cons (psS (i := 1) sc_is_mix.nd (pB (cSumK (K := K) rfl rfl) N.sum_ bt_sum (pa_cons (peIxK (K := K) rfl (peIxK (K := K) rfl (pq 0) pe_int) pe_int) pa_nil)))
      (pss_cons (psS (i := 2) sc_is_mix.nd (pB (cLenK (K := K) rfl) N.len_ bt_len (pa_cons (peIxK (K := K) rfl (peIxK (K := K) rfl (pq 0) pe_int) pe_int) pa_nil)))
      (pss_one (ps_ret (peAnd (pD D_is_size hr pass0 (pa_cons (pq 1) (pa_cons (pq 2) pa_nil))) (pe_one (pB (cAllK (K := K) rfl rfl) N.all_ bt_all (pa_cons (peComp (N := ["plan", "weight", "hosts", "fields"]) (ks := [none, none, some 1, some 2]) (piSeqK (K := K) rfl (pq 0)) (fun cl C s3 H3 fp => (pgAnyK (K := K) (n := 2) rfl rfl (pgsCons (pg_name (i := 0) nb_3 rfl (by first | exact Or.inl rfl | exact Or.inr rfl)) (pgsCons (pg_name (i := 1) nb_3 rfl (by first | exact Or.inl rfl | exact Or.inr rfl)) pgsNil)))) (fun cl C s3 H3 fp => pts_nil) (fun cl C s3 H3 fp => (pD D_is_plan hr pass0 (pa_cons (pq 2) (pa_cons (pq 3) (pa_cons (pq 0) pa_nil))))) (.skip (.skip (.take rfl rfl (by first | exact Or.inl rfl | exact Or.inr rfl) (.take rfl rfl (by first | exact Or.inl rfl | exact Or.inr rfl) .nil))))) pa_nil))))))))), ?_⟩
  refine isiD_rd' h (.inr (.inr (.inl rfl))) ?_
  cases h
  case lst a xs ds e l =>
    have ll := l.len
    obtain ⟨dl, dm⟩ := sml_len hs
    refine br_not (br_T ?_)
    refine lenL_rd e ?_
    rw [ll]
    refine br_dec (fun h0 => ?_) (fun h0 => ?_)
    · walk_at "wh"
      refine br_T ?_
      walk_at "wh"
      have q := q _ (Same.refl _)
      rw [mixD_list, decide_eq_false (by walk_at "om")] at q
      exact q
    have d0 : decide (ds.length ≠ 0) = true := decide_eq_true (by walk_at "om")
    refine iterL_rd e ?_
    refine comp_I (Wk.list (SqL.of e)) (by rw [sizeLine_eq]; omega) (fun i => .bl (partD (ds.getD i .none))) (fun _ => true) (fun j σ => ∃ t : Option V, σ = [t]) ⟨none, rfl⟩ ?_ ?_
    · rintro j x σ H1 R S hj s1 hx ⟨t, rfl⟩ k _
      obtain ⟨d, ed, hd⟩ := l.get j x hx
      refine br_T ?_
      refine partD_rd (hd.same s1) (dm d (List.mem_of_getElem? ed)) (fun H2 s2 => ?_)
      walk_at "wh"
      rw [← getD_some ed]
      exact k rfl _ _ s2 ⟨_, rfl⟩
    intro acc H1 f1 s1 h1
    rw [filter_T, ll, range_getB partD] at h1
    refine all_rd h1 ?_
    rw [all_mapB]
    cases ea : ds.all partD
    · walk_at "wh"
      refine br_not (br_F ?_)
      walk_at "wh"
      have q := q _ s1
      rw [mixD_list, d0, ea] at q
      exact q
    have ea' : ∀ d ∈ ds, partD d = true := List.all_eq_true.mp ea
    refine br_not (br_T ?_)
    obtain ⟨x0, ex0⟩ : ∃ x, xs[0]? = some x := ⟨_, List.getElem?_eq_getElem (by walk_at "om")⟩
    obtain ⟨dd0, ed0, hd0⟩ := l.get 0 x0 ex0
    obtain ⟨t, p, w, ns, rfl, ht, hp, rfl, nn, hw⟩ := part_of hd0 (ea' dd0 (List.mem_of_getElem? ed0))
    have fp : firstP ds = ns := by unfold firstP; rw [getD_some ed0]; exact numsD_ints ns
    have at0 : atI xs 0 = some (.ref t) := atI_nat (j := 0) ex0
    refine ixL_rd (v := .ref t) (s1 _ _ e) at0 ?_
    refine ixT_rd (v := .ref p) (s1 _ _ ht) rfl ?_
    refine sum_rd (s1 _ _ hp) ?_
    refine ixL_rd (v := .ref t) (s1 _ _ e) at0 ?_
    refine ixT_rd (v := .ref p) (s1 _ _ ht) rfl ?_
    refine lenL_rd (s1 _ _ hp) ?_
    rw [List.length_map]
    refine sizeD_rd ?_
    have qq : ∀ H', Same H1 H' → Q (.bl (sizeD ns.sum ns.length && ds.all fun d => planD ns.sum ns.length (planOf d))) H' := fun H' s' => by
      have q := q _ (s1.trans s')
      rw [mixD_list, d0, ea, fp, Bool.true_and, Bool.true_and] at q
      exact q
    cases es : sizeD ns.sum ns.length
    · have qq := qq _ (Same.refl _)
      rw [es] at qq
      refine br_F ?_
      walk_at "wh"
      exact qq
    refine br_T ?_
    refine iterL_rd (s1 _ _ e) ?_
    refine comp_I (Wk.list (SqL.of (s1 _ _ e))) (by rw [sizeLine_eq]; omega) (fun i => .bl (planD ns.sum ns.length (planOf (ds.getD i .none)))) (fun _ => true) (fun j σ => ∃ t u : Option V, σ = [t, u, some (.int ns.sum), some (.int ns.length)]) ⟨none, none, rfl⟩ ?_ ?_
    · rintro j x σ H2 R S hj s2 hx ⟨t', u', rfl⟩ k _
      obtain ⟨d, ed, hd⟩ := l.get j x hx
      have hd := hd.same (s1.trans s2)
      have hm := dm d (List.mem_of_getElem? ed)
      obtain ⟨t, p, w, ns', rfl, ht, hp, rfl, nn', hw'⟩ := part_of hd (ea' d (List.mem_of_getElem? ed))
      have sp : sml (.list (ns'.map PyData.int)) = true := (smlT_len hm).2 _ (by simp)
      have hv : ShV H2 (.ref p) (.list (ns'.map PyData.int)) := .lst hp (ShL.idx (by rw [List.length_map, List.length_map]) fun i x d h1 h2 => by
        rw [List.getElem?_map] at h1 h2
        obtain ⟨n, en, rfl⟩ := Option.map_eq_some_iff.mp h1
        rw [en] at h2
        cases h2
        exact .int n)
      refine unpT_rd ht ?_
      refine br_T ?_
      refine planD_rd hv sp (fun H3 s3 => ?_)
      walk_at "wh"
      have e1 := getD_some ed
      rw [e1] at k
      exact k rfl _ _ s3 ⟨_, _, rfl⟩
    intro acc2 H2 f2 s2 h2
    rw [filter_T, ll, range_getB fun d => planD ns.sum ns.length (planOf d)] at h2
    refine all_rd h2 ?_
    rw [all_mapB]
    walk_at "wh"
    have qq := qq _ s2
    rw [es, Bool.true_and] at qq
    exact qq
  all_goals (walk_at "wh"; refine br_not (br_F ?_); walk_at "wh"; refine br_T ?_; walk_at "wh"; exact q _ (Same.refl _))
/-! weights -/
def wtD : PyData → Int
  | .tuple [_, b] => intD b
  | _ => 0
/-- what a mix is: a list of parts -/
theorem mix_of {H : Hp} {v : V} {d : PyData} (h : ShV H v d) (e : mixD d = true) : ∃ (a : Addr) (xs : List V) (ds : List PyData), v = .ref a ∧ d = .list ds ∧ H a = some (.lst xs) ∧ ShL H xs ds ∧ ds.length ≠ 0 ∧ ∀ d ∈ ds, partD d = true := by
  cases h
  case lst a xs ds e1 l =>
    unfold mixD at e
    simp only [Bool.and_eq_true, decide_eq_true_eq] at e
    exact ⟨a, xs, ds, rfl, rfl, e1, l, e.1.1.1, List.all_eq_true.mp e.1.1.2⟩
  all_goals simp [mixD] at e
theorem numsD_plan (ns : List Int) (w : Int) : numsD (planOf (.tuple [.list (ns.map PyData.int), .int w])) = ns := numsD_ints ns
-- @@split
/-! ### mixes -/
structure MixAt (H : Hp) (m : Addr) (ts : List (Addr × Addr)) (ms : List (List Int × Int)) : Prop where
  out : H m = some (.lst (ts.map fun t => V.ref t.1))
  len : ts.length = ms.length
  part : ∀ (i : Nat) t x, ts[i]? = some t → ms[i]? = some x → H t.1 = some (.tup [.ref t.2, .int x.2]) ∧ H t.2 = some (.lst (x.1.map V.int))
theorem MixAt.same {H H' : Hp} {m : Addr} {ts : List (Addr × Addr)} {ms : List (List Int × Int)} (M : MixAt H m ts ms) (s : Same H H') : MixAt H' m ts ms := ⟨s _ _ M.out, M.len, fun i t x h1 h2 => ⟨s _ _ (M.part i t x h1 h2).1, s _ _ (M.part i t x h1 h2).2⟩⟩
theorem MixAt.get {H : Hp} {m : Addr} {ts : List (Addr × Addr)} {ms : List (List Int × Int)} (M : MixAt H m ts ms) {i : Nat} (hi : i < ms.length) : ∃ t x, ts[i]? = some t ∧ ms[i]? = some x ∧ H t.1 = some (.tup [.ref t.2, .int x.2]) ∧ H t.2 = some (.lst (x.1.map V.int)) :=
  ⟨_, _, List.getElem?_eq_getElem (by have := M.len; omega), List.getElem?_eq_getElem hi, M.part i _ _ (List.getElem?_eq_getElem (by have := M.len; omega)) (List.getElem?_eq_getElem hi)⟩
theorem MixAt.elt {H : Hp} {m : Addr} {ts : List (Addr × Addr)} {ms : List (List Int × Int)} (M : MixAt H m ts ms) {i : Nat} {v : V} (e : (ts.map fun t => V.ref t.1)[i]? = some v) : ∃ t x, v = .ref t.1 ∧ ts[i]? = some t ∧ ms[i]? = some x ∧ H t.1 = some (.tup [.ref t.2, .int x.2]) ∧ H t.2 = some (.lst (x.1.map V.int)) := by
  rw [List.getElem?_map] at e
  obtain ⟨t, et, rfl⟩ := Option.map_eq_some_iff.mp e
  obtain ⟨t', x, h1, h2, h3⟩ := M.get (i := i) (by have := (List.getElem?_eq_some_iff.mp et).1; have := M.len; omega)
  rw [et] at h1
  cases h1
  exact ⟨t, x, rfl, et, h2, h3⟩
theorem MixAt.ix {H : Hp} {m : Addr} {ts : List (Addr × Addr)} {ms : List (List Int × Int)} (M : MixAt H m ts ms) {k : Nat} {x : List Int × Int} (e : ms[k]? = some x) : ∃ t, ts[k]? = some t ∧ atI (ts.map fun t => V.ref t.1) (k : Int) = some (.ref t.1) ∧ H t.1 = some (.tup [.ref t.2, .int x.2]) ∧ H t.2 = some (.lst (x.1.map V.int)) := by
  obtain ⟨t, x', h1, h2, h3⟩ := M.get (i := k) ((List.getElem?_eq_some_iff.mp e).1)
  rw [e] at h2
  cases h2
  exact ⟨t, h1, atI_nat (by rw [List.getElem?_map, h1]; rfl), h3⟩
/-! ### a heap without one thing, the new part of a heap -/
def rm (p : Addr) (H : Hp) : Hp := fun b => if b = p then none else H b
theorem rm_at {p b : Addr} {H : Hp} {o : HO} (n : b ≠ p) (h : H b = some o) : rm p H b = some o := by unfold rm; rw [if_neg n]; exact h
theorem rm_of {p b : Addr} {H : Hp} {o : HO} (h : rm p H b = some o) : b ≠ p ∧ H b = some o := by
  unfold rm at h
  by_cases e : b = p
  · rw [if_pos e] at h; cases h
  · rw [if_neg e] at h; exact ⟨e, h⟩
theorem rm_same (p : Addr) (H : Hp) : Same (rm p H) H := fun b o h => (rm_of h).2
theorem Same.rm {p : Addr} {H H' : Hp} (s : Same H H') : Same (rm p H) (G.rm p H') := fun b o h => rm_at (rm_of h).1 (s _ _ (rm_of h).2)
theorem Chg.rm {p : Addr} {H H' : Hp} (s : Chg p H H') : Same (rm p H) (G.rm p H') := fun b o h => rm_at (rm_of h).1 (s _ _ (rm_of h).1 (rm_of h).2)
theorem Chg.free' {a l : Addr} {H H' : Hp} (x : Chg a H H') (h : H' l = none) (n : l ≠ a) : H l = none := by
  cases e : H l with
  | none => rfl
  | some o =>
    have := x l o n e
    rw [h] at this
    cases this
/-! ### rings -/
def rotL (k : Nat) (xs : List Int) : List Int := xs.drop k ++ xs.take k
theorem rotL_len (k : Nat) (xs : List Int) : (rotL k xs).length = xs.length := by unfold rotL; rw [List.length_append, List.length_drop, List.length_take]; omega
@[irreducible] def sp_ring_of : Sp := fun vs H Q _ => ∃ (a : Addr) (xs : List Int), vs = [.ref a] ∧ H a = some (.lst (xs.map V.int)) ∧ xs.length ≤ 1000 ∧ ∀ b ps H', FreshL H H' b ps xs.length (fun i => .lst ((rotL i xs).map V.int)) → Q (.ref b) H'
theorem ring_of_rd {H : Hp} {a : Addr} {xs : List Int} {Q : VK} {E : XK} (ha : H a = some (.lst (xs.map V.int))) (hl : xs.length ≤ 1000) (q : ∀ b ps H', FreshL H H' b ps xs.length (fun i => .lst ((rotL i xs).map V.int)) → Q (.ref b) H') : sp_ring_of [.ref a] H Q E := by
  unfold sp_ring_of; exact ⟨a, xs, rfl, ha, hl, q⟩
theorem ok_ring_of {f : Addr} {fd : FuncData} (F : Fun K "ring_of" "ring_of" s_ring_of f fd) (N : Nm mg) : FnOk P w K mg base CX0 1 f fd ["plan"] sp_ring_of := by
  refine F.ok sc_ring_of (fun vs H Q E h => by unfold sp_ring_of at h; obtain ⟨_, _, rfl, _⟩ := h; rfl) (fun cdv A outer s H vs Q E hr h => ?_)
  unfold sp_ring_of at h
  obtain ⟨a, xs, rfl, ha, hl, q⟩ := h
  refine ⟨_, (pss_one (ps_ret (peComp (N := ["start", "plan"]) (ks := [none, some 0]) (piRng1 N.range_ (pa_cons (pB (cLenK (K := K) rfl) N.len_ bt_len (pa_cons (pq 0) pa_nil)) pa_nil)) (fun cl C s3 H3 fp => (pg_name (i := 0) nb_4 rfl (by first | exact Or.inl rfl | exact Or.inr rfl))) (fun cl C s3 H3 fp => pts_nil) (fun cl C s3 H3 fp => (pe_op oAdd (pe_slice (slK (K := K) rfl) (pq 1) (poSome (pq 0)) po_none) (pe_slice (slK (K := K) rfl) (pq 1) po_none (poSome (pq 0))))) (.skip (.take rfl rfl (by first | exact Or.inl rfl | exact Or.inr rfl) .nil))))), ?_⟩
  walk_at "st"
  rw [List.length_map]
  refine range_rd (by decide) (by decide) (by walk_at "om") (by walk_at "om") ?_
  rw [show ((xs.length : Int) - 0).toNat = xs.length by walk_at "om"]
  refine comp_F Wk.range (by rw [sizeLine_eq]; omega) (fun i => .lst ((rotL i xs).map V.int)) (fun i σ => ∃ t : Option V, σ = [t, some (.ref a)]) ⟨none, rfl⟩ ?_ ?_
  · rintro i x σ H1 R S hi s1 rfl ⟨t, rfl⟩ k
    walk_at "st"
    refine sl_rd (SqL.of (s1 _ _ ha)) (fun p2 H2 f2 s2 h2 => ?_)
    rw [cut_drop (by walk_at "om"), show (0 + (i : Int)).toNat = i by walk_at "om", ← List.map_drop] at h2
    refine sl_rd (SqL.of (s2 _ _ (s1 _ _ ha))) (fun p3 H3 f3 s3 h3 => ?_)
    rw [cut_takeV (by walk_at "om"), show (0 + (i : Int)).toNat = i by walk_at "om", ← List.map_take] at h3
    refine cat_rd (s3 _ _ h2) h3 (by rw [sizeLine_eq, List.length_map, List.length_map, List.length_drop, List.length_take]; omega) (fun p4 H4 f4 s4 h4 => ?_)
    rw [← List.map_append] at h4
    walk_at "wh"
    exact k _ _ _ ((s2.trans s3).free f4) ((s2.trans s3).trans s4) h4 ⟨_, rfl⟩
  · intro acc ps H1 F1
    walk_at "wh"
    exact q _ _ _ F1
/-! ### rings of mixes -/
def fallB (ns : List Int) : Bool := (List.range (ns.length - 1)).all fun i => decide (ns.getD (i + 1) 0 ≤ ns.getD i 0)
@[irreducible] def sp_never_rises : Sp := fun vs H Q _ => ∃ (a : Addr) (ns : List Int), vs = [.ref a] ∧ H a = some (.lst (ns.map V.int)) ∧ ns.length ≤ 1000 ∧ ∀ H', Same H H' → Q (.bl (fallB ns)) H'
theorem neverB_rd {H : Hp} {a : Addr} {ns : List Int} {Q : VK} {E : XK} (h : H a = some (.lst (ns.map V.int))) (hl : ns.length ≤ 1000) (q : ∀ H', Same H H' → Q (.bl (fallB ns)) H') : sp_never_rises [.ref a] H Q E := by unfold sp_never_rises; exact ⟨a, ns, rfl, h, hl, q⟩
theorem ok_never_rises {f : Addr} {fd : FuncData} (F : Fun K "never_rises" "never_rises" s_never_rises f fd) (N : Nm mg) : FnOk P w K mg base CX0 1 f fd ["plan"] sp_never_rises := by
  refine F.ok sc_never_rises (fun vs H Q E h => by unfold sp_never_rises at h; obtain ⟨_, _, rfl, _⟩ := h; rfl) (fun cdv A outer s H vs Q E hr h => ?_)
  unfold sp_never_rises at h
  obtain ⟨a, ns, rfl, ha, hl, q⟩ := h
  have hu := hu40 hr
  refine ⟨_, (pss_one (ps_ret (pB (cAllK (K := K) rfl rfl) N.all_ bt_all (pa_cons (peComp (N := ["place", "plan"]) (ks := [none, some 0]) (piRng1 N.range_ (pa_cons (pe_op oSub (pB (cLenK (K := K) rfl) N.len_ bt_len (pa_cons (pq 0) pa_nil)) pe_int) pa_nil)) (fun cl C s3 H3 fp => (pg_name (i := 0) nb_1 rfl (by first | exact Or.inl rfl | exact Or.inr rfl))) (fun cl C s3 H3 fp => pts_nil) (fun cl C s3 H3 fp => (peC oGe (peIxK (K := K) rfl (pq 1) (pq 0)) (peIxK (K := K) rfl (pq 1) (pe_op oAdd (pq 0) pe_int)))) (.skip (.take rfl rfl (by first | exact Or.inl rfl | exact Or.inr rfl) .nil))) pa_nil)))), ?_⟩
  refine lenL_rd ha ?_
  rw [List.length_map]
  refine range_rd (by decide) (by decide) (by walk_at "om") (by walk_at "om") ?_
  rw [show ((ns.length : Int) - 1 - 0).toNat = ns.length - 1 by walk_at "om"]
  refine comp_I (n := ns.length - 1) Wk.range (by rw [sizeLine_eq]; omega) (fun i => .bl (decide (ns.getD (i + 1) 0 ≤ ns.getD i 0))) (fun _ => true) (fun j σ => ∃ t : Option V, σ = [t, some (.ref a)]) ⟨none, rfl⟩ ?_ ?_
  · rintro j x σ H1 R S hj s1 rfl ⟨t, rfl⟩ k _
    have hj : j < ns.length - 1 := hj
    obtain ⟨y, ey⟩ : ∃ y, ns[j]? = some y := ⟨_, List.getElem?_eq_getElem (by walk_at "om")⟩
    obtain ⟨z, ez⟩ : ∃ y, ns[j + 1]? = some y := ⟨_, List.getElem?_eq_getElem (by walk_at "om")⟩
    have e1 : ns.getD j 0 = y := by rw [List.getD_eq_getElem?_getD, ey]; rfl
    have e2 : ns.getD (j + 1) 0 = z := by rw [List.getD_eq_getElem?_getD, ez]; rfl
    rw [e1, e2] at k
    refine br_T ?_
    refine ixL_rd (v := .int y) (s1 _ _ ha) (by rw [show (0 : Int) + (j : Int) = ((j : Nat) : Int) by walk_at "om"]; exact atI_nat (by rw [List.getElem?_map, ey]; rfl)) ?_
    refine ixL_rd (v := .int z) (s1 _ _ ha) (by rw [show (0 : Int) + (j : Int) + 1 = ((j + 1 : Nat) : Int) by walk_at "om"]; exact atI_nat (by rw [List.getElem?_map, ez]; rfl)) ?_
    walk_at "wh"
    exact k rfl _ _ (Same.refl _) ⟨_, rfl⟩
  intro acc H1 f1 s1 h1
  rw [filter_T] at h1
  have h1 : H1 acc = some (.lst (((List.range (ns.length - 1)).map fun i => decide (ns.getD (i + 1) 0 ≤ ns.getD i 0)).map V.bl)) := by rw [h1, List.map_map]; rfl
  refine all_rd h1 ?_
  walk_at "wh"
  have q := q _ s1
  unfold fallB at q
  rw [List.all_map]
  exact q
/-- all turnings of a mix's plans, with their weights -/
def ringOne (x : List Int × Int) : List (List Int × Int) := (List.range x.1.length).map fun i => (rotL i x.1, x.2)
def ringsM (ms : List (List Int × Int)) : List (List Int × Int) := (ms.map ringOne).flatten
theorem ringsM_snoc (ms : List (List Int × Int)) (x : List Int × Int) : ringsM (ms ++ [x]) = ringsM ms ++ ringOne x := by unfold ringsM; rw [List.map_append, List.flatten_append]; simp
theorem ringsM_take {ms : List (List Int × Int)} {i : Nat} {x : List Int × Int} (h : ms[i]? = some x) : ringsM (ms.take (i + 1)) = ringsM (ms.take i) ++ ringOne x := by
  rw [List.take_succ, h]
  exact ringsM_snoc _ _
def msD (d : PyData) : List (List Int × Int) := (itemsD d).map fun x => (numsD (planOf x), wtD x)
def goodR (d : PyData) : Bool := mixD d && (itemsD d).all fun x => fallB (numsD (planOf x))
theorem zip_fst {qs ps : List Addr} (h : qs.length ≤ ps.length) : (qs.zip ps).map (fun t => V.ref t.1) = qs.map V.ref := by
  have : (qs.zip ps).map Prod.fst = qs := List.map_fst_zip h
  show (qs.zip ps).map (V.ref ∘ Prod.fst) = _
  rw [← List.map_map, this]
theorem zip_snd {qs ps : List Addr} (h : ps.length ≤ qs.length) : (qs.zip ps).map (fun t => t.2) = ps := List.map_snd_zip h
theorem MixAt.cat {H : Hp} {r : Addr} {ts zs : List (Addr × Addr)} {ms ns : List (List Int × Int)} (h : H r = some (.lst ((ts.map fun t => V.ref t.1) ++ zs.map fun t => V.ref t.1))) (l1 : ts.length = ms.length) (l2 : zs.length = ns.length)
    (old : ∀ (i : Nat) t x, ts[i]? = some t → ms[i]? = some x → H t.1 = some (.tup [.ref t.2, .int x.2]) ∧ H t.2 = some (.lst (x.1.map V.int))) (new : ∀ (i : Nat) t x, zs[i]? = some t → ns[i]? = some x → H t.1 = some (.tup [.ref t.2, .int x.2]) ∧ H t.2 = some (.lst (x.1.map V.int))) : MixAt H r (ts ++ zs) (ms ++ ns) :=
  ⟨by rw [h, List.map_append], by rw [List.length_append, List.length_append, l1, l2], fun i t x g1 g2 => by
    by_cases hi : i < ts.length
    · rw [List.getElem?_append_left hi] at g1
      rw [List.getElem?_append_left (by walk_at "om")] at g2
      exact old i t x g1 g2
    · rw [List.getElem?_append_right (by walk_at "om")] at g1
      rw [List.getElem?_append_right (by walk_at "om"), ← l1] at g2
      exact new _ t x g1 g2⟩
theorem rings_len : ∀ {ms : List (List Int × Int)}, (∀ x ∈ ms, x.1.length ≤ 1000) → (ringsM ms).length ≤ ms.length * 1000
  | [], _ => by simp [ringsM]
  | x :: ms, h => by
    have ih := rings_len (ms := ms) fun y hy => h y (.tail _ hy)
    have : ringsM (x :: ms) = ringOne x ++ ringsM ms := by unfold ringsM; rw [List.map_cons, List.flatten_cons]
    rw [this, List.length_append, List.length_cons, Nat.succ_mul]
    have h0 := h x (.head _)
    have : (ringOne x).length = x.1.length := by unfold ringOne; rw [List.length_map, List.length_range]
    omega
@[irreducible] def sp_ring_mix (a_NoMix : Addr) : Sp := fun vs H Q E => ∃ (v : V) (d : PyData), vs = [v] ∧ ShV H v d ∧ sml d = true ∧ (goodR d = true → ∀ r ts H', H r = none → Same H H' → MixAt H' r ts (ringsM (msD d)) → (∀ t ∈ ts, H t.2 = none) → (ts.map (·.2)).Nodup → Q (.ref r) H') ∧ (goodR d = false → ∀ H', Same H H' → E (.ref a_NoMix) none H')
theorem ring_mix_rd {a_NoMix : Addr} {H : Hp} {v : V} {d : PyData} {Q : VK} {E : XK} (h : ShV H v d) (hs : sml d = true) (q : goodR d = true → ∀ r ts H', H r = none → Same H H' → MixAt H' r ts (ringsM (msD d)) → (∀ t ∈ ts, H t.2 = none) → (ts.map (·.2)).Nodup → Q (.ref r) H') (qe : goodR d = false → ∀ H', Same H H' → E (.ref a_NoMix) none H') : sp_ring_mix a_NoMix [v] H Q E := by unfold sp_ring_mix; exact ⟨v, d, rfl, h, hs, q, qe⟩
set_option maxHeartbeats 0 in
theorem ok_ring_mix {f : Addr} {fd : FuncData} (F : Fun K "ring_mix" "ring_mix" s_ring_mix f fd) (N : Nm mg) (D_is_mix : Def P w K mg base CX0 5 "is_mix" ["mix"] sp_is_mix) (D_never_rises : Def P w K mg base CX0 1 "never_rises" ["plan"] sp_never_rises) (D_ring_of : Def P w K mg base CX0 1 "ring_of" ["plan"] sp_ring_of) (Z : Cz K mg base a_HostError a_NoBattle a_NoPlan a_NoMix a_NoStream a_NoSide a_NoAlike a_NoNumber a_TooGreat a_NoEven a_NoText a_NoRow a_NoName a_NoPlace) : FnOk P w K mg base (CXR P w) 6 f fd ["mix"] (sp_ring_mix a_NoMix) := by
  refine F.okR sc_ring_mix (fun vs H Q E h => by unfold sp_ring_mix at h; obtain ⟨_, _, rfl, _⟩ := h; rfl) (fun cdv A outer s H vs Q E hr hX h => ?_)
  unfold sp_ring_mix at h
  obtain ⟨v, d, rfl, h, hs, q, qe⟩ := h
  refine ⟨_, (pss_cons (psIf (ptW (pwOr (pt_not (ptV (pD D_is_mix hr pass0 (pa_cons (pq 0) pa_nil)))) (pw_or1 (pt_not (ptV (pB (cAllK (K := K) rfl rfl) N.all_ bt_all (pa_cons (peComp (N := ["plan", "weight"]) (ks := [none, none]) (piSeqK (K := K) rfl (pq 0)) (fun cl C s3 H3 fp => (pgAnyK (K := K) (n := 2) rfl rfl (pgsCons (pg_name (i := 0) nb_5 rfl (by first | exact Or.inl rfl | exact Or.inr rfl)) (pgsCons (pg_name (i := 1) nb_5 rfl (by first | exact Or.inl rfl | exact Or.inr rfl)) pgsNil)))) (fun cl C s3 H3 fp => pts_nil) (fun cl C s3 H3 fp => (pD D_never_rises hr pass0 (pa_cons (pq 0) pa_nil))) (.skip (.skip .nil))) pa_nil))))))) (pss_one (psRaise Z.o_NoMix PySem.F.excBase_ValueError rfl hX (pa_cons pe_str pa_nil))) pss_nil)
      (pss_cons (psS (i := 1) sc_ring_mix.nd (peLst pa_nil))
      (pss_cons (PS.nox' (psFor PassesOwn.never rfl (piSeqK (K := K) rfl (pq 0)) (pgAnyK (K := K) (n := 2) rfl rfl (pgsCons (pg_name (i := 2) sc_ring_mix.nd rfl (by first | exact Or.inl rfl | exact Or.inr rfl)) (pgsCons (pg_name (i := 3) sc_ring_mix.nd rfl (by first | exact Or.inl rfl | exact Or.inr rfl)) pgsNil))) (pss_one (ps_expr (peM_extend (K := K) rfl (pq 1) (pa_cons (peComp (N := ["turning", "weight"]) (ks := [none, some 3]) (piSeqK (K := K) rfl (pD D_ring_of hr pass0 (pa_cons (pq 2) pa_nil))) (fun cl C s3 H3 fp => (pg_name (i := 0) nb_6 rfl (by first | exact Or.inl rfl | exact Or.inr rfl))) (fun cl C s3 H3 fp => pts_nil) (fun cl C s3 H3 fp => (peTup (pa_cons (pq 0) (pa_cons (pq 1) pa_nil)))) (.skip (.take rfl rfl (by first | exact Or.inl rfl | exact Or.inr rfl) .nil))) pa_nil))))))
      (pss_one (ps_ret (pq 1)))))), ?_⟩
  refine mixD_rd h hs (fun H1 s1 => ?_)
  cases em : mixD d
  · have eg : goodR d = false := by unfold goodR; rw [em]; rfl
    refine br_not (br_F ?_)
    refine br_T ?_
    walk_at "wh"
    exact ⟨by decide, qe eg _ s1⟩
  obtain ⟨a, xs, ds, rfl, rfl, e, l, h0, hp⟩ := mix_of (h.same s1) em
  have ll := l.len
  obtain ⟨dl, dm⟩ := sml_len hs
  have pt : ∀ (i : Nat) x, xs[i]? = some x → ∃ (d : PyData) (t p : Addr) (w : Int) (ns : List Int), ds[i]? = some d ∧ x = .ref t ∧ H1 t = some (.tup [.ref p, .int w]) ∧ H1 p = some (.lst (ns.map V.int)) ∧ d = .tuple [.list (ns.map PyData.int), .int w] ∧ ns.length ≤ 1000 := fun i x ex => by
    obtain ⟨d, ed, hd⟩ := l.get i x ex
    have hm := dm d (List.mem_of_getElem? ed)
    obtain ⟨t, p, w, ns, rfl, ht, hp', rfl, nn, hw⟩ := part_of hd (hp d (List.mem_of_getElem? ed))
    have := (sml_len ((smlT_len hm).2 (.list (ns.map PyData.int)) (by simp))).1
    rw [List.length_map] at this
    exact ⟨_, t, p, w, ns, ed, rfl, ht, hp', rfl, this⟩
  refine br_not (br_T ?_)
  refine iterL_rd e ?_
  refine comp_I (Wk.list (SqL.of e)) (by rw [sizeLine_eq]; omega) (fun i => .bl (fallB (numsD (planOf (ds.getD i .none))))) (fun _ => true) (fun j σ => ∃ t u : Option V, σ = [t, u]) ⟨none, none, rfl⟩ ?_ ?_
  · rintro j x σ H2 R S hj s2 hx ⟨t', u', rfl⟩ k _
    obtain ⟨d, t, p, w', ns, ed, rfl, ht, hp', rfl, nl⟩ := pt j x hx
    have e1 := getD_some ed
    rw [e1, numsD_plan] at k
    refine unpT_rd (s2 _ _ ht) ?_
    refine br_T ?_
    refine neverB_rd (s2 _ _ hp') nl (fun H3 s3 => ?_)
    walk_at "wh"
    exact k rfl _ _ s3 ⟨_, _, rfl⟩
  intro acc H2 f2 s2 h2
  rw [filter_T, ll, range_getB fun d => fallB (numsD (planOf d))] at h2
  have s12 := s1.trans s2
  refine all_rd h2 ?_
  rw [all_mapB]
  cases ef : ds.all fun d => fallB (numsD (planOf d))
  · have eg : goodR (.list ds) = false := by unfold goodR; rw [em, Bool.true_and]; exact ef
    refine br_not (br_F ?_)
    walk_at "wh"
    exact ⟨by decide, qe eg _ s12⟩
  have eg : goodR (.list ds) = true := by unfold goodR; rw [em, Bool.true_and]; exact ef
  have q := q eg
  obtain ⟨ms, ems⟩ : ∃ ms, msD (.list ds) = ms := ⟨_, rfl⟩
  rw [ems] at q
  have msg : ∀ {i : Nat} {ns : List Int} {w : Int}, ds[i]? = some (.tuple [.list (ns.map PyData.int), .int w]) → ms[i]? = some (ns, w) := fun {i ns w} ed => by
    rw [← ems]
    show (ds.map fun x => (numsD (planOf x), wtD x))[i]? = _
    rw [List.getElem?_map, ed]
    show some (numsD _, _) = _
    rw [numsD_plan]
    rfl
  have ml : ms.length = ds.length := by rw [← ems]; exact List.length_map ..
  have mlen : ∀ x ∈ ms, x.1.length ≤ 1000 := fun x hx => by
    rw [← ems] at hx
    obtain ⟨d, hd, rfl⟩ := List.mem_map.mp hx
    have hd : d ∈ ds := hd
    obtain ⟨i, ei⟩ := List.getElem?_of_mem hd
    obtain ⟨x', ex'⟩ : ∃ x, xs[i]? = some x := ⟨_, List.getElem?_eq_getElem (by have := (List.getElem?_eq_some_iff.mp ei).1; omega)⟩
    obtain ⟨d', t, p, w', ns, ed, _, _, _, ed2, nl⟩ := pt i x' ex'
    rw [ei] at ed
    cases ed
    subst ed2
    show (numsD _).length ≤ 1000
    rw [numsD_plan]
    exact nl
  refine br_not (br_T ?_)
  refine newL_rd (fun r H3 f3 s3 h3 => ?_)
  have s13 := s12.trans s3
  have fr : H r = none := s12.free f3
  have e3 := (s2.trans s3) _ _ e
  refine iterL_rd e3 ?_
  refine loop_list (xs := xs) (fun i σ I => ∃ (t u : Option V) (ts : List (Addr × Addr)), σ = [some (.ref a), some (.ref r), t, u] ∧ Chg r H3 I ∧ MixAt I r ts (ringsM (ms.take i)) ∧ (∀ t ∈ ts, H3 t.1 = none ∧ H3 t.2 = none) ∧ (ts.map (·.2)).Nodup) ?_ ?_ ?_ ?_
  · refine ⟨_, _, [], rfl, Chg.refl _ _, ⟨by rw [h3]; rfl, rfl, fun i t x g => by simp at g⟩, by simp, by simp⟩
  · rintro i σ I _ ⟨_, _, _, _, c, _⟩
    exact SqL.of (c _ _ (ne_of_none (s2 _ _ e) f3) e3)
  · rintro i x σ I hi ⟨t0, u0, ts, rfl, c, M, nw1, nd⟩
    obtain ⟨d, t, p, w', ns, ed, rfl, ht, hp', rfl, nl⟩ := pt i x hi
    have em' := msg ed
    have tr : t ≠ r := ne_of_none (s2 _ _ ht) f3
    have pr : p ≠ r := ne_of_none (s2 _ _ hp') f3
    have ht' := c _ _ tr ((s2.trans s3) _ _ ht)
    have hp'' := c _ _ pr ((s2.trans s3) _ _ hp')
    refine unpT_rd ht' ?_
    refine lst_is M.out ?_
    refine ring_of_rd hp'' nl (fun b ps I1 F1 => ?_)
    refine iterL_rd F1.out ?_
    have pl := F1.len
    refine comp_F (Wk.list (SqL.of F1.out)) (by rw [List.length_map, sizeLine_eq]; omega) (fun i => .tup [.ref (ps.getD i 0), .int w']) (fun j σ => ∃ t : Option V, σ = [t, some (.int w')]) ⟨none, rfl⟩ ?_ ?_
    · rintro j y σ I2 R S hj s2' hy ⟨t', rfl⟩ k
      rw [List.getElem?_map] at hy
      obtain ⟨pj, epj, rfl⟩ := Option.map_eq_some_iff.mp hy
      have eg' : ps.getD j 0 = pj := by rw [List.getD_eq_getElem?_getD, epj]; rfl
      rw [eg'] at k
      refine br_T ?_
      refine newT_rd (fun q1 I3 f3' s3' h3' => ?_)
      walk_at "wh"
      exact k _ _ _ f3' s3' h3' ⟨_, rfl⟩
    intro acc' qs I2 F2
    rw [List.length_map, pl] at F2
    have s02 := F1.same.trans F2.same
    have M2 := M.same s02
    have ql := F2.len
    walk_at "wh"
    have rl := rings_len (ms := ms.take i) fun x hx => mlen x (List.mem_of_mem_take hx)
    have tk : (ms.take i).length ≤ 1000 := by rw [List.length_take]; omega
    have tk2 : (ms.take i).length * 1000 ≤ 1000 * 1000 := Nat.mul_le_mul_right _ tk
    have hlen := M2.len
    refine ext_rd M2.out F2.out (by rw [List.length_map, List.length_map, ql, hlen, sizeLine_eq]; omega) (fun I3 c3 h3' => ?_)
    walk_at "wh"
    have rI : ∃ o, I r = some o := ⟨_, M.out⟩
    obtain ⟨orr, eorr⟩ := rI
    have rps : r ∉ ps := fun hm => by have := F1.free hm; rw [eorr] at this; cases this
    have rqs : r ∉ qs := fun hm => by have := F2.free hm; rw [F1.same _ _ eorr] at this; cases this
    have zg : ∀ {j : Nat} {t : Addr × Addr}, (qs.zip ps)[j]? = some t → qs[j]? = some t.1 ∧ ps[j]? = some t.2 := fun {j t} e => by
      rw [List.getElem?_zip_eq_some] at e
      exact e
    have zl : (qs.zip ps).length = ns.length := by rw [List.length_zip, ql, pl, Nat.min_self]
    have new3 : ∀ {p : Addr}, p ≠ r → I p = none → H3 p = none := fun {p} n f => Chg.free' c f n
    refine ⟨_, _, ts ++ qs.zip ps, rfl, fun b o n e' => c3 _ _ n (s02 _ _ (c _ _ n e')), ?_, ?_, ?_⟩
    · rw [ringsM_take em']
      refine MixAt.cat (by rw [h3']; congr 3; exact (zip_fst (by walk_at "om")).symm) M.len (by rw [zl]; unfold ringOne; rw [List.length_map, List.length_range]) (fun j t y g1 g2 => ?_) (fun j t y g1 g2 => ?_)
      · have w := M2.part j t y g1 g2
        have hm := List.mem_of_getElem? g1
        have n1 : t.1 ≠ r := fun z => by have := (nw1 t hm).1; rw [z, h3] at this; cases this
        have n2 : t.2 ≠ r := fun z => by have := (nw1 t hm).2; rw [z, h3] at this; cases this
        exact ⟨c3 _ _ n1 w.1, c3 _ _ n2 w.2⟩
      · obtain ⟨g3, g4⟩ := zg g1
        have jn : j < ns.length := by have := (List.getElem?_eq_some_iff.mp g3).1; omega
        unfold ringOne at g2
        rw [List.getElem?_map, List.getElem?_range jn] at g2
        cases g2
        have hq := F2.row j _ g3
        have hpj := F1.row j _ g4
        have eg' : ps.getD j 0 = t.2 := by rw [List.getD_eq_getElem?_getD, g4]; rfl
        rw [eg'] at hq
        exact ⟨c3 _ _ (fun z => rqs (z ▸ List.mem_of_getElem? g3)) hq.2, c3 _ _ (fun z => rps (z ▸ List.mem_of_getElem? g4)) (F2.same _ _ hpj.2)⟩
    · intro t ht
      rcases List.mem_append.mp ht with ht | ht
      · exact nw1 t ht
      · obtain ⟨j, ej⟩ := List.getElem?_of_mem ht
        obtain ⟨g3, g4⟩ := zg ej
        have f1 := (F2.row j _ g3).1
        have f2 := (F1.row j _ g4).1
        exact ⟨new3 (fun z => rqs (z ▸ List.mem_of_getElem? g3)) (F1.same.free f1), new3 (fun z => rps (z ▸ List.mem_of_getElem? g4)) f2⟩
    · rw [List.map_append, show (qs.zip ps).map (·.2) = ps from zip_snd (by walk_at "om")]
      refine List.nodup_append.mpr ⟨nd, F1.nd, fun y hy z hz e' => ?_⟩
      subst e'
      obtain ⟨t, ht, rfl⟩ := List.mem_map.mp hy
      obtain ⟨j, ej⟩ := List.getElem?_of_mem ht
      obtain ⟨x', ex'⟩ : ∃ x', (ringsM (ms.take i))[j]? = some x' := ⟨_, List.getElem?_eq_getElem (by have := (List.getElem?_eq_some_iff.mp ej).1; have := M.len; omega)⟩
      have := (M.part j t x' ej ex').2
      rw [F1.free hz] at this
      cases this
  · rintro σ I ⟨t0, u0, ts, rfl, c, M, nw1, nd⟩
    walk_at "wh"
    rw [ll, ← ml, List.take_length] at M
    exact q r ts I fr (fun b o e' => c _ _ (ne_of_none e' fr) (s13 _ _ e')) M (fun t ht => s13.free (nw1 t ht).2) nd
-- @@split
@[irreducible] def sp__law_whole : Sp := fun vs H Q _ => ∃ i : Int, vs = [.int i] ∧ Q (.bl true) H
theorem lwhole_rd {H : Hp} {i : Int} {Q : VK} {E : XK} (q : Q (.bl true) H) : sp__law_whole [.int i] H Q E := by unfold sp__law_whole; exact ⟨i, rfl, q⟩
theorem ok__law_whole {f : Addr} {fd : FuncData} (F : Fun K "_law_whole" "_law_whole" s__law_whole f fd) (N : Nm mg) : FnOk P w K mg base CX0 1 f fd ["_law_found"] sp__law_whole := by
  refine F.ok sc__law_whole (fun vs H Q E h => by unfold sp__law_whole at h; obtain ⟨n, rfl, _⟩ := h; rfl) (fun cdv A outer s H vs Q E hr h => ?_)
  unfold sp__law_whole at h
  obtain ⟨i, rfl, q⟩ := h
  refine ⟨_, (pss_one (ps_ret (peAnd (pB (cIsiK (K := K) rfl) N.isinstance_ bt_isinstance (pa_cons (pq 0) (pa_cons (pTy N.int_ bt_int) pa_nil))) (pe_one (peNot (pB (cIsiK (K := K) rfl) N.isinstance_ bt_isinstance (pa_cons (pq 0) (pa_cons (pTy N.bool_ bt_bool) pa_nil)))))))), ?_⟩
  repeat walk_at "st"
  walk_at "wh"
  exact q
@[irreducible] def sp__law_numbers : Sp := fun vs H Q _ => ∃ (a b : Addr) (xs ys : List Int), vs = [.ref a, .ref b] ∧ H a = some (.lst (xs.map V.int)) ∧ H b = some (.lst (ys.map V.int)) ∧ xs.length ≤ 1000 ∧ ∀ H', Same H H' → Q (.bl (decide (xs = ys))) H'
theorem numbers_rd {H : Hp} {a b : Addr} {xs ys : List Int} {Q : VK} {E : XK} (ha : H a = some (.lst (xs.map V.int))) (hb : H b = some (.lst (ys.map V.int))) (hl : xs.length ≤ 1000) (q : ∀ H', Same H H' → Q (.bl (decide (xs = ys))) H') : sp__law_numbers [.ref a, .ref b] H Q E := by
  unfold sp__law_numbers; exact ⟨a, b, xs, ys, rfl, ha, hb, hl, q⟩
theorem ok__law_numbers {f : Addr} {fd : FuncData} (F : Fun K "_law_numbers" "_law_numbers" s__law_numbers f fd) (N : Nm mg) (D__law_whole : Def P w K mg base CX0 1 "_law_whole" ["_law_found"] sp__law_whole) : FnOk P w K mg base CX0 2 f fd ["_law_found", "_law_due"] sp__law_numbers := by
  refine F.ok sc__law_numbers (fun vs H Q E h => by unfold sp__law_numbers at h; obtain ⟨_, _, _, _, rfl, _⟩ := h; rfl) (fun cdv A outer s H vs Q E hr h => ?_)
  unfold sp__law_numbers at h
  obtain ⟨a, b, xs, ys, rfl, ha, hb, hl, q⟩ := h
  have hu := hu40 hr
  refine ⟨_, (pss_cons (psIf (ptW (pwOr (pt_not (ptV (pB (cIsiK (K := K) rfl) N.isinstance_ bt_isinstance (pa_cons (pq 0) (pa_cons (pTy N.list_ bt_list) pa_nil))))) (pw_or1 (ptC (oNeK (K := K) rfl (by exact hu)) (pq 0) (pq 1))))) (pss_one (ps_ret pe_bl)) pss_nil)
      (pss_one (ps_ret (peC (oEqK (K := K) rfl (by exact hu)) (peComp (N := ["_law_number"]) (ks := [none]) (piSeqK (K := K) rfl (pq 0)) (fun cl C s3 H3 fp => (pg_name (i := 0) nb_7 rfl (by first | exact Or.inl rfl | exact Or.inr rfl))) (fun cl C s3 H3 fp => (pts_one (pt_not (ptV (pD D__law_whole hr pass0 (pa_cons (pq 0) pa_nil)))))) (fun cl C s3 H3 fp => (pq 0)) (.skip .nil)) (peLst pa_nil))))), ?_⟩
  walk_at "st"
  refine br_not (br_T ?_)
  refine eqO_rd (EqR.intL (SqL.of ha) (SqL.of hb)) ?_
  refine br_not (br_dec (fun h => ?_) (fun h => ?_))
  · rw [decide_eq_true h] at q
    refine iterL_rd ha ?_
    refine comp_list (SqL.of ha) (by rw [List.length_map, sizeLine_eq]; omega) (fun j ys σ H5 => ∃ t : Option V, σ = [t] ∧ ys = []) ?_ ?_ ?_
    · intro H5 s5
      exact ⟨none, rfl, rfl⟩
    · rintro j m x ys σ H5 acc hx ct ⟨t, rfl, rfl⟩
      rw [List.getElem?_map] at hx
      obtain ⟨i, e1, rfl⟩ := Option.map_eq_some_iff.mp hx
      refine lwhole_rd ?_
      refine br_F ?_
      refine ct.skip (Same.refl _) ⟨_, rfl, rfl⟩
    · rintro acc ys σ H5 f5 s5 h5 ⟨t, rfl, rfl⟩
      refine newL_rd (fun p6 H6 f6 s6 h6 => ?_)
      refine eqO_rd (EqR.nilR (s6 _ _ h5) h6) ?_
      walk_at "wh"
      exact q _ (s5.trans s6)
  · rw [decide_eq_false h] at q
    walk_at "wh"
    exact q _ (Same.refl _)
def Off (b : Addr) (ts : List (Addr × Addr)) : Prop := ∀ t ∈ ts, t.1 ≠ b ∧ t.2 ≠ b
theorem MixAt.chg {H H' : Hp} {m b : Addr} {ts : List (Addr × Addr)} {ms : List (List Int × Int)} (M : MixAt H m ts ms) (c : Chg b H H') (n : m ≠ b) (o : Off b ts) : MixAt H' m ts ms :=
  ⟨c _ _ n M.out, M.len, fun i t x h1 h2 => ⟨c _ _ (o t (List.mem_of_getElem? h1)).1 (M.part i t x h1 h2).1, c _ _ (o t (List.mem_of_getElem? h1)).2 (M.part i t x h1 h2).2⟩⟩
theorem MixAt.off {H : Hp} {m b : Addr} {ts : List (Addr × Addr)} {ms : List (List Int × Int)} (M : MixAt H m ts ms) (f : H b = none) : m ≠ b ∧ Off b ts := by
  refine ⟨ne_of_none M.out f, fun t ht => ?_⟩
  obtain ⟨i, hi⟩ := List.getElem?_of_mem ht
  obtain ⟨t', x, h1, h2, h3, h4⟩ := M.get (i := i) (by have := (List.getElem?_eq_some_iff.mp hi).1; have := M.len; omega)
  rw [hi] at h1
  cases h1
  exact ⟨ne_of_none h3 f, ne_of_none h4 f⟩
theorem MixAt.push {H H' : Hp} {m p q : Addr} {ts : List (Addr × Addr)} {ms : List (List Int × Int)} {x : List Int × Int} (M : MixAt H m ts ms) (c : Chg m H H') (o : Off m ts) (h' : H' m = some (.lst ((ts.map fun t => V.ref t.1) ++ [.ref p]))) (hp : H' p = some (.tup [.ref q, .int x.2])) (hq : H' q = some (.lst (x.1.map V.int))) : MixAt H' m (ts ++ [(p, q)]) (ms ++ [x]) := by
  refine ⟨by rw [h', List.map_append]; rfl, by rw [List.length_append, List.length_append, M.len]; rfl, fun i t y h1 h2 => ?_⟩
  by_cases hi : i < ts.length
  · rw [List.getElem?_append_left hi] at h1
    rw [List.getElem?_append_left (by have := M.len; omega)] at h2
    have := o t (List.mem_of_getElem? h1)
    exact ⟨c _ _ this.1 (M.part i t y h1 h2).1, c _ _ this.2 (M.part i t y h1 h2).2⟩
  · rw [List.getElem?_append_right (by walk_at "om")] at h1
    rw [List.getElem?_append_right (by have := M.len; omega)] at h2
    have e0 : i - ts.length = 0 := by
      have := (List.getElem?_eq_some_iff.mp h1).1
      simp at this; omega
    rw [e0] at h1
    rw [show i - ms.length = 0 by have := M.len; omega] at h2
    cases h1
    cases h2
    exact ⟨hp, hq⟩
theorem Off.push {b p q : Addr} {ts : List (Addr × Addr)} (o : Off b ts) (n1 : p ≠ b) (n2 : q ≠ b) : Off b (ts ++ [(p, q)]) := fun t ht => by
  rcases List.mem_append.mp ht with h | h
  · exact o t h
  · have : t = (p, q) := by simpa using h
    subst this
    exact ⟨n1, n2⟩
/-! ### what was told, held against what is due -/
theorem list_ne {H : Hp} {a b : Addr} {xs ys : List V} (ha : H a = some (.tup xs)) (hb : H b = some (.lst ys)) : a ≠ b := fun e => by rw [e, hb] at ha; cases ha
def Keep (ts : List (Addr × Addr)) (H H' : Hp) : Prop := ∀ b o, (∀ t ∈ ts, t.2 ≠ b) → H b = some o → H' b = some o
def Spoilt (H : Hp) (ts : List (Addr × Addr)) (R : List (List Int × Int)) : Prop := ∀ (i : Nat) t x, ts[i]? = some t → R[i]? = some x → H t.2 = some (.lst ((x.1 ++ [3]).map V.int))
theorem rings_get {ms : List (List Int × Int)} (h : ∀ x ∈ ms, x.1.length ≤ 8) : ∀ x ∈ ringsM ms, x.1.length ≤ 8 := fun x hx => by
  unfold ringsM at hx
  obtain ⟨l, hl, hx⟩ := List.mem_flatten.mp hx
  obtain ⟨y, hy, rfl⟩ := List.mem_map.mp hl
  unfold ringOne at hx
  obtain ⟨i, _, rfl⟩ := List.mem_map.mp hx
  show (rotL i y.1).length ≤ 8
  rw [rotL_len]
  exact h y hy
@[irreducible] def sp__law_right : Sp := fun vs H Q _ => ∃ (r m : Addr) (ts tm : List (Addr × Addr)) (ms : List (List Int × Int)), vs = [.ref r, .ref m] ∧ MixAt H r ts (ringsM ms) ∧ MixAt H m tm ms ∧ (ts.map (·.2)).Nodup ∧ (∀ t ∈ ts, ∀ u ∈ tm, t.2 ≠ u.2) ∧ (1 ≤ ms.length ∧ ms.length ≤ 10) ∧ (∀ x ∈ ms, x.1.length ≤ 8) ∧ (∀ t ∈ ts, t.2 ≠ m) ∧ ∀ H', Keep ts H H' → Spoilt H' ts (ringsM ms) → Q (.bl true) H'
theorem right_rd {H : Hp} {r m : Addr} {ts tm : List (Addr × Addr)} {ms : List (List Int × Int)} {Q : VK} {E : XK} (R : MixAt H r ts (ringsM ms)) (M : MixAt H m tm ms) (nd : (ts.map (·.2)).Nodup) (dj : ∀ t ∈ ts, ∀ u ∈ tm, t.2 ≠ u.2) (h1 : 1 ≤ ms.length) (h2 : ms.length ≤ 10) (h3 : ∀ x ∈ ms, x.1.length ≤ 8) (h4 : ∀ t ∈ ts, t.2 ≠ m) (q : ∀ H', Keep ts H H' → Spoilt H' ts (ringsM ms) → Q (.bl true) H') : sp__law_right [.ref r, .ref m] H Q E := by
  unfold sp__law_right; exact ⟨r, m, ts, tm, ms, rfl, R, M, nd, dj, ⟨h1, h2⟩, h3, h4, q⟩
set_option maxHeartbeats 0 in
theorem ok__law_right {f : Addr} {fd : FuncData} (F : Fun K "_law_right" "_law_right" s__law_right f fd) (N : Nm mg) (D__law_numbers : Def P w K mg base CX0 2 "_law_numbers" ["_law_found", "_law_due"] sp__law_numbers) (D__law_whole : Def P w K mg base CX0 1 "_law_whole" ["_law_found"] sp__law_whole) : FnOk P w K mg base CX0 3 f fd ["_law_found", "_law_mix_here"] sp__law_right := by
  refine F.ok sc__law_right (fun vs H Q E h => by unfold sp__law_right at h; obtain ⟨_, _, _, _, _, rfl, _⟩ := h; rfl) (fun cdv A outer s H vs Q E hr h => ?_)
  unfold sp__law_right at h
  obtain ⟨r, m, ts, tm, ms, rfl, R, M, nd, dj, ⟨m1, m2⟩, m3, m4, q⟩ := h
  have hu := hu40 hr
  have tl := M.len
  have rl := rings_len (ms := ms) fun x hx => by have := m3 x hx; omega
  have rlb : (ringsM ms).length ≤ 10000 := by
    have : ms.length * 1000 ≤ 10 * 1000 := Nat.mul_le_mul_right _ m2
    omega
  refine ⟨_, (pss_cons (psS (i := 2) sc__law_right.nd (peLst pa_nil))
      (pss_cons (psFor PassesOwn.never rfl (piSeqK (K := K) rfl (pq 1)) (pgAnyK (K := K) (n := 2) rfl rfl (pgsCons (pg_name (i := 3) sc__law_right.nd rfl (by first | exact Or.inl rfl | exact Or.inr rfl)) (pgsCons (pg_name (i := 4) sc__law_right.nd rfl (by first | exact Or.inl rfl | exact Or.inr rfl)) pgsNil))) (pss_one (psFor PassesOwn.never rfl (piRng1 N.range_ (pa_cons (pB (cLenK (K := K) rfl) N.len_ bt_len (pa_cons (pq 3) pa_nil)) pa_nil)) (pg_name (i := 5) sc__law_right.nd rfl (by first | exact Or.inl rfl | exact Or.inr rfl)) (pss_one (ps_expr (peM_append (pq 2) (pa_cons (peTup (pa_cons (pe_op oAdd (pe_slice (slK (K := K) rfl) (pq 3) (poSome (pq 5)) po_none) (pe_slice (slK (K := K) rfl) (pq 3) po_none (poSome (pq 5)))) (pa_cons (pq 4) pa_nil))) pa_nil)))))))
      (pss_cons (psIf (ptW (pwOr (pt_not (ptV (pB (cIsiK (K := K) rfl) N.isinstance_ bt_isinstance (pa_cons (pq 0) (pa_cons (pTy N.list_ bt_list) pa_nil))))) (pw_or1 (ptC (oNeK (K := K) rfl (by exact hu)) (pB (cLenK (K := K) rfl) N.len_ bt_len (pa_cons (pq 0) pa_nil)) (pB (cLenK (K := K) rfl) N.len_ bt_len (pa_cons (pq 2) pa_nil)))))) (pss_one (ps_ret pe_bl)) pss_nil)
      (pss_cons (psFor PassesOwn.never rfl (piZipK (K := K) rfl N.zip_ (pa_cons (pq 0) (pa_cons (pq 2) pa_nil))) (pgAnyK (K := K) (n := 2) rfl rfl (pgsCons (pg_name (i := 6) sc__law_right.nd rfl (by first | exact Or.inl rfl | exact Or.inr rfl)) (pgsCons (pg_name (i := 7) sc__law_right.nd rfl (by first | exact Or.inl rfl | exact Or.inr rfl)) pgsNil))) (pss_cons (psIf (ptW (pwOr (pt_not (ptV (pB (cIsiK (K := K) rfl) N.isinstance_ bt_isinstance (pa_cons (pq 6) (pa_cons (pTy N.tuple_ bt_tuple) pa_nil))))) (pwOr (ptC (oNeK (K := K) rfl (by exact hu)) (pB (cLenK (K := K) rfl) N.len_ bt_len (pa_cons (pq 6) pa_nil)) pe_int) (pw_or1 (pt_not (ptV (pD D__law_numbers hr pass0 (pa_cons (peIxK (K := K) rfl (pq 6) pe_int) (pa_cons (peIxK (K := K) rfl (pq 7) pe_int) pa_nil))))))))) (pss_one (ps_ret pe_bl)) pss_nil)
      (pss_cons (psIf (ptW (pwOr (pt_not (ptV (pD D__law_whole hr pass0 (pa_cons (peIxK (K := K) rfl (pq 6) pe_int) pa_nil)))) (pw_or1 (ptC (oNeK (K := K) rfl (by exact hu)) (peIxK (K := K) rfl (pq 6) pe_int) (peIxK (K := K) rfl (pq 7) pe_int))))) (pss_one (ps_ret pe_bl)) pss_nil)
      (pss_one (ps_expr (peM_append (peIxK (K := K) rfl (pq 6) pe_int) (pa_cons pe_int pa_nil)))))))
      (pss_one (ps_ret pe_bl)))))), ?_⟩
  refine newL_rd (fun du H1 f1 s1 h1 => ?_)
  have M1 := M.same s1
  refine iterL_rd M1.out ?_
  have dum : m ≠ du := ne_of_none M.out f1
  have offM := M.off f1
  refine loop_list (xs := tm.map fun t => V.ref t.1) (fun i σ I => ∃ (x3 x4 x5 x6 x7 : Option V) (td : List (Addr × Addr)), σ = [some (.ref r), some (.ref m), some (.ref du), x3, x4, x5, x6, x7] ∧ Chg du H1 I ∧ MixAt I du td (ringsM (ms.take i)) ∧ (∀ t ∈ td, H t.2 = none) ∧ Off du td) ?_ ?_ ?_ ?_
  · exact ⟨_, _, _, _, _, [], rfl, Chg.refl _ _, ⟨by rw [h1]; rfl, rfl, fun i t x g => by simp at g⟩, by simp, fun t ht => by cases ht⟩
  · rintro i σ I _ ⟨_, _, _, _, _, _, _, c, _⟩
    exact SqL.of (c _ _ dum M1.out)
  · rintro i v σ I hi ⟨x3, x4, x5, x6, x7, td, rfl, c, D, dn, od⟩
    have MI := M1.chg c dum offM.2
    obtain ⟨t, x, rfl, e1, e2, e3, e4⟩ := MI.elt hi
    have xl := m3 x (List.mem_of_getElem? e2)
    have il : i < ms.length := (List.getElem?_eq_some_iff.mp e2).1
    have n2 : t.2 ≠ du := (offM.2 t (List.mem_of_getElem? e1)).2
    refine unpT_rd e3 ?_
    refine lenL_rd e4 ?_
    rw [List.length_map]
    refine range_rd (by decide) (by decide) (by walk_at "om") (by walk_at "om") ?_
    rw [show ((x.1.length : Int) - 0).toNat = x.1.length by walk_at "om"]
    refine loop_range (fun k σ J => ∃ (x5 x6 x7 : Option V) (td : List (Addr × Addr)), σ = [some (.ref r), some (.ref m), some (.ref du), some (.ref t.2), some (.int x.2), x5, x6, x7] ∧ Chg du H1 J ∧ MixAt J du td (ringsM (ms.take i) ++ (List.range k).map fun j => (rotL j x.1, x.2)) ∧ (∀ t ∈ td, H t.2 = none) ∧ Off du td) ?_ ?_ ?_
    · exact ⟨_, _, _, td, rfl, c, by rw [List.range_zero, List.map_nil, List.append_nil]; exact D, dn, od⟩
    · rintro k σ J hk ⟨x5', x6', x7', td', rfl, c', D', dn', od'⟩
      have hk : k < x.1.length := hk
      have e4' : J t.2 = some (.lst (x.1.map V.int)) := c' _ _ n2 ((M1.part i t x e1 e2).2)
      refine lst_is D'.out ?_
      refine sl_rd (SqL.of e4') (fun p1 J1 g1 r1 k1 => ?_)
      rw [cut_drop (by walk_at "om"), show (0 + (k : Int)).toNat = k by walk_at "om", ← List.map_drop] at k1
      refine sl_rd (SqL.of (r1 _ _ e4')) (fun p2 J2 g2 r2 k2 => ?_)
      rw [cut_takeV (by walk_at "om"), show (0 + (k : Int)).toNat = k by walk_at "om", ← List.map_take] at k2
      refine cat_rd (r2 _ _ k1) k2 (by rw [List.length_map, List.length_map, List.length_drop, List.length_take, sizeLine_eq]; omega) (fun p3 J3 g3 r3 k3 => ?_)
      have k3 : J3 p3 = some (.lst ((rotL k x.1).map V.int)) := by rw [k3, ← List.map_append]; rfl
      have r13 := (r1.trans r2).trans r3
      refine newT_rd (fun p4 J4 g4 r4 k4 => ?_)
      have r14 := r13.trans r4
      have D4 := D'.same r14
      have dl := D4.len
      have dle : (ringsM (ms.take i) ++ (List.range k).map fun j => (rotL j x.1, x.2)).length ≤ 20000 := by
        rw [List.length_append, List.length_map, List.length_range]
        have := rings_len (ms := ms.take i) fun y hy => by have := m3 y (List.mem_of_mem_take hy); omega
        have t1 : (ms.take i).length ≤ 10 := by rw [List.length_take]; omega
        have : (ms.take i).length * 1000 ≤ 10 * 1000 := Nat.mul_le_mul_right _ t1
        omega
      refine app_rd D4.out (by rw [List.length_map, dl, sizeLine_eq]; omega) (fun J5 c5 k5 => ?_)
      walk_at "wh"
      have q3 : p3 ≠ du := Ne.symm (ne_of_none ((r1.trans r2) _ _ D'.out) g3)
      have q4 : p4 ≠ du := Ne.symm (ne_of_none (r13 _ _ D'.out) g4)
      have f3 : H p3 = none := s1.free (Chg.free' c' ((r1.trans r2).free g3) q3)
      refine ⟨_, _, _, td' ++ [(p4, p3)], rfl, fun b o n e => c5 _ _ n (r14 _ _ (c' _ _ n e)), ?_, ?_, od'.push q4 q3⟩
      · have := D4.push (p := p4) (q := p3) (x := (rotL k x.1, x.2)) c5 od' k5 (c5 _ _ q4 k4) (c5 _ _ q3 (r4 _ _ k3))
        rw [List.append_assoc] at this
        rw [List.range_succ, List.map_append]
        exact this
      · intro t' ht'
        rcases List.mem_append.mp ht' with h | h
        · exact dn' t' h
        · rw [List.mem_singleton.mp h]; exact f3
    · rintro σ J ⟨x5', x6', x7', td', rfl, c', D', dn', od'⟩
      walk_at "wh"
      exact ⟨_, _, _, _, _, td', rfl, c', by rw [ringsM_take e2]; exact D', dn', od'⟩
  · rintro σ I ⟨x3, x4, x5, x6, x7, td, rfl, c, D, dn, od⟩
    rw [List.length_map, tl, List.take_length] at D
    have rdu : r ≠ du := ne_of_none R.out f1
    have RI := (R.same s1).chg c rdu (R.off f1).2
    have dl := D.len
    have tsl := RI.len
    refine isiL_rd RI.out ?_
    refine br_not (br_T ?_)
    refine lenL_rd RI.out ?_
    rw [List.length_map, tsl]
    refine lenL_rd D.out ?_
    rw [List.length_map, dl]
    refine br_not (br_dT rfl ?_)
    have tup_ne : ∀ {j : Nat} {t : Addr × Addr} {b : Addr} {xs : List V}, ts[j]? = some t → I b = some (.tup xs) → t.2 ≠ b := fun {j t b xs} e hb => by
      obtain ⟨y, ey⟩ : ∃ y, (ringsM ms)[j]? = some y := ⟨_, List.getElem?_eq_getElem (by have := (List.getElem?_eq_some_iff.mp e).1; omega)⟩
      exact Ne.symm (list_ne hb (RI.part j t y e ey).2)
    have two_ne : ∀ {j k : Nat} {t u : Addr × Addr}, ts[j]? = some t → ts[k]? = some u → j ≠ k → t.2 ≠ u.2 := fun {j k t u} e1 e2 n z => by
      have P := List.pairwise_iff_getElem.mp nd
      have l1 := (List.getElem?_eq_some_iff.mp e1)
      have l2 := (List.getElem?_eq_some_iff.mp e2)
      obtain ⟨a1, a2⟩ := l1
      obtain ⟨b1, b2⟩ := l2
      rcases Nat.lt_or_gt_of_ne n with lt | gt
      · refine P j k (by rw [List.length_map]; exact a1) (by rw [List.length_map]; exact b1) lt ?_
        rw [List.getElem_map, List.getElem_map, a2, b2]; exact z
      · refine P k j (by rw [List.length_map]; exact b1) (by rw [List.length_map]; exact a1) gt ?_
        rw [List.getElem_map, List.getElem_map, a2, b2]; exact z.symm
    have tsome : ∀ {j : Nat} {t : Addr × Addr}, ts[j]? = some t → ∃ o, H t.2 = some o := fun {j t} e => by
      obtain ⟨y, ey⟩ : ∃ y, (ringsM ms)[j]? = some y := ⟨_, List.getElem?_eq_getElem (by have := (List.getElem?_eq_some_iff.mp e).1; omega)⟩
      exact ⟨_, (R.part j t y e ey).2⟩
    have new_ne : ∀ {j : Nat} {t : Addr × Addr} {b : Addr}, ts[j]? = some t → H b = none → t.2 ≠ b := fun {j t b} e f z => by
      obtain ⟨o, eo⟩ := tsome e
      rw [z, f] at eo
      cases eo
    have r_ne : ∀ {j : Nat} {t : Addr × Addr}, ts[j]? = some t → t.2 ≠ r := fun {j t} e z => by
      obtain ⟨y, ey⟩ : ∃ y, (ringsM ms)[j]? = some y := ⟨_, List.getElem?_eq_getElem (by have := (List.getElem?_eq_some_iff.mp e).1; omega)⟩
      have h2 := (RI.part j t y e ey).2
      rw [z, RI.out] at h2
      have h2 := HO.lst.inj (Option.some.inj h2)
      obtain ⟨u, eu⟩ : ∃ u, ts[0]? = some u := ⟨_, List.getElem?_eq_getElem (by have := (List.getElem?_eq_some_iff.mp e).1; omega)⟩
      have h3 : (ts.map fun t => V.ref t.1)[0]? = some (.ref u.1) := by rw [List.getElem?_map, eu]; rfl
      rw [h2, List.getElem?_map] at h3
      obtain ⟨z', _, h4⟩ := Option.map_eq_some_iff.mp h3
      cases h4
    refine zip_rd (SqL.of RI.out) (SqL.of D.out) ?_
    refine loop_zip (xs := ts.map fun t => V.ref t.1) (ys := td.map fun t => V.ref t.1) (ringsM ms).length (by rw [List.length_map, tsl]) (by rw [List.length_map, dl]) (fun i σ J => ∃ (x3 x4 x5 x6 x7 : Option V), σ = [some (.ref r), some (.ref m), some (.ref du), x3, x4, x5, x6, x7] ∧ (∀ b o, (∀ (j : Nat) t, j < i → ts[j]? = some t → t.2 ≠ b) → I b = some o → J b = some o) ∧ ∀ (j : Nat) t x, j < i → ts[j]? = some t → (ringsM ms)[j]? = some x → J t.2 = some (.lst ((x.1 ++ [3]).map V.int))) ?_ ?_ ?_ ?_
    · exact ⟨_, _, _, _, _, rfl, fun b o _ e => e, fun j t x h => by walk_at "om"⟩
    · rintro i σ J _ ⟨_, _, _, _, _, _, kp, _⟩
      exact ⟨SqL.of (kp _ _ (fun j t _ e => r_ne e) RI.out), SqL.of (kp _ _ (fun j t _ e => new_ne e f1) D.out)⟩
    · rintro i v1 v2 σ J pp J' hv1 hv2 ⟨y3, y4, y5, y6, y7, rfl, kp, sp⟩ fpp spp hpp
      obtain ⟨t, x, rfl, e1, e2, e3, e4⟩ := RI.elt hv1
      obtain ⟨u, x', rfl, g1, g2, g3, g4⟩ := D.elt hv2
      rw [e2] at g2
      cases g2
      have xl := rings_get m3 x (List.mem_of_getElem? e2)
      have a3 := spp _ _ (kp _ _ (fun j t' _ e => tup_ne e e3) e3)
      have a4 := spp _ _ (kp _ _ (fun j t' hj e => two_ne e e1 (by walk_at "om")) e4)
      have b3 := spp _ _ (kp _ _ (fun j t' _ e => tup_ne e g3) g3)
      have b4 := spp _ _ (kp _ _ (fun j t' _ e => new_ne e (dn u (List.mem_of_getElem? g1))) g4)
      refine unpT_rd hpp ?_
      refine isiT_rd a3 ?_
      refine br_not (br_T ?_)
      refine lenT_rd a3 ?_
      refine br_not (br_dT rfl ?_)
      refine ixT_rd (v := .ref t.2) a3 rfl ?_
      refine ixT_rd (v := .ref u.2) b3 rfl ?_
      refine numbers_rd a4 b4 (by walk_at "om") (fun J1 r1 => ?_)
      rw [decide_eq_true rfl]
      refine br_not (br_T ?_)
      refine ixT_rd (v := .int x.2) (r1 _ _ a3) rfl ?_
      refine lwhole_rd ?_
      refine br_not (br_T ?_)
      refine ixT_rd (v := .int x.2) (r1 _ _ a3) rfl ?_
      refine ixT_rd (v := .int x.2) (r1 _ _ b3) rfl ?_
      refine br_not (br_dT rfl ?_)
      refine ixT_rd (v := .ref t.2) (r1 _ _ a3) rfl ?_
      refine lst_is (r1 _ _ a4) ?_
      refine app_rd (r1 _ _ a4) (by rw [List.length_map, sizeLine_eq]; omega) (fun J2 c2 k2 => ?_)
      walk_at "wh"
      refine ⟨_, _, _, _, _, rfl, fun b o hb e => ?_, fun j t' x' hj ej ex => ?_⟩
      · exact c2 _ _ (Ne.symm (hb i t (by walk_at "om") e1)) (r1 _ _ (spp _ _ (kp _ _ (fun j t' hj e => hb j t' (by walk_at "om") e) e)))
      · by_cases ji : j = i
        · subst ji
          rw [e1] at ej
          cases ej
          rw [e2] at ex
          cases ex
          rw [k2, List.map_append]
          rfl
        · exact c2 _ _ (two_ne ej e1 ji) (r1 _ _ (spp _ _ (sp j t' x' (by walk_at "om") ej ex)))
    · rintro σ J ⟨y3, y4, y5, y6, y7, rfl, kp, sp⟩
      walk_at "wh"
      refine q J (fun b o hb e => kp _ _ (fun j t _ e' => hb t (List.mem_of_getElem? e')) (c _ _ (ne_of_none e f1) (s1 _ _ e))) (fun i t x e1 e2 => sp i t x ((List.getElem?_eq_some_iff.mp e2).1) e1 e2)
-- @@split
/-! ### what was caught, marked -/
@[irreducible] def sp__law_marks (a_NoMix : Addr) : Sp := fun vs H Q _ => ∃ e : Addr, vs = [.ref e] ∧ H e = some (excO e (.ref a_NoMix) none) ∧ ∀ p H', H p = none → Same H H' → H' p = some (.lst [.str "mix"]) → Q (.ref p) H'
theorem marks_rd {a_NoMix : Addr} {H : Hp} {e : Addr} {Q : VK} {E : XK} (h : H e = some (excO e (.ref a_NoMix) none)) (q : ∀ p H', H p = none → Same H H' → H' p = some (.lst [.str "mix"]) → Q (.ref p) H') : sp__law_marks a_NoMix [.ref e] H Q E := by unfold sp__law_marks; exact ⟨e, rfl, h, q⟩
def wordsV : List V := [.str "alike", .str "battle", .str "even", .str "mix", .str "name", .str "number", .str "place", .str "plan", .str "row", .str "side", .str "stream", .str "text", .str "great"]
def someV : List V := [.bl false, .bl false, .bl false, .bl true, .bl false, .bl false, .bl false, .bl false, .bl false, .bl false, .bl false, .bl false, .bl false]
theorem someV_at {j : Nat} {y : V} (h : someV[j]? = some y) : y = .bl (decide (j = 3)) := by
  have hj : j < 13 := (List.getElem?_eq_some_iff.mp h).1
  have : j = 0 ∨ j = 1 ∨ j = 2 ∨ j = 3 ∨ j = 4 ∨ j = 5 ∨ j = 6 ∨ j = 7 ∨ j = 8 ∨ j = 9 ∨ j = 10 ∨ j = 11 ∨ j = 12 := by walk_at "om"
  rcases this with rfl | rfl | rfl | rfl | rfl | rfl | rfl | rfl | rfl | rfl | rfl | rfl | rfl <;> (cases h; rfl)
theorem ok__law_marks {f : Addr} {fd : FuncData} (F : Fun K "_law_marks" "_law_marks" s__law_marks f fd) (N : Nm mg) (Z : Cz K mg base a_HostError a_NoBattle a_NoPlan a_NoMix a_NoStream a_NoSide a_NoAlike a_NoNumber a_TooGreat a_NoEven a_NoText a_NoRow a_NoName a_NoPlace) : FnOk P w K mg base CX0 1 f fd ["_law_caught"] (sp__law_marks a_NoMix) := by
  refine F.ok sc__law_marks (fun vs H Q E h => by unfold sp__law_marks at h; obtain ⟨_, rfl, _⟩ := h; rfl) (fun cdv A outer s H vs Q E hr h => ?_)
  unfold sp__law_marks at h
  obtain ⟨e, rfl, he, q⟩ := h
  have hu := hu40 hr
  refine ⟨_, (pssTo (pssI_cons (psOf (psS (i := 1) sc__law_marks.nd (peLst (pa_cons (pB (cIsiX (K := K) rfl) N.isinstance_ bt_isinstance (pa_cons (pq 0) (pa_cons (pe_glob (v := .ref a_NoAlike) rfl Z.g_NoAlike rfl) pa_nil))) (pa_cons (pB (cIsiX (K := K) rfl) N.isinstance_ bt_isinstance (pa_cons (pq 0) (pa_cons (pe_glob (v := .ref a_NoBattle) rfl Z.g_NoBattle rfl) pa_nil))) (pa_cons (pB (cIsiX (K := K) rfl) N.isinstance_ bt_isinstance (pa_cons (pq 0) (pa_cons (pe_glob (v := .ref a_NoEven) rfl Z.g_NoEven rfl) pa_nil))) pa_nil))))))
      (pssI_cons (psOf (psS (i := 1) sc__law_marks.nd (pe_op oAdd (pq 1) (peLst (pa_cons (pB (cIsiX (K := K) rfl) N.isinstance_ bt_isinstance (pa_cons (pq 0) (pa_cons (pe_glob (v := .ref a_NoMix) rfl Z.g_NoMix rfl) pa_nil))) (pa_cons (pB (cIsiX (K := K) rfl) N.isinstance_ bt_isinstance (pa_cons (pq 0) (pa_cons (pe_glob (v := .ref a_NoName) rfl Z.g_NoName rfl) pa_nil))) (pa_cons (pB (cIsiX (K := K) rfl) N.isinstance_ bt_isinstance (pa_cons (pq 0) (pa_cons (pe_glob (v := .ref a_NoNumber) rfl Z.g_NoNumber rfl) pa_nil))) pa_nil)))))))
      (pssI_cons (psOf (psS (i := 1) sc__law_marks.nd (pe_op oAdd (pq 1) (peLst (pa_cons (pB (cIsiX (K := K) rfl) N.isinstance_ bt_isinstance (pa_cons (pq 0) (pa_cons (pe_glob (v := .ref a_NoPlace) rfl Z.g_NoPlace rfl) pa_nil))) (pa_cons (pB (cIsiX (K := K) rfl) N.isinstance_ bt_isinstance (pa_cons (pq 0) (pa_cons (pe_glob (v := .ref a_NoPlan) rfl Z.g_NoPlan rfl) pa_nil))) (pa_cons (pB (cIsiX (K := K) rfl) N.isinstance_ bt_isinstance (pa_cons (pq 0) (pa_cons (pe_glob (v := .ref a_NoRow) rfl Z.g_NoRow rfl) pa_nil))) pa_nil)))))))
      (pssI_cons (psOf (psS (i := 1) sc__law_marks.nd (pe_op oAdd (pq 1) (peLst (pa_cons (pB (cIsiX (K := K) rfl) N.isinstance_ bt_isinstance (pa_cons (pq 0) (pa_cons (pe_glob (v := .ref a_NoSide) rfl Z.g_NoSide rfl) pa_nil))) (pa_cons (pB (cIsiX (K := K) rfl) N.isinstance_ bt_isinstance (pa_cons (pq 0) (pa_cons (pe_glob (v := .ref a_NoStream) rfl Z.g_NoStream rfl) pa_nil))) (pa_cons (pB (cIsiX (K := K) rfl) N.isinstance_ bt_isinstance (pa_cons (pq 0) (pa_cons (pe_glob (v := .ref a_NoText) rfl Z.g_NoText rfl) pa_nil))) pa_nil)))))))
      (pssI_cons (psOf (ps_expr (peM_append (pq 1) (pa_cons (pB (cIsiX (K := K) rfl) N.isinstance_ bt_isinstance (pa_cons (pq 0) (pa_cons (pe_glob (v := .ref a_TooGreat) rfl Z.g_TooGreat rfl) pa_nil))) pa_nil))))
      (pssI_cons (psIS (i := 2) sc__law_marks.nd (peILst (paI_cons peI_str (paI_cons peI_str (paI_cons peI_str (paI_cons peI_str (paI_cons peI_str (paI_cons peI_str (paI_cons peI_str (paI_cons peI_str (paI_cons peI_str (paI_cons peI_str (paI_cons peI_str (paI_cons peI_str paI_nil))))))))))))))
      (pssI_cons (psOf (psC (i := 3) (N := ["_law_word", "_law_truth"]) (ks := [none, none]) sc__law_marks.nd (piZipK (K := K) rfl N.zip_ (pa_cons (pe_op oAdd (pq 2) (peLst (pa_cons pe_str pa_nil))) (pa_cons (pq 1) pa_nil))) (fun cl C s3 H3 fp => (pgAnyK (K := K) (n := 2) rfl rfl (pgsCons (pg_name (i := 0) nb_10 rfl (by first | exact Or.inl rfl | exact Or.inr rfl)) (pgsCons (pg_name (i := 1) nb_10 rfl (by first | exact Or.inl rfl | exact Or.inr rfl)) pgsNil)))) (fun cl C s3 H3 fp => (pts_one (ptV (pq 1)))) (fun cl C s3 H3 fp => (pq 0)) (.skip (.skip .nil))))
      (pssI_cons (psOf (psCut (psIf (pt_not (ptV (pB (cIsiX (K := K) rfl) N.isinstance_ bt_isinstance (pa_cons (pq 0) (pa_cons (pTy N.ValueError_ bt_ValueError) pa_nil))))) (pss_one (ps_expr (peM_append (pq 3) (pa_cons pe_str pa_nil)))) pss_nil)))
      (pssI_one (psOf (ps_ret (pq 3))))))))))))), ?_⟩
  refine isiE_rd (D := a_NoMix) he Z.k_NoMix Z.c_NoMix Z.i_NoMix_NoAlike ?_
  refine isiE_rd (D := a_NoMix) he Z.k_NoMix Z.c_NoMix Z.i_NoMix_NoBattle ?_
  refine isiE_rd (D := a_NoMix) he Z.k_NoMix Z.c_NoMix Z.i_NoMix_NoEven ?_
  refine newL_rd (fun p1 H1 f1 s1 h1 => ?_)
  have he1 := s1 _ _ he
  refine isiE_rd (D := a_NoMix) he1 Z.k_NoMix Z.c_NoMix Z.i_NoMix_NoMix ?_
  refine isiE_rd (D := a_NoMix) he1 Z.k_NoMix Z.c_NoMix Z.i_NoMix_NoName ?_
  refine isiE_rd (D := a_NoMix) he1 Z.k_NoMix Z.c_NoMix Z.i_NoMix_NoNumber ?_
  refine newL_rd (fun p2 H2 f2 s2 h2 => ?_)
  refine cat_rd (s2 _ _ h1) h2 (by rw [sizeLine_eq]; simp) (fun p3 H3 f3 s3 h3 => ?_)
  have he3 := s3 _ _ (s2 _ _ he1)
  refine isiE_rd (D := a_NoMix) he3 Z.k_NoMix Z.c_NoMix Z.i_NoMix_NoPlace ?_
  refine isiE_rd (D := a_NoMix) he3 Z.k_NoMix Z.c_NoMix Z.i_NoMix_NoPlan ?_
  refine isiE_rd (D := a_NoMix) he3 Z.k_NoMix Z.c_NoMix Z.i_NoMix_NoRow ?_
  refine newL_rd (fun p4 H4 f4 s4 h4 => ?_)
  refine cat_rd (s4 _ _ h3) h4 (by rw [sizeLine_eq]; simp) (fun p5 H5 f5 s5 h5 => ?_)
  have he5 := s5 _ _ (s4 _ _ he3)
  refine isiE_rd (D := a_NoMix) he5 Z.k_NoMix Z.c_NoMix Z.i_NoMix_NoSide ?_
  refine isiE_rd (D := a_NoMix) he5 Z.k_NoMix Z.c_NoMix Z.i_NoMix_NoStream ?_
  refine isiE_rd (D := a_NoMix) he5 Z.k_NoMix Z.c_NoMix Z.i_NoMix_NoText ?_
  refine newL_rd (fun p6 H6 f6 s6 h6 => ?_)
  refine cat_rd (s6 _ _ h5) h6 (by rw [sizeLine_eq]; simp) (fun p7 H7 f7 s7 h7 => ?_)
  have he7 := s7 _ _ (s6 _ _ he5)
  have s07 : Same H H7 := (((((s1.trans s2).trans s3).trans s4).trans s5).trans s6).trans s7
  have fp7 : H p7 = none := ((((((s1.trans s2).trans s3).trans s4).trans s5).trans s6)).free f7
  refine lst_is h7 ?_
  refine isiE_rd (D := a_NoMix) he7 Z.k_NoMix Z.c_NoMix Z.i_NoMix_TooGreat ?_
  refine app_rd h7 (by rw [sizeLine_eq]; simp) (fun H8 c8 h8 => ?_)
  have h8 : H8 p7 = some (.lst someV) := h8
  have s08 : Same H H8 := s07.chg fp7 c8
  refine newL_rd (fun p9 H9 f9 s9 h9 => ?_)
  refine newL_rd (fun pa Ha fa sa ha => ?_)
  refine cat_rd (sa _ _ h9) ha (by rw [sizeLine_eq]; simp) (fun pb Hb fb sb hb => ?_)
  have hb : Hb pb = some (.lst wordsV) := hb
  have s8b : Same H8 Hb := (s9.trans sa).trans sb
  have h8b := s8b _ _ h8
  refine zip_rd (SqL.of hb) (SqL.of h8b) ?_
  refine comp_I (Wk.zip (n := 13) (SqL.of hb) (SqL.of h8b) rfl rfl) (by rw [sizeLine_eq]; decide) (fun i => (wordsV[i]?).getD .non) (fun i => decide (i = 3)) (fun j σ => ∃ t u : Option V, σ = [t, u]) ⟨none, none, rfl⟩ ?_ ?_
  · rintro j v σ H1' R S hj s1' ⟨pp, x, y, rfl, hp, hx, hy⟩ ⟨t, u, rfl⟩ k1 k2
    have fx : (wordsV[j]?).getD .non = x := by rw [hx]; rfl
    have ey := someV_at hy
    subst ey
    refine unpT_rd hp ?_
    refine br_dec (fun h => ?_) (fun h => ?_)
    · walk_at "wh"
      rw [← fx]
      exact k1 (decide_eq_true h) _ _ (Same.refl _) ⟨_, _, rfl⟩
    · exact k2 (decide_eq_false h) _ _ (Same.refl _) ⟨_, _, rfl⟩
  · intro acc Hc fc sc hc
    have hc : Hc acc = some (.lst [.str "mix"]) := hc
    have s0c : Same H Hc := (s08.trans s8b).trans sc
    have hec := s0c _ _ he
    have facc : H acc = none := (s08.trans s8b).free fc
    walk_at "wh"
    refine cut_id ?_
    refine isiET_rd (D := a_NoMix) hec Z.k_NoMix Z.c_NoMix Z.v_NoMix ?_
    refine br_not (br_T ?_)
    walk_at "wh"
    exact q acc Hc facc s0c hc
/-! ### pairs of a plan and a weight of any kind -/
structure PrAt (H : Hp) (m : Addr) (ts : List (Addr × Addr)) (ps : List (List Int × V)) : Prop where
  out : H m = some (.lst (ts.map fun t => V.ref t.1))
  len : ts.length = ps.length
  part : ∀ (i : Nat) t x, ts[i]? = some t → ps[i]? = some x → H t.1 = some (.tup [.ref t.2, x.2]) ∧ H t.2 = some (.lst (x.1.map V.int))
theorem PrAt.same {H H' : Hp} {m : Addr} {ts : List (Addr × Addr)} {ps : List (List Int × V)} (M : PrAt H m ts ps) (s : Same H H') : PrAt H' m ts ps := ⟨s _ _ M.out, M.len, fun i t x h1 h2 => ⟨s _ _ (M.part i t x h1 h2).1, s _ _ (M.part i t x h1 h2).2⟩⟩
theorem PrAt.get {H : Hp} {m : Addr} {ts : List (Addr × Addr)} {ps : List (List Int × V)} (M : PrAt H m ts ps) {i : Nat} (hi : i < ps.length) : ∃ t x, ts[i]? = some t ∧ ps[i]? = some x ∧ H t.1 = some (.tup [.ref t.2, x.2]) ∧ H t.2 = some (.lst (x.1.map V.int)) :=
  ⟨_, _, List.getElem?_eq_getElem (by have := M.len; omega), List.getElem?_eq_getElem hi, M.part i _ _ (List.getElem?_eq_getElem (by have := M.len; omega)) (List.getElem?_eq_getElem hi)⟩
theorem PrAt.elt {H : Hp} {m : Addr} {ts : List (Addr × Addr)} {ps : List (List Int × V)} (M : PrAt H m ts ps) {i : Nat} {v : V} (e : (ts.map fun t => V.ref t.1)[i]? = some v) : ∃ t x, v = .ref t.1 ∧ ts[i]? = some t ∧ ps[i]? = some x ∧ H t.1 = some (.tup [.ref t.2, x.2]) ∧ H t.2 = some (.lst (x.1.map V.int)) := by
  rw [List.getElem?_map] at e
  obtain ⟨t, et, rfl⟩ := Option.map_eq_some_iff.mp e
  obtain ⟨t', x, h1, h2, h3⟩ := M.get (i := i) (by have := (List.getElem?_eq_some_iff.mp et).1; have := M.len; omega)
  rw [et] at h1
  cases h1
  exact ⟨t, x, rfl, et, h2, h3⟩
def prM (ms : List (List Int × Int)) : List (List Int × V) := ms.map fun x => (x.1, .int x.2)
theorem MixAt.pr {H : Hp} {m : Addr} {ts : List (Addr × Addr)} {ms : List (List Int × Int)} (M : MixAt H m ts ms) : PrAt H m ts (prM ms) := ⟨M.out, by unfold prM; rw [List.length_map, M.len], fun i t x h1 h2 => by
  unfold prM at h2
  rw [List.getElem?_map] at h2
  obtain ⟨y, ey, rfl⟩ := Option.map_eq_some_iff.mp h2
  exact M.part i t y h1 ey⟩
theorem PrAt.mix {H : Hp} {m : Addr} {ts : List (Addr × Addr)} {ms : List (List Int × Int)} (M : PrAt H m ts (prM ms)) : MixAt H m ts ms := ⟨M.out, by have := M.len; unfold prM at this; rw [List.length_map] at this; exact this, fun i t x h1 h2 => M.part i t (x.1, .int x.2) h1 (by unfold prM; rw [List.getElem?_map, h2]; rfl)⟩
/-- two lists of the same pairs are equal -/
theorem pr_eq {K : PySem.W.Frag} {H : Hp} {m m' : Addr} {ts ts' : List (Addr × Addr)} {ps : List (List Int × V)} (M : PrAt H m ts ps) (M' : PrAt H m' ts' ps) (hf : ∀ x ∈ ps, flatV x.2 = true) : EqR K H 3 (.ref m) (.ref m') true := by
  refine EqR.allT (n := 2) (SqL.of M.out) (SqL.of M'.out) (by rw [List.length_map, List.length_map, M.len, M'.len]) fun i u v hu hv => ?_
  obtain ⟨t, x, rfl, e1, e2, e3, e4⟩ := M.elt hu
  obtain ⟨t', x', rfl, g1, g2, g3, g4⟩ := M'.elt hv
  rw [e2] at g2
  cases g2
  have fx := hf x (List.mem_of_getElem? e2)
  exact EqR.tup (K := K) (H := H) (n := 1) (fun _ => true) (SqT.of e3) (SqT.of g3) (fun j y z hy hz => by
    match j with
    | 0 =>
      cases hy; cases hz
      have := EqR.intL (K := K) (H := H) (SqL.of e4) (SqL.of g4)
      rwa [decide_eq_true rfl] at this
    | 1 =>
      cases hy; cases hz
      have := EqR.flat (K := K) (H := H) (n := 1) (x := x.2) (y := x.2) fx fx
      rwa [eqV_self fx] at this
    | j + 2 => simp at hy)
@[irreducible] def sp__law_copy : Sp := fun vs H Q _ => ∃ (m : Addr) (ts : List (Addr × Addr)) (ps : List (List Int × V)), vs = [.ref m] ∧ PrAt H m ts ps ∧ ps.length ≤ 1000 ∧ ∀ r qs H', H r = none → Same H H' → PrAt H' r qs ps → (∀ q ∈ qs, H q.1 = none ∧ H q.2 = none) → Q (.ref r) H'
theorem copy_rd {H : Hp} {m : Addr} {ts : List (Addr × Addr)} {ps : List (List Int × V)} {Q : VK} {E : XK} (M : PrAt H m ts ps) (hl : ps.length ≤ 1000) (q : ∀ r qs H', H r = none → Same H H' → PrAt H' r qs ps → (∀ q ∈ qs, H q.1 = none ∧ H q.2 = none) → Q (.ref r) H') : sp__law_copy [.ref m] H Q E := by unfold sp__law_copy; exact ⟨m, ts, ps, rfl, M, hl, q⟩
theorem ok__law_copy {f : Addr} {fd : FuncData} (F : Fun K "_law_copy" "_law_copy" s__law_copy f fd) (N : Nm mg) : FnOk P w K mg base CX0 1 f fd ["_law_mix_here"] sp__law_copy := by
  refine F.ok sc__law_copy (fun vs H Q E h => by unfold sp__law_copy at h; obtain ⟨_, _, _, rfl, _⟩ := h; rfl) (fun cdv A outer s H vs Q E hr h => ?_)
  unfold sp__law_copy at h
  obtain ⟨m, ts, ps, rfl, M, hl, q⟩ := h
  have ml := M.len
  refine ⟨_, (pss_one (ps_ret (peComp (N := ["_law_counts_here", "_law_weight"]) (ks := [none, none]) (piSeqK (K := K) rfl (pq 0)) (fun cl C s3 H3 fp => (pgAnyK (K := K) (n := 2) rfl rfl (pgsCons (pg_name (i := 0) nb_8 rfl (by first | exact Or.inl rfl | exact Or.inr rfl)) (pgsCons (pg_name (i := 1) nb_8 rfl (by first | exact Or.inl rfl | exact Or.inr rfl)) pgsNil)))) (fun cl C s3 H3 fp => pts_nil) (fun cl C s3 H3 fp => (peTup (pa_cons (pT (cListK (K := K) rfl) N.list_ bt_list (pa_cons (pq 0) pa_nil)) (pa_cons (pq 1) pa_nil)))) (.skip (.skip .nil))))), ?_⟩
  refine iterL_rd M.out ?_
  refine comp_A (Wk.list (SqL.of M.out)) (by rw [List.length_map, sizeLine_eq]; omega) (fun acc i ys σ I => ∃ (t u : Option V) (qs : List (Addr × Addr)), σ = [t, u] ∧ ys = (qs.map fun t => V.ref t.1) ∧ qs.length = i ∧ (∀ q ∈ qs, H q.1 = none ∧ H q.2 = none) ∧ ∀ (k : Nat) q x, qs[k]? = some q → ps[k]? = some x → rm acc I q.1 = some (.tup [.ref q.2, x.2]) ∧ rm acc I q.2 = some (.lst (x.1.map V.int))) ?_ ?_ ?_ ?_
  · intro acc I f1 s1 h1
    exact ⟨none, none, [], rfl, rfl, rfl, by simp, fun k q x e => by simp at e⟩
  · rintro acc i ys σ I I' s' ⟨t, u, qs, r1, r2, r3, r4, r5⟩
    exact ⟨t, u, qs, r1, r2, r3, r4, fun k q x e1 e2 => ⟨Same.rm s' _ _ (r5 k q x e1 e2).1, Same.rm s' _ _ (r5 k q x e1 e2).2⟩⟩
  · rintro acc i v ys σ I R S hi facc s1 hacc hx ⟨t', u', qs, rfl, rfl, ql, qn, qp⟩ kR _
    obtain ⟨t, x, rfl, e1, e2, e3, e4⟩ := (M.same s1).elt hx
    refine unpT_rd e3 ?_
    refine br_T ?_
    refine listL_rd (SqL.of e4) (fun p1 I1 f1 r1 k1 => ?_)
    refine newT_rd (fun p2 I2 f2 r2 k2 => ?_)
    walk_at "wh"
    have n1 : p1 ≠ acc := Ne.symm (ne_of_none hacc f1)
    have n2 : p2 ≠ acc := Ne.symm (ne_of_none (r1 _ _ hacc) f2)
    have r12 := r1.trans r2
    refine kR _ _ _ r12 (fun I3 c3 => ⟨_, _, qs ++ [(p2, p1)], rfl, by rw [List.map_append]; rfl, by rw [List.length_append, ql]; rfl, fun q hq => ?_, fun k q y g1 g2 => ?_⟩)
    · rcases List.mem_append.mp hq with h | h
      · exact qn q h
      · rw [List.mem_singleton.mp h]
        exact ⟨s1.free (r1.free f2), s1.free f1⟩
    · by_cases hk : k < qs.length
      · rw [List.getElem?_append_left hk] at g1
        have w := qp k q y g1 g2
        have up : Same (rm acc I) (rm acc I3) := (Same.rm r12).trans (Chg.rm c3)
        exact ⟨up _ _ w.1, up _ _ w.2⟩
      · rw [List.getElem?_append_right (by walk_at "om")] at g1
        have k0 : k - qs.length = 0 := by
          have := (List.getElem?_eq_some_iff.mp g1).1
          simp at this; omega
        rw [k0] at g1
        cases g1
        have : k = i := by walk_at "om"
        subst this
        rw [e2] at g2
        cases g2
        exact ⟨Chg.rm c3 _ _ (rm_at n2 k2), Chg.rm c3 _ _ (rm_at n1 (r2 _ _ k1))⟩
  · rintro acc ys σ I facc s1 hacc ⟨t', u', qs, rfl, rfl, ql, qn, qp⟩
    rw [List.length_map] at ql
    walk_at "wh"
    exact q acc qs I facc s1 ⟨hacc, by walk_at "om", fun k q x e1 e2 => ⟨rm_same acc I _ _ (qp k q x e1 e2).1, rm_same acc I _ _ (qp k q x e1 e2).2⟩⟩ qn
/-! ### refused -/
@[irreducible] def sp__law_refused : Sp := fun vs H Q _ => ∃ (v : V) (d : PyData), vs = [v] ∧ ShV H v d ∧ sml d = true ∧ goodR d = false ∧ ∀ H', Same H H' → Q (.bl true) H'
theorem refused_rd {H : Hp} {v : V} {d : PyData} {Q : VK} {E : XK} (h : ShV H v d) (hs : sml d = true) (eg : goodR d = false) (q : ∀ H', Same H H' → Q (.bl true) H') : sp__law_refused [v] H Q E := by unfold sp__law_refused; exact ⟨v, d, rfl, h, hs, eg, q⟩
theorem same_str {K : PySem.W.Frag} {H : Hp} {a b : Addr} {x : Str} (ha : H a = some (.lst [.str x])) (hb : H b = some (.lst [.str x])) : EqR K H 1 (.ref a) (.ref b) true :=
  EqR.allT (SqL.of ha) (SqL.of hb) rfl (fun j u v hu hv => by
    cases j with
    | zero =>
      cases hu; cases hv
      have := EqR.flat (K := K) (H := H) (n := 0) (x := .str x) (y := .str x) rfl rfl
      rwa [eqV_self rfl] at this
    | succ j => simp at hu)
theorem ok__law_refused {f : Addr} {fd : FuncData} (F : Fun K "_law_refused" "_law_refused" s__law_refused f fd) (N : Nm mg) (D__law_marks : Def P w K mg base CX0 1 "_law_marks" ["_law_caught"] (sp__law_marks a_NoMix)) (D_ring_mix : Def P w K mg base (CXR P w) 6 "ring_mix" ["mix"] (sp_ring_mix a_NoMix)) (Z : Cz K mg base a_HostError a_NoBattle a_NoPlan a_NoMix a_NoStream a_NoSide a_NoAlike a_NoNumber a_TooGreat a_NoEven a_NoText a_NoRow a_NoName a_NoPlace) : FnOk P w K mg base CX0 7 f fd ["_law_mix_here"] sp__law_refused := by
  refine F.ok sc__law_refused (fun vs H Q E h => by unfold sp__law_refused at h; obtain ⟨_, _, rfl, _⟩ := h; rfl) (fun cdv A outer s H vs Q E hr h => ?_)
  unfold sp__law_refused at h
  obtain ⟨v, d, rfl, h, hs, eg, q⟩ := h
  have hu := hu40 hr
  refine ⟨_, (pss_cons (psS (i := 1) sc__law_refused.nd pe_non)
      (pss_cons (psTry (K := K) (ke := 2) (ky := 1) rfl sc__law_refused.nd Z.g_HostError (psxOne (psxCall D_ring_mix hr (pa_cons (pq 0) pa_nil))))
      (pss_one (ps_ret (peAnd (pe_cmpR oIsNot (pq 1) pe_non (nomark _)) (pe_one (peC (oEqK (K := K) rfl (by exact hu)) (pD D__law_marks hr pass0 (pa_cons (pq 1) pa_nil)) (peLst (pa_cons pe_str pa_nil))))))))), ?_⟩
  refine ring_mix_rd h hs (fun z => by rw [eg] at z; cases z) (fun _ H1 s1 => catch_rd Z.m_NoMix (fun ea H2 f2 s2 h2 => ?_))
  refine br_not (br_F ?_)
  refine marks_rd h2 (fun p3 H3 f3 s3 h3 => ?_)
  refine newL_rd (fun p4 H4 f4 s4 h4 => ?_)
  refine eqO_rd (same_str (s4 _ _ h3) h4) ?_
  walk_at "wh"
  exact q _ (((s1.trans s2).trans s3).trans s4)
-- @@split
/-! ### draws out of a purse: the list of cells, and the turn -/
def PurseAt (H : Hp) (p c : Addr) (b : Int) : Prop := ∃ (t : Int) (ns : List Int), c ≠ p ∧ H p = some (.lst [.ref c, .int t]) ∧ H c = some (.lst (ns.map V.int)) ∧ 0 < ns.length ∧ ns.length ≤ 63 ∧ 0 ≤ t ∧ t ≤ b
theorem PurseAt.same {H H' : Hp} {p c : Addr} {b : Int} (h : PurseAt H p c b) (s : Same H H') : PurseAt H' p c b := by
  obtain ⟨t, ns, n, e1, e2, r⟩ := h
  exact ⟨t, ns, n, s _ _ e1, s _ _ e2, r⟩
theorem PurseAt.up {H : Hp} {p c : Addr} {b d : Int} (h : PurseAt H p c b) (l : b ≤ d) : PurseAt H p c d := by
  obtain ⟨t, ns, n, e1, e2, e3, e4, e5, e6⟩ := h
  exact ⟨t, ns, n, e1, e2, e3, e4, e5, by walk_at "om"⟩
theorem PurseAt.neP {H : Hp} {p c q : Addr} {b : Int} (h : PurseAt H p c b) (f : H q = none) : q ≠ p := by
  obtain ⟨t, ns, n, e1, e2, r⟩ := h
  exact Ne.symm (ne_of_none e1 f)
theorem PurseAt.neC {H : Hp} {p c q : Addr} {b : Int} (h : PurseAt H p c b) (f : H q = none) : q ≠ c := by
  obtain ⟨t, ns, n, e1, e2, r⟩ := h
  exact Ne.symm (ne_of_none e2 f)
local macro_rules | `(tactic| walk_at "pu") => `(tactic| first | assumption | (refine PurseAt.same (H := ?H) ?l ?s; (case s => assumption); (case l => walk_at "pu")) | fail "pu")
local macro_rules | `(tactic| walk_at "ne") => `(tactic| first | assumption | (apply Ne.symm; assumption) | (refine PurseAt.neP (H := ?H) (c := ?c) (b := ?b) ?l ?f; (case f => assumption); (case l => walk_at "pu")) | (refine PurseAt.neC (H := ?H) (p := ?p) (b := ?b) ?l ?f; (case f => assumption); (case l => walk_at "pu")) | fail "ne")
local macro_rules | `(tactic| walk_at "hp") => `(tactic| first | assumption | (refine Same.at (H := ?H) ?s ?e; (case s => assumption); (case e => walk_at "hp")) | (refine Chg.at (a := ?a) (H := ?H) ?c ?e ?n; (case c => assumption); (case n => walk_at "ne"); (case e => walk_at "hp")) | (refine Chg2.at (a := ?a) (c := ?c) (H := ?H) ?x ?e ?n1 ?n2; (case x => assumption); (case n1 => walk_at "ne"); (case n2 => walk_at "ne"); (case e => walk_at "hp")) | fail "hp")
@[irreducible] def sp__law_purse (K : PySem.W.Frag) : Sp := fun vs H Q _ => ∃ (a : Addr) (ns : List Int), vs = [.ref a] ∧ SqL K H a (ns.map V.int) ∧ ns.length ≤ 63 ∧ ∀ p c H', H p = none → H c = none → Same H H' → PurseAt H' p c 0 → Q (.ref p) H'
theorem purse_rd {H : Hp} {a : Addr} {ns : List Int} {Q : VK} {E : XK} {K : PySem.W.Frag} (h1 : SqL K H a (ns.map V.int)) (h2 : ns.length ≤ 63) (q : ∀ p c H', H p = none → H c = none → Same H H' → PurseAt H' p c 0 → Q (.ref p) H') : sp__law_purse K [.ref a] H Q E := by
  unfold sp__law_purse; exact ⟨a, ns, rfl, h1, h2, q⟩
theorem cut_ints {ns : List Int} {lo hi : Option Int} : ∃ ms : List Int, cutV (ns.map V.int) lo hi = ms.map V.int ∧ ms.length ≤ ns.length := by
  refine ⟨(ns.drop (HT.sIx ns.length 0 lo)).take (HT.sIx ns.length ns.length hi - HT.sIx ns.length 0 lo), ?_, ?_⟩
  · unfold cutV
    rw [List.length_map, List.map_take, List.map_drop]
  · rw [List.length_take, List.length_drop]; omega
theorem ok__law_purse {f : Addr} {fd : FuncData} (F : Fun K "_law_purse" "_law_purse" s__law_purse f fd) (N : Nm mg) : FnOk P w K mg base CX0 1 f fd ["_law_script"] (sp__law_purse K) := by
  refine F.ok sc__law_purse (fun vs H Q E h => by unfold sp__law_purse at h; obtain ⟨n, k, rfl, _⟩ := h; rfl) (fun cdv A outer s H vs Q E hr h => ?_)
  unfold sp__law_purse at h
  obtain ⟨a, ns, rfl, hS, hl, q⟩ := h
  have hu := hu40 hr
  refine ⟨_, (pss_cons (psS (i := 1) sc__law_purse.nd (pe_slice (slK (K := K) rfl) (pq 0) po_none (poSome pe_int)))
      (pss_cons (psCut (psIf (ptC (oEqK (K := K) rfl (by exact hu)) (pq 1) (peLst pa_nil)) (pss_one (psS (i := 1) sc__law_purse.nd (peLst (pa_cons pe_int pa_nil)))) pss_nil))
      (pss_one (ps_ret (peLst (pa_cons (pq 1) (pa_cons pe_int pa_nil))))))), ?_⟩
  refine sl_rd hS (fun p1 H1 hf1 hs1 ha1 => ?_)
  obtain ⟨ms, em, lm⟩ := cut_ints (ns := ns) (lo := none) (hi := some 63)
  rw [em] at ha1
  refine cut_rd (fun σ H4 => ∃ (c : Addr) (ks : List Int), σ = [some (.ref a), some (.ref c)] ∧ H c = none ∧ Same H H4 ∧ H4 c = some (.lst (ks.map V.int)) ∧ 0 < ks.length ∧ ks.length ≤ 63) ?_ ?_
  · walk_at "wh"
    refine newL_rd (fun p2 H2 hf2 hs2 ha2 => ?_)
    refine eqO_rd (EqR.nilR (hs2 _ _ ha1) ha2) ?_
    refine br_dec (fun h => ?_) (fun h => ?_)
    · walk_at "wh"
      refine newL_rd (fun p3 H3 hf3 hs3 ha3 => ?_)
      exact ⟨p3, [0], rfl, (hs1.trans hs2).free hf3, (hs1.trans hs2).trans hs3, ha3, by decide, by decide⟩
    · walk_at "wh"
      rw [List.length_map] at h
      exact ⟨p1, ms, rfl, hf1, hs1.trans hs2, hs2 _ _ ha1, by walk_at "om", by walk_at "om"⟩
  · rintro σ H4 ⟨c, ks, rfl, hc, hs4, h4, k1, k2⟩
    refine newL_rd (fun p5 H5 hf5 hs5 ha5 => ?_)
    walk_at "wh"
    exact q p5 c H5 (hs4.free hf5) hc (hs4.trans hs5) ⟨0, ks, ne_of_none h4 hf5, ha5, hs5 _ _ h4, k1, k2, by decide, by decide⟩
@[irreducible] def sp__law_draw : Sp := fun vs H Q _ => ∃ (p c : Addr) (m b : Int), vs = [.ref p, .int m] ∧ PurseAt H p c b ∧ b ≤ 1000000 ∧ 0 < m ∧ m < 10 ^ 60 ∧ ∀ (d : Int) H', 0 ≤ d → d < m → Chg2 p c H H' → PurseAt H' p c (b + 1) → Q (.int d) H'
theorem draw_rd {H : Hp} {p c : Addr} {m b : Int} {Q : VK} {E : XK} (hL : PurseAt H p c b) (hb : b ≤ 1000000) (h0 : 0 < m) (h1 : m < 10 ^ 60) (q : ∀ (d : Int) H', 0 ≤ d → d < m → Chg2 p c H H' → PurseAt H' p c (b + 1) → Q (.int d) H') : sp__law_draw [.ref p, .int m] H Q E := by
  unfold sp__law_draw; exact ⟨p, c, m, b, rfl, hL, hb, h0, h1, q⟩
theorem map_set {ns : List Int} {j : Nat} {v : Int} : (ns.map V.int).set j (V.int v) = (ns.set j v).map V.int := by rw [List.map_set]
theorem ok__law_draw {f : Addr} {fd : FuncData} (F : Fun K "_law_draw" "_law_draw" s__law_draw f fd) (N : Nm mg) : FnOk P w K mg base CX0 1 f fd ["_law_purse_here", "_law_out_of"] sp__law_draw := by
  refine F.ok sc__law_draw (fun vs H Q E h => by unfold sp__law_draw at h; obtain ⟨p, c, m, b, rfl, _⟩ := h; rfl) (fun cdv A outer s H vs Q E hr h => ?_)
  unfold sp__law_draw at h
  obtain ⟨p, c, m, b, rfl, ⟨t, ns, hne, hp, hcl, l0, l1, t0, t1⟩, hb, hm0, hm1, q⟩ := h
  refine ⟨_, (pss_cons (ps_asg (pq 0) (pgAnyK (K := K) (n := 2) rfl rfl (pgsCons (pg_name (i := 2) sc__law_draw.nd rfl (by first | exact Or.inl rfl | exact Or.inr rfl)) (pgsCons (pg_name (i := 3) sc__law_draw.nd rfl (by first | exact Or.inl rfl | exact Or.inr rfl)) pgsNil))))
      (pss_cons (psS (i := 4) sc__law_draw.nd (pe_op oMod (pq 3) (pB (cLenK (K := K) rfl) N.len_ bt_len (pa_cons (pq 2) pa_nil))))
      (pss_cons (psS (i := 5) sc__law_draw.nd (peIxK (K := K) rfl (pq 2) (pq 4)))
      (pss_cons (ps_asg (pe_op oAdd (pq 3) pe_int) (pg_sub (pq 0) pe_int setM))
      (pss_cons (psIf (ptC oGe (pq 5) (pe_op oPow pe_int pe_int)) (pss_cons (ps_asg (pe_op oDiv (pq 5) (pq 1)) (pg_sub (pq 2) (pq 4) setM))
      (pss_one (ps_ret (pe_op oMod (pq 5) (pq 1))))) pss_nil)
      (pss_cons (psS (i := 6) sc__law_draw.nd (pe_op oMod (pe_op oAdd (pe_op oAdd (pe_op oMul (pe_op oMod (pq 5) pe_int) pe_int) (pe_op oMul (pe_op oMul (pq 3) (pq 3)) pe_int)) pe_int) pe_int))
      (pss_cons (psS (i := 6) sc__law_draw.nd (pe_op oMod (pe_op oMul (pq 6) (pq 6)) pe_int))
      (pss_cons (psS (i := 6) sc__law_draw.nd (pe_op oMod (pe_op oMul (pq 6) (pq 6)) pe_int))
      (pss_cons (psCut (psIf (ptC oGt (pq 1) (pe_op oPow pe_int pe_int)) (pss_cons (psS (i := 7) sc__law_draw.nd (pe_op oMod (pe_op oAdd (pe_op oAdd (pe_op oMul (pq 6) pe_int) (pe_op oMul (pq 3) pe_int)) pe_int) pe_int))
      (pss_one (psS (i := 6) sc__law_draw.nd (pe_op oMul (pq 6) (pe_op oAdd (pe_op oPow (pq 7) pe_int) pe_int))))) pss_nil))
      (pss_one (ps_ret (pe_op oMod (pq 6) (pq 1))))))))))))), ?_⟩
  refine unpL_rd hp ?_
  walk_at "st"
  rw [List.length_map]
  refine mod_rd (by walk_at "om") ?_
  have r0 := Int.emod_nonneg t (show (ns.length : Int) ≠ 0 by walk_at "om")
  have r1 := Int.emod_lt_of_pos t (show 0 < (ns.length : Int) by walk_at "om")
  generalize t % (ns.length : Int) = r at r0 r1
  have hr' : r.toNat < ns.length := by walk_at "om"
  have er : ((r.toNat : Nat) : Int) = r := by walk_at "om"
  refine ixL_rd (v := .int ns[r.toNat]) hcl ?_ ?_
  · have := atI_nat (xs := ns.map V.int) (j := r.toNat) (v := .int ns[r.toNat]) (by simp [hr'])
    rw [er] at this
    exact this
  generalize ns[r.toNat] = cell
  refine set_rd hp (by rfl) (fun H1 hc1 h1 => ?_)
  have hcl1 : H1 c = some (.lst (ns.map V.int)) := hc1 _ _ hne hcl
  walk_at "st"
  refine br_dec (fun h => ?_) (fun h => ?_)
  · walk_at "st"
    refine set_rd (j := r.toNat) hcl1 ?_ (fun H2 hc2 h2 => ?_)
    · unfold ixN
      rw [if_pos (by walk_at "om"), if_pos (by rw [List.length_map]; omega)]
    rw [map_set] at h2
    walk_at "st"
    walk_at "wh"
    exact q _ _ (by assumption) (by assumption) (hc1.toL.trans hc2.toR) ⟨t + 1, _, hne, hc2 _ _ (Ne.symm hne) h1, h2, by rw [List.length_set]; exact l0, by rw [List.length_set]; exact l1, by walk_at "om", by walk_at "om"⟩
  · repeat walk_at "st"
    walk_at "wh"
    rename_i z z0 z1
    refine cut_rd (fun σ H2 => ∃ (nn : Int) (x : Option V), σ = [some (.ref p), some (.int m), some (.ref c), some (.int t), some (.int r), some (.int cell), some (.int nn), x] ∧ H2 = H1) ?_ ?_
    · walk_at "st"
      refine br_dec (fun h => ?_) (fun h => ?_)
      · walk_at "st"
        walk_at "st"
        walk_at "st"
        walk_at "wh"
        rename_i y y0 y1
        refine pow_rd ⟨by decide, by decide, by walk_at "om"⟩ ?_
        refine mulL_rd (by walk_at "om") (by walk_at "om") ?_
        walk_at "wh"
        exact ⟨_, _, rfl, rfl⟩
      · walk_at "wh"
        exact ⟨_, _, rfl, rfl⟩
    · rintro σ H2 ⟨nn, x, rfl, rfl⟩
      walk_at "st"
      walk_at "wh"
      exact q _ _ (by assumption) (by assumption) hc1.toL ⟨t + 1, _, hne, h1, hcl1, l0, l1, by walk_at "om", by walk_at "om"⟩
theorem PurseAt.chg {H H' : Hp} {p c a : Addr} {b : Int} (h : PurseAt H p c b) (s : Chg a H H') (n1 : p ≠ a) (n2 : c ≠ a) : PurseAt H' p c b := by
  obtain ⟨t, ns, n, e1, e2, r⟩ := h
  exact ⟨t, ns, n, s _ _ n1 e1, s _ _ n2 e2, r⟩
theorem Chg2.free {a c l : Addr} {H H' : Hp} (x : Chg2 a c H H') (h : H' l = none) (n1 : l ≠ a) (n2 : l ≠ c) : H l = none := by
  cases e : H l with
  | none => rfl
  | some o =>
    have := x l o n1 n2 e
    rw [h] at this
    cases this
/-! ### counts drawn, and their numbers as the law adds them up -/
theorem low_facts {l k M : Nat} (hk : 1 ≤ k) (hk8 : k ≤ 8) (h : l ≤ k * M) : (l + k - 1) / k ≤ M ∧ (l + k - 1) / k ≤ l ∧ ∀ m, (l + k - 1) / k ≤ m → m ≤ l → l - m ≤ (k - 1) * m := by
  have : k = 1 ∨ k = 2 ∨ k = 3 ∨ k = 4 ∨ k = 5 ∨ k = 6 ∨ k = 7 ∨ k = 8 := by walk_at "om"
  rcases this with rfl | rfl | rfl | rfl | rfl | rfl | rfl | rfl <;> (refine ⟨by walk_at "om", by walk_at "om", fun m h1 h2 => ?_⟩; omega)
theorem Fall.snoc : ∀ {xs : List Nat} {m x : Nat}, Fall m xs → (∀ y ∈ xs, x ≤ y) → x ≤ m → Fall m (xs ++ [x])
  | [], m, x, _, _, h => ⟨h, trivial⟩
  | y :: ys, m, x, F, ha, _ => ⟨F.1, Fall.snoc F.2 (fun z hz => ha z (List.mem_cons_of_mem _ hz)) (ha y (.head _))⟩
@[irreducible] def sp__law_counts : Sp := fun vs H Q _ => ∃ (p c : Addr) (b : Int) (h f : Nat), vs = [.ref p, .int h, .int f] ∧ PurseAt H p c b ∧ b ≤ 100000 ∧ h ≤ 40 ∧ (1 ≤ f ∧ f ≤ 8) ∧ ∀ l H' (ns : List Nat), H l = none → Chg2 p c H H' → PurseAt H' p c (b + 30) → l ≠ p → l ≠ c → H' l = some (.lst (pl ns)) → ns.length = f → ns.sum = h → Fall h ns → Q (.ref l) H'
theorem law_counts_rd {H : Hp} {p c : Addr} {b : Int} {h f : Nat} {Q : VK} {E : XK} (hP : PurseAt H p c b) (hb : b ≤ 100000) (h1 : h ≤ 40) (h2 : 1 ≤ f) (h3 : f ≤ 8) (q : ∀ l H' (ns : List Nat), H l = none → Chg2 p c H H' → PurseAt H' p c (b + 30) → l ≠ p → l ≠ c → H' l = some (.lst (pl ns)) → ns.length = f → ns.sum = h → Fall h ns → Q (.ref l) H') : sp__law_counts [.ref p, .int h, .int f] H Q E := by
  unfold sp__law_counts; exact ⟨p, c, b, h, f, rfl, hP, hb, h1, ⟨h2, h3⟩, q⟩
theorem ok__law_counts {f : Addr} {fd : FuncData} (F : Fun K "_law_counts" "_law_counts" s__law_counts f fd) (N : Nm mg) (D__law_draw : Def P w K mg base CX0 1 "_law_draw" ["_law_purse_here", "_law_out_of"] sp__law_draw) : FnOk P w K mg base CX0 2 f fd ["_law_purse_here", "_law_hosts", "_law_fields"] sp__law_counts := by
  refine F.ok sc__law_counts (fun vs H Q E h => by unfold sp__law_counts at h; obtain ⟨_, _, _, _, _, rfl, _⟩ := h; rfl) (fun cdv A outer s H vs Q E hr h => ?_)
  unfold sp__law_counts at h
  obtain ⟨p, c, b, h, f, rfl, hP, hb, h1, ⟨h2, h3⟩, q⟩ := h
  refine ⟨_, (pss_cons (psS (i := 3) sc__law_counts.nd (peLst pa_nil))
      (pss_cons (psS (i := 4) sc__law_counts.nd (pq 1))
      (pss_cons (psS (i := 5) sc__law_counts.nd (pq 1))
      (pss_cons (psFor PassesOwn.never rfl (piRng1 N.range_ (pa_cons (pq 2) pa_nil)) (pg_name (i := 6) sc__law_counts.nd rfl (by first | exact Or.inl rfl | exact Or.inr rfl)) (pss_cons (psS (i := 7) sc__law_counts.nd (pe_op oDiv (pe_op oSub (pe_op oSub (pe_op oAdd (pq 4) (pq 2)) (pq 6)) pe_int) (pe_op oSub (pq 2) (pq 6))))
      (pss_cons (psS (i := 8) sc__law_counts.nd (pB (cMinK (K := K) rfl rfl) N.min_ bt_min (pa_cons (pq 4) (pa_cons (pq 5) pa_nil))))
      (pss_cons (psS (i := 5) sc__law_counts.nd (peIxK (K := K) rfl (peLst (pa_cons (pe_op oAdd (pq 7) (pD D__law_draw hr pass0 (pa_cons (pq 0) (pa_cons (pe_op oAdd (pe_op oSub (pq 8) (pq 7)) pe_int) pa_nil)))) (pa_cons (pq 7) (pa_cons (pq 8) pa_nil)))) (pe_op oDiv (pD D__law_draw hr pass0 (pa_cons (pq 0) (pa_cons pe_int pa_nil))) pe_int)))
      (pss_cons (ps_expr (peM_append (pq 3) (pa_cons (pq 5) pa_nil)))
      (pss_one (psS (i := 4) sc__law_counts.nd (pe_op oSub (pq 4) (pq 5)))))))))
      (pss_one (ps_ret (pq 3))))))), ?_⟩
  refine newL_rd (fun l H1 f1 s1 h1' => ?_)
  have n1 : l ≠ p := hP.neP f1
  have n2 : l ≠ c := hP.neC f1
  refine range_rd (by decide) (by decide) (by walk_at "om") (by walk_at "om") ?_
  refine loop_range (fun i σ H2 => ∃ (x y z : Option V) (ns : List Nat) (r M : Nat), σ = [some (.ref p), some (.int h), some (.int f), some (.ref l), some (.int r), some (.int M), x, y, z] ∧ Chg2 p c H H2 ∧ PurseAt H2 p c (b + 3 * i) ∧ H2 l = some (.lst (pl ns)) ∧ ns.length = i ∧ ns.sum + r = h ∧ Fall h ns ∧ (∀ y ∈ ns, M ≤ y) ∧ M ≤ h ∧ r ≤ (f - i) * M) ?_ ?_ ?_
  · refine ⟨_, _, _, [], h, h, rfl, s1.to2, (hP.same s1).up (by walk_at "om"), h1', rfl, by simp, trivial, by simp, Nat.le_refl _, ?_⟩
    exact Nat.le_mul_of_pos_left h (by walk_at "om")
  · rintro i σ H2 hi ⟨x0, y0, z0, ns, r, M, rfl, c2, P2, e2, l2, t2, F2, a2, M2, r2⟩
    have hi : i < f := by walk_at "om"
    obtain ⟨lo1, lo2, lo3⟩ := low_facts (l := r) (k := f - i) (M := M) (by walk_at "om") (by walk_at "om") r2
    obtain ⟨lo, elo⟩ : ∃ lo : Nat, (r + (f - i) - 1) / (f - i) = lo := ⟨_, rfl⟩
    rw [elo] at lo1 lo2 lo3
    have dv : ((r : Int) + (f : Int) - (0 + (i : Int)) - 1) / ((f : Int) - (0 + (i : Int))) = (lo : Int) := by
      rw [show (r : Int) + (f : Int) - (0 + (i : Int)) - 1 = ((r + (f - i) - 1 : Nat) : Int) by walk_at "om", show (f : Int) - (0 + (i : Int)) = ((f - i : Nat) : Int) by walk_at "om", ← elo]
      rfl
    refine div_rd (by walk_at "om") (by walk_at "om") ?_
    rw [dv]
    walk_at "wh"
    obtain ⟨hg, eg⟩ : ∃ hg : Nat, (if (M : Int) < (r : Int) then (M : Int) else (r : Int)) = hg := ⟨if M < r then M else r, by split <;> split <;> omega⟩
    rw [eg]
    have hg1 : lo ≤ hg ∧ hg ≤ r ∧ hg ≤ M := by split at eg <;> omega
    refine draw_rd P2 (by walk_at "om") (by walk_at "om") (by walk_at "om") (fun d3 H3 d30 d31 c3 P3 => ?_)
    refine newL_rd (fun p5 H5 f5 s5 h5 => ?_)
    refine draw_rd (P3.same s5) (by walk_at "om") (by walk_at "om") (by walk_at "om") (fun d6 H6 d60 d61 c6 P6 => ?_)
    have h56 := c6 _ _ (P3.neP f5) (P3.neC f5) h5
    have e26 : H6 l = some (.lst (pl ns)) := c6 _ _ n1 n2 (s5 _ _ (c3 _ _ n1 n2 e2))
    walk_at "st"
    refine ixAny_rd h56 (by walk_at "om") (by simp only [List.length_cons, List.length_nil]; omega) ?_
    intro v hv
    obtain ⟨m, rfl, hm1, hm2⟩ : ∃ m : Nat, v = .int m ∧ lo ≤ m ∧ m ≤ hg := by
      simp only [List.mem_cons, List.not_mem_nil, or_false] at hv
      rcases hv with rfl | rfl | rfl
      · exact ⟨(lo + d3).toNat, by congr 1; omega, by walk_at "om", by walk_at "om"⟩
      · exact ⟨lo, rfl, by walk_at "om", by walk_at "om"⟩
      · exact ⟨hg, rfl, by walk_at "om", by walk_at "om"⟩
    clear hv
    refine lst_is e26 ?_
    refine app_rd e26 (by rw [pl_len, sizeLine_eq]; omega) (fun H7 c7 h7 => ?_)
    walk_at "wh"
    rw [show (r : Int) - (m : Int) = ((r - m : Nat) : Int) by walk_at "om"]
    have c26 : Chg2 p c H H6 := ((c2.trans c3).same s5).trans c6
    have lo4 := lo3 m hm1 (by walk_at "om")
    refine ⟨_, _, _, ns ++ [m], r - m, m, rfl, fun b o h1 h2 e => c7 _ _ (ne_of_none e f1) (c26 _ _ h1 h2 e), (P6.chg c7 (Ne.symm n1) (Ne.symm n2)).up (by walk_at "om"), ?_, by rw [List.length_append, l2]; rfl, by rw [List.sum_append]; simp; omega, F2.snoc (fun y hy => Nat.le_trans (by walk_at "om") (a2 y hy)) (by walk_at "om"), ?_, by walk_at "om", by rw [show f - (i + 1) = f - i - 1 by walk_at "om"]; exact lo4⟩
    · rw [h7]
      unfold pl
      rw [List.map_append]
      rfl
    · intro y hy
      rcases List.mem_append.mp hy with hy | hy
      · exact Nat.le_trans (by walk_at "om") (a2 y hy)
      · have : y = m := by simpa using hy
        omega
  · rintro σ H2 ⟨x0, y0, z0, ns, r, M, rfl, c2, P2, e2, l2, t2, F2, a2, M2, r2⟩
    rw [show ((f : Int) - 0).toNat = f by walk_at "om"] at l2 r2
    have r0 : r = 0 := by rw [Nat.sub_self, Nat.zero_mul] at r2; omega
    walk_at "wh"
    refine q l H2 ns ?_ c2 (P2.up (by walk_at "om")) n1 n2 e2 l2 (by walk_at "om") F2
    exact f1
/-! ### mixes of counts drawn -/
theorem MixAt.chg2 {H H' : Hp} {m p c : Addr} {ts : List (Addr × Addr)} {ms : List (List Int × Int)} (M : MixAt H m ts ms) (x : Chg2 p c H H') (n1 : m ≠ p) (n2 : m ≠ c) (o1 : Off p ts) (o2 : Off c ts) : MixAt H' m ts ms :=
  ⟨x _ _ n1 n2 M.out, M.len, fun i t y h1 h2 => ⟨x _ _ (o1 t (List.mem_of_getElem? h1)).1 (o2 t (List.mem_of_getElem? h1)).1 (M.part i t y h1 h2).1, x _ _ (o1 t (List.mem_of_getElem? h1)).2 (o2 t (List.mem_of_getElem? h1)).2 (M.part i t y h1 h2).2⟩⟩
theorem fall_adj : ∀ {ns : List Nat} {m i x y : Nat}, Fall m ns → ns[i]? = some x → ns[i + 1]? = some y → y ≤ x
  | [], _, i, x, y, _, h, _ => by simp at h
  | n :: ns, m, 0, x, y, F, h1, h2 => by
    have : n = x := by simpa using h1
    subst this
    cases ns with
    | nil => simp at h2
    | cons k ns =>
      have : k = y := by simpa using h2
      subst this
      exact F.2.1
  | n :: ns, m, i + 1, x, y, F, h1, h2 => fall_adj (ns := ns) (m := n) F.2 (by simpa using h1) (by simpa using h2)
theorem fall_B {ns : List Nat} {m : Nat} (h : Fall m ns) : fallB (il ns) = true := by
  unfold fallB
  rw [List.all_eq_true]
  intro i hi
  have hl : (il ns).length = ns.length := by unfold il; rw [List.length_map]
  have hi := List.mem_range.mp hi
  rw [hl] at hi
  obtain ⟨x, ex⟩ : ∃ x, ns[i]? = some x := ⟨_, List.getElem?_eq_getElem (by walk_at "om")⟩
  obtain ⟨y, ey⟩ : ∃ x, ns[i + 1]? = some x := ⟨_, List.getElem?_eq_getElem (by walk_at "om")⟩
  have := fall_adj h ex ey
  have e1 : (il ns).getD i 0 = x := by unfold il; rw [List.getD_eq_getElem?_getD, List.getElem?_map, ex]; rfl
  have e2 : (il ns).getD (i + 1) 0 = y := by unfold il; rw [List.getD_eq_getElem?_getD, List.getElem?_map, ey]; rfl
  rw [e1, e2]
  exact decide_eq_true (Int.ofNat_le.mpr this)
abbrev OkY (h f : Int) (x : List Int × Int) : Prop := ((∀ n ∈ x.1, 0 ≤ n) ∧ (x.1.length : Int) = f ∧ x.1.sum = h ∧ 1 ≤ x.2) ∧ fallB x.1 = true ∧ x.2 ≤ 10 ^ 30
@[irreducible] def sp__law_mix : Sp := fun vs H Q _ => ∃ (p c : Addr) (b : Int), vs = [.ref p] ∧ PurseAt H p c b ∧ b ≤ 90000 ∧ ∀ m ts ms (h f : Int) H', Chg2 p c H H' → PurseAt H' p c (b + 1000) → H m = none → MixAt H' m ts ms → (m ≠ p ∧ m ≠ c) → Off p ts → Off c ts → (1 ≤ ms.length ∧ ms.length ≤ 5) → (0 ≤ h ∧ h ≤ 40) → (1 ≤ f ∧ f ≤ 8) → (∀ x ∈ ms, OkY h f x) → Q (.ref m) H'
theorem law_mix_rd {H : Hp} {p c : Addr} {b : Int} {Q : VK} {E : XK} (hP : PurseAt H p c b) (hb : b ≤ 90000) (q : ∀ m ts ms (h f : Int) H', Chg2 p c H H' → PurseAt H' p c (b + 1000) → H m = none → MixAt H' m ts ms → (m ≠ p ∧ m ≠ c) → Off p ts → Off c ts → (1 ≤ ms.length ∧ ms.length ≤ 5) → (0 ≤ h ∧ h ≤ 40) → (1 ≤ f ∧ f ≤ 8) → (∀ x ∈ ms, OkY h f x) → Q (.ref m) H') : sp__law_mix [.ref p] H Q E := by unfold sp__law_mix; exact ⟨p, c, b, rfl, hP, hb, q⟩
set_option maxHeartbeats 0 in
theorem ok__law_mix {f : Addr} {fd : FuncData} (F : Fun K "_law_mix" "_law_mix" s__law_mix f fd) (N : Nm mg) (D__law_counts : Def P w K mg base CX0 2 "_law_counts" ["_law_purse_here", "_law_hosts", "_law_fields"] sp__law_counts) (D__law_draw : Def P w K mg base CX0 1 "_law_draw" ["_law_purse_here", "_law_out_of"] sp__law_draw) : FnOk P w K mg base CX0 3 f fd ["_law_purse_here"] sp__law_mix := by
  refine F.ok sc__law_mix (fun vs H Q E h => by unfold sp__law_mix at h; obtain ⟨_, _, _, rfl, _⟩ := h; rfl) (fun cdv A outer s H vs Q E hr h => ?_)
  unfold sp__law_mix at h
  obtain ⟨p, c, b, rfl, hP, hb, q⟩ := h
  refine ⟨_, (pss_cons (psS (i := 1) sc__law_mix.nd (pD D__law_draw hr pass0 (pa_cons (pq 0) (pa_cons pe_int pa_nil))))
      (pss_cons (psS (i := 2) sc__law_mix.nd (pD D__law_draw hr pass0 (pa_cons (pq 0) (pa_cons (peIxK (K := K) rfl (peLst (pa_cons pe_int (pa_cons pe_int pa_nil))) (pq 1)) pa_nil))))
      (pss_cons (psS (i := 3) sc__law_mix.nd (pe_op oAdd pe_int (pD D__law_draw hr pass0 (pa_cons (pq 0) (pa_cons (peIxK (K := K) rfl (peLst (pa_cons pe_int (pa_cons pe_int pa_nil))) (pq 1)) pa_nil)))))
      (pss_cons (psS (i := 4) sc__law_mix.nd (peLst pa_nil))
      (pss_cons (psFor PassesOwn.never rfl (piRng1 N.range_ (pa_cons (pe_op oAdd pe_int (pD D__law_draw hr pass0 (pa_cons (pq 0) (pa_cons pe_int pa_nil)))) pa_nil)) (pg_name (i := 5) sc__law_mix.nd rfl (by first | exact Or.inl rfl | exact Or.inr rfl)) (pss_cons (psS (i := 6) sc__law_mix.nd (pD D__law_counts hr pass0 (pa_cons (pq 0) (pa_cons (pq 2) (pa_cons (pq 3) pa_nil)))))
      (pss_one (ps_expr (peM_append (pq 4) (pa_cons (peTup (pa_cons (pq 6) (pa_cons (pe_op oAdd pe_int (pD D__law_draw hr pass0 (pa_cons (pq 0) (pa_cons (peIxK (K := K) rfl (peLst (pa_cons pe_int (pa_cons (pe_op oPow pe_int pe_int) pa_nil))) (pD D__law_draw hr pass0 (pa_cons (pq 0) (pa_cons pe_int pa_nil)))) pa_nil)))) pa_nil))) pa_nil))))))
      (pss_one (ps_ret (pq 4)))))))), ?_⟩
  refine draw_rd hP (by walk_at "om") (by walk_at "om") (by walk_at "om") (fun wd H1 w0 w1 c1 P1 => ?_)
  refine newL_rd (fun l2 H2 f2 s2 h2 => ?_)
  refine ixAny_rd h2 w0 (by simp only [List.length_cons, List.length_nil]; omega) ?_
  intro v hv
  obtain ⟨t1, rfl, t11, t12⟩ : ∃ t : Int, v = .int t ∧ 1 ≤ t ∧ t ≤ 41 := by
    simp only [List.mem_cons, List.not_mem_nil, or_false] at hv
    rcases hv with rfl | rfl <;> exact ⟨_, rfl, by walk_at "om", by walk_at "om"⟩
  clear hv
  refine draw_rd (P1.same s2) (by walk_at "om") (by walk_at "om") (by walk_at "om") (fun dh H3 h30 h31 c3 P3 => ?_)
  obtain ⟨hh, rfl⟩ : ∃ n : Nat, dh = n := ⟨dh.toNat, by walk_at "om"⟩
  refine newL_rd (fun l4 H4 f4 s4 h4 => ?_)
  refine ixAny_rd h4 w0 (by simp only [List.length_cons, List.length_nil]; omega) ?_
  intro v hv
  obtain ⟨t2, rfl, t21, t22⟩ : ∃ t : Int, v = .int t ∧ 1 ≤ t ∧ t ≤ 8 := by
    simp only [List.mem_cons, List.not_mem_nil, or_false] at hv
    rcases hv with rfl | rfl <;> exact ⟨_, rfl, by walk_at "om", by walk_at "om"⟩
  clear hv
  refine draw_rd (P3.same s4) (by walk_at "om") (by walk_at "om") (by walk_at "om") (fun df H5 d50 d51 c5 P5 => ?_)
  obtain ⟨ff, eff⟩ : ∃ ff : Nat, 1 + df = ff := ⟨(1 + df).toNat, by walk_at "om"⟩
  walk_at "wh"
  rw [eff]
  refine newL_rd (fun fd H6 f6 s6 h6 => ?_)
  have P6 := P5.same s6
  have c05 : Chg2 p c H H5 := ((((c1.same s2).trans c3).same s4).trans c5)
  have nfp : fd ≠ p := P5.neP f6
  have nfc : fd ≠ c := P5.neC f6
  have ffd : H fd = none := Chg2.free c05 f6 nfp nfc
  refine draw_rd P6 (by walk_at "om") (by walk_at "om") (by walk_at "om") (fun dm H7 d70 d71 c7 P7 => ?_)
  have h7 := c7 _ _ nfp nfc h6
  have c07 : ∀ x o, x ≠ p → x ≠ c → H x = some o → H7 x = some o := fun x o z1 z2 e => c7 _ _ z1 z2 (s6 _ _ (c05 _ _ z1 z2 e))
  refine range_rd (by decide) (by decide) (by walk_at "om") (by walk_at "om") ?_
  obtain ⟨kn, ekn⟩ : ∃ kn : Nat, (1 + dm - 0).toNat = kn := ⟨_, rfl⟩
  rw [ekn]
  have k1 : 1 ≤ kn ∧ kn ≤ 5 := by walk_at "om"
  refine loop_range (fun i σ I => ∃ (x5 x6 : Option V) (ts : List (Addr × Addr)) (ms : List (List Int × Int)), σ = [some (.ref p), some (.int wd), some (.int hh), some (.int ff), some (.ref fd), x5, x6] ∧ (∀ x o, x ≠ p → x ≠ c → H x = some o → I x = some o) ∧ PurseAt I p c (b + 10 + 40 * i) ∧ MixAt I fd ts ms ∧ (Off p ts ∧ Off c ts ∧ Off fd ts) ∧ ms.length = i ∧ ∀ x ∈ ms, OkY hh ff x) ?_ ?_ ?_
  · exact ⟨_, _, [], [], rfl, c07, P7.up (by walk_at "om"), ⟨by rw [h7]; rfl, rfl, fun i t x g => by simp at g⟩, ⟨fun t ht => by (cases ht), fun t ht => by (cases ht), fun t ht => by (cases ht)⟩, rfl, by simp⟩
  · rintro i σ I hi ⟨x5, x6, ts, ms, rfl, kp, PI, M, ⟨o1, o2, o3⟩, ml, ok⟩
    have hi : i < kn := hi
    refine law_counts_rd PI (by walk_at "om") (by walk_at "om") (by walk_at "om") (by walk_at "om") (fun l I1 ns g1 e1 P1' n1 n2 k1' nl nsum fal => ?_)
    have M1 := M.chg2 e1 nfp nfc o1 o2
    have nlf : l ≠ fd := Ne.symm (ne_of_none M.out g1)
    refine lst_is M1.out ?_
    walk_at "st"
    refine newL_rd (fun l2' I2 g2 r2 k2 => ?_)
    refine draw_rd (P1'.same r2) (by walk_at "om") (by walk_at "om") (by walk_at "om") (fun d3 I3 d30 d31 e3 P3' => ?_)
    have k23 := e3 _ _ (P1'.neP g2) (P1'.neC g2) k2
    refine ixAny_rd k23 d30 (by simp only [List.length_cons, List.length_nil]; omega) ?_
    intro v hv
    obtain ⟨t3, rfl, t31, t32⟩ : ∃ t : Int, v = .int t ∧ 1 ≤ t ∧ t ≤ 10 ^ 29 := by
      simp only [List.mem_cons, List.not_mem_nil, or_false] at hv
      rcases hv with rfl | rfl <;> exact ⟨_, rfl, by walk_at "om", by walk_at "om"⟩
    clear hv k23 k2
    refine draw_rd P3' (by walk_at "om") (by walk_at "om") (by walk_at "om") (fun d4 I4 d40 d41 e4 P4' => ?_)
    have E4 : Chg2 p c I I4 := ((e1.same r2).trans e3).trans e4
    have M4 := M.chg2 E4 nfp nfc o1 o2
    have k14 : I4 l = some (.lst (pl ns)) := e4 _ _ n1 n2 (e3 _ _ n1 n2 (r2 _ _ k1'))
    refine newT_rd (fun tp I5 g5 r5 k5 => ?_)
    have M5 := M4.same r5
    have ntp : tp ≠ p := P4'.neP g5
    have ntc : tp ≠ c := P4'.neC g5
    have ntf : tp ≠ fd := Ne.symm (ne_of_none M4.out g5)
    refine app_rd M5.out (by rw [List.length_map, M5.len, sizeLine_eq]; omega) (fun I6 c6 k6 => ?_)
    walk_at "wh"
    have ill : (il ns).length = ns.length := by unfold il; rw [List.length_map]
    refine ⟨_, _, ts ++ [(tp, l)], ms ++ [(il ns, 1 + d4)], rfl, fun x o z1 z2 e => ?_, ((P4'.same r5).chg c6 (Ne.symm nfp) (Ne.symm nfc)).up (by walk_at "om"), ?_, ⟨o1.push ntp n1, o2.push ntc n2, o3.push ntf nlf⟩, by rw [List.length_append, ml]; rfl, fun x hx => ?_⟩
    · exact c6 _ _ (ne_of_none e ffd) (r5 _ _ (E4 _ _ z1 z2 (kp x o z1 z2 e)))
    · exact M5.push c6 o3 k6 (c6 _ _ ntf k5) (by rw [← pl_il]; exact c6 _ _ nlf (r5 _ _ k14))
    · rcases List.mem_append.mp hx with h | h
      · exact ok x h
      · rw [List.mem_singleton.mp h]
        refine ⟨⟨fun n hn => ?_, by show ((il ns).length : Int) = ff; omega, by show (il ns).sum = hh; rw [il_sum, nsum], by show 1 ≤ 1 + d4; omega⟩, fall_B fal, by show 1 + d4 ≤ 10 ^ 30; omega⟩
        unfold il at hn
        obtain ⟨k, _, rfl⟩ := List.mem_map.mp hn
        omega
  · rintro σ I ⟨x5, x6, ts, ms, rfl, kp, PI, M, ⟨o1, o2, o3⟩, ml, ok⟩
    walk_at "wh"
    exact q fd ts ms hh ff I (fun x o z1 z2 e => kp x o z1 z2 e) (PI.up (by walk_at "om")) ffd M ⟨nfp, nfc⟩ o1 o2 ⟨by walk_at "om", by walk_at "om"⟩ ⟨by walk_at "om", by walk_at "om"⟩ ⟨by walk_at "om", by walk_at "om"⟩ ok
-- @@split
/-! ### mixes bent: none of them is one -/
theorem goodR_of {d : PyData} (h : goodR d = true) : ∃ ds, d = .list ds ∧ (∀ x ∈ ds, partD x = true ∧ fallB (numsD (planOf x)) = true ∧ sizeD (numsD (planOf x)).sum (numsD (planOf x)).length = true) ∧ (∀ x ∈ ds, ∀ y ∈ ds, (numsD (planOf x)).length = (numsD (planOf y)).length ∧ (numsD (planOf x)).sum = (numsD (planOf y)).sum) ∧ ds ≠ [] := by
  cases d with
  | list ds =>
    unfold goodR at h
    rw [Bool.and_eq_true, mixD_list] at h
    simp only [Bool.and_eq_true, decide_eq_true_eq] at h
    obtain ⟨⟨⟨⟨h0, h1⟩, h2⟩, h3⟩, h4⟩ := h
    have h1 := List.all_eq_true.mp h1
    have h3 := List.all_eq_true.mp h3
    have h4 : ds.all (fun x => fallB (numsD (planOf x))) = true := h4
    have h4 := List.all_eq_true.mp h4
    have eq : ∀ x ∈ ds, (numsD (planOf x)).length = (firstP ds).length ∧ (numsD (planOf x)).sum = (firstP ds).sum := fun x hx => by
      have := h3 x hx
      unfold planD at this
      simp only [Bool.and_eq_true, decide_eq_true_eq] at this
      exact ⟨by walk_at "om", this.2⟩
    refine ⟨ds, rfl, fun x hx => ⟨h1 x hx, h4 x hx, by rw [(eq x hx).1, (eq x hx).2]; exact h2⟩, fun x hx y hy => ⟨(eq x hx).1.trans (eq y hy).1.symm, (eq x hx).2.trans (eq y hy).2.symm⟩, fun z => by rw [z] at h0; simp at h0⟩
  | _ => simp [goodR, mixD] at h
def vD : V → PyData
  | .int i => .int i
  | .bl b => .bool b
  | _ => .none
def WV (v : V) : Prop := (∃ i : Int, v = .int i) ∨ ∃ b : Bool, v = .bl b
def prD (ps : List (List Int × V)) : PyData := .list (ps.map fun x => .tuple [.list (x.1.map PyData.int), vD x.2])
theorem ints_sh {H : Hp} {p : Addr} {ns : List Int} (h : H p = some (.lst (ns.map V.int))) : ShV H (.ref p) (.list (ns.map PyData.int)) := .lst h (ShL.idx (by rw [List.length_map, List.length_map]) fun i x d h1 h2 => by
  rw [List.getElem?_map] at h1 h2
  obtain ⟨n, en, rfl⟩ := Option.map_eq_some_iff.mp h1
  rw [en] at h2
  cases h2
  exact .int n)
theorem vD_sh {H : Hp} {v : V} (h : WV v) : ShV H v (vD v) := by
  rcases h with ⟨i, rfl⟩ | ⟨b, rfl⟩
  · exact .int i
  · exact .bl b
theorem PrAt.sh {H : Hp} {m : Addr} {ts : List (Addr × Addr)} {ps : List (List Int × V)} (M : PrAt H m ts ps) (hw : ∀ x ∈ ps, WV x.2) : ShV H (.ref m) (prD ps) := .lst M.out (ShL.idx (by rw [List.length_map, List.length_map, M.len]) fun i x d h1 h2 => by
  obtain ⟨t, y, rfl, e1, e2, e3, e4⟩ := M.elt h1
  rw [List.getElem?_map, e2] at h2
  cases h2
  exact .tup e3 (.cons (ints_sh e4) (.cons (vD_sh (hw y (List.mem_of_getElem? e2))) .nil)))
theorem sml_ints {ns : List Int} (h : ns.length ≤ 1000) : sml (.list (ns.map PyData.int)) = true := by
  simp only [sml, Bool.and_eq_true, decide_eq_true_eq, List.length_map]
  refine ⟨h, smlAll_of fun d hd => ?_⟩
  obtain ⟨n, _, rfl⟩ := List.mem_map.mp hd
  rfl
theorem prD_sml {ps : List (List Int × V)} (hl : ps.length ≤ 1000) (h : ∀ x ∈ ps, x.1.length ≤ 1000) : sml (prD ps) = true := by
  unfold prD
  simp only [sml, Bool.and_eq_true, decide_eq_true_eq, List.length_map]
  refine ⟨hl, smlAll_of fun d hd => ?_⟩
  obtain ⟨x, hx, rfl⟩ := List.mem_map.mp hd
  have h1 := sml_ints (h x hx)
  have h2 : sml (vD x.2) = true := by cases x.2 <;> rfl
  simp [sml, smlAll, h1, h2] at *
  exact h1
theorem goodR_pr {ps : List (List Int × V)} (h : goodR (prD ps) = true) : (∀ x ∈ ps, fromD 1 (vD x.2) = true ∧ fallB x.1 = true) ∧ ∀ x ∈ ps, ∀ y ∈ ps, x.1.length = y.1.length ∧ x.1.sum = y.1.sum := by
  obtain ⟨ds, e, h1, h2, h3⟩ := goodR_of h
  unfold prD at e
  cases e
  have mem : ∀ x ∈ ps, PyData.tuple [.list (x.1.map PyData.int), vD x.2] ∈ ps.map fun x => PyData.tuple [.list (x.1.map PyData.int), vD x.2] := fun x hx => List.mem_map.mpr ⟨x, hx, rfl⟩
  have nums : ∀ (x : List Int × V), numsD (planOf (.tuple [.list (x.1.map PyData.int), vD x.2])) = x.1 := fun x => numsD_ints x.1
  refine ⟨fun x hx => ?_, fun x hx y hy => ?_⟩
  · obtain ⟨a, b, _⟩ := h1 _ (mem x hx)
    rw [nums] at b
    have a : (sendsD (.list (x.1.map PyData.int)) && fromD 1 (vD x.2)) = true := a
    rw [Bool.and_eq_true] at a
    exact ⟨a.2, b⟩
  · have := h2 _ (mem x hx) _ (mem y hy)
    rw [nums, nums] at this
    exact this
/-- what is put in the place of one part -/
def putP (ms : List (List Int × Int)) (i : Nat) (y : List Int × V) : List (List Int × V) := prM (ms.take i) ++ [y] ++ prM (ms.drop (i + 1))
theorem putP_mem {ms : List (List Int × Int)} {i : Nat} {y : List Int × V} : y ∈ putP ms i y := by unfold putP; simp
theorem putP_other {ms : List (List Int × Int)} {i : Nat} {y : List Int × V} (h1 : 1 < ms.length) : ∃ x ∈ ms, (x.1, V.int x.2) ∈ putP ms i y := by
  by_cases h : i = 0
  · subst h
    obtain ⟨x, ex⟩ : ∃ x, ms[1]? = some x := ⟨_, List.getElem?_eq_getElem h1⟩
    refine ⟨x, List.mem_of_getElem? ex, ?_⟩
    unfold putP prM
    refine List.mem_append_right _ (List.mem_map.mpr ⟨x, ?_, rfl⟩)
    exact List.mem_of_getElem? (i := 0) (by rw [List.getElem?_drop]; exact ex)
  · obtain ⟨x, ex⟩ : ∃ x, ms[0]? = some x := ⟨_, List.getElem?_eq_getElem (by walk_at "om")⟩
    refine ⟨x, List.mem_of_getElem? ex, ?_⟩
    unfold putP prM
    refine List.mem_append_left _ (List.mem_append_left _ (List.mem_map.mpr ⟨x, ?_, rfl⟩))
    exact List.mem_of_getElem? (i := 0) (by rw [List.getElem?_take_of_lt (by walk_at "om")]; exact ex)
theorem bad_of {ps : List (List Int × V)} (h : goodR (prD ps) = true → False) : goodR (prD ps) = false := by
  cases e : goodR (prD ps)
  · rfl
  · exact (h e).elim
theorem bad_w {ms : List (List Int × Int)} {i : Nat} {y : List Int × V} (h : fromD 1 (vD y.2) = false) : goodR (prD (putP ms i y)) = false := bad_of fun z => by
  have := ((goodR_pr z).1 y putP_mem).1
  rw [h] at this
  cases this
theorem bad_fall {ms : List (List Int × Int)} {i : Nat} {y : List Int × V} (h : fallB y.1 = false) : goodR (prD (putP ms i y)) = false := bad_of fun z => by
  have := ((goodR_pr z).1 y putP_mem).2
  rw [h] at this
  cases this
theorem bad_size {ms : List (List Int × Int)} {i : Nat} {y : List Int × V} {h f : Int} (hm : 1 < ms.length) (ok : ∀ x ∈ ms, (x.1.length : Int) = f ∧ x.1.sum = h) (hy : ¬ ((y.1.length : Int) = f ∧ y.1.sum = h)) : goodR (prD (putP ms i y)) = false := bad_of fun z => by
  obtain ⟨x, hx, mx⟩ := putP_other (i := i) (y := y) hm
  have e := (goodR_pr z).2 _ mx _ putP_mem
  have e1 : x.1.length = y.1.length := e.1
  have e2 : x.1.sum = y.1.sum := e.2
  have := ok x hx
  exact hy ⟨by walk_at "om", by walk_at "om"⟩
-- @@split
@[irreducible] def sp__law_bent : Sp := fun vs H Q _ => ∃ (p c m : Addr) (b : Int) (ts : List (Addr × Addr)) (ms : List (List Int × Int)) (h f : Int), vs = [.ref p, .ref m] ∧ PurseAt H p c b ∧ b ≤ 90000 ∧ MixAt H m ts ms ∧ (m ≠ p ∧ m ≠ c) ∧ (Off p ts ∧ Off c ts) ∧ (1 ≤ ms.length ∧ ms.length ≤ 5) ∧ (0 ≤ h ∧ h ≤ 40) ∧ (1 ≤ f ∧ f ≤ 8) ∧ (∀ x ∈ ms, OkY h f x) ∧
  ∀ r qs ps H', Chg2 p c H H' → PurseAt H' p c (b + 10) → PrAt H' r qs ps → ps.length ≤ 5 → (∀ x ∈ ps, WV x.2 ∧ x.1.length ≤ 9) → goodR (prD ps) = false → Q (.ref r) H'
theorem bent_rd {H : Hp} {p c m : Addr} {b : Int} {ts : List (Addr × Addr)} {ms : List (List Int × Int)} {h f : Int} {Q : VK} {E : XK} (hP : PurseAt H p c b) (hb : b ≤ 90000) (M : MixAt H m ts ms) (n : m ≠ p ∧ m ≠ c) (o1 : Off p ts) (o2 : Off c ts) (ml : 1 ≤ ms.length ∧ ms.length ≤ 5) (hh : 0 ≤ h ∧ h ≤ 40) (hf : 1 ≤ f ∧ f ≤ 8) (ok : ∀ x ∈ ms, OkY h f x) (q : ∀ r qs ps H', Chg2 p c H H' → PurseAt H' p c (b + 10) → PrAt H' r qs ps → ps.length ≤ 5 → (∀ x ∈ ps, WV x.2 ∧ x.1.length ≤ 9) → goodR (prD ps) = false → Q (.ref r) H') : sp__law_bent [.ref p, .ref m] H Q E := by
  unfold sp__law_bent; exact ⟨p, c, m, b, ts, ms, h, f, rfl, hP, hb, M, n, ⟨o1, o2⟩, ml, hh, hf, ok, q⟩
/-- a list of pairs with one put in the place of another -/
theorem put_at {H : Hp} {m r q ql : Addr} {ts : List (Addr × Addr)} {ms : List (List Int × Int)} {y : List Int × V} {i : Nat} (M : MixAt H m ts ms) (hi : i < ms.length) (hr : H r = some (.lst ((ts.take i).map (fun t => V.ref t.1) ++ [.ref q] ++ (ts.drop (i + 1)).map fun t => V.ref t.1))) (hq : H q = some (.tup [.ref ql, y.2])) (hl : H ql = some (.lst (y.1.map V.int))) : PrAt H r (ts.take i ++ [(q, ql)] ++ ts.drop (i + 1)) (putP ms i y) := by
  have tl := M.len
  refine ⟨by rw [hr, List.map_append, List.map_append]; rfl, ?_, fun k t x g1 g2 => ?_⟩
  · unfold putP prM
    simp only [List.length_append, List.length_map, List.length_take, List.length_drop, List.length_cons, List.length_nil]
    omega
  · have t1 : (ts.take i).length = i := by rw [List.length_take]; omega
    have t2 : (prM (ms.take i)).length = i := by unfold prM; rw [List.length_map, List.length_take]; omega
    unfold putP at g2
    rw [List.append_assoc] at g1 g2
    by_cases h1 : k < i
    · rw [List.getElem?_append_left (by walk_at "om"), List.getElem?_take_of_lt h1] at g1
      rw [List.getElem?_append_left (by walk_at "om")] at g2
      unfold prM at g2
      rw [List.getElem?_map, List.getElem?_take_of_lt h1] at g2
      obtain ⟨z, ez, rfl⟩ := Option.map_eq_some_iff.mp g2
      exact M.part k t z g1 ez
    · rw [List.getElem?_append_right (by walk_at "om"), t1] at g1
      rw [List.getElem?_append_right (by walk_at "om"), t2] at g2
      by_cases h2 : k = i
      · subst h2
        rw [Nat.sub_self] at g1 g2
        cases g1
        cases g2
        exact ⟨hq, hl⟩
      · obtain ⟨j, rfl⟩ : ∃ j, k = i + 1 + j := ⟨k - (i + 1), by walk_at "om"⟩
        rw [show i + 1 + j - i = j + 1 by walk_at "om"] at g1 g2
        have g1 : (ts.drop (i + 1))[j]? = some t := g1
        have g2 : (prM (ms.drop (i + 1)))[j]? = some x := g2
        rw [List.getElem?_drop] at g1
        unfold prM at g2
        rw [List.getElem?_map, List.getElem?_drop] at g2
        obtain ⟨z, ez, rfl⟩ := Option.map_eq_some_iff.mp g2
        exact M.part _ t z g1 ez
theorem fall_not {ns : List Int} {i : Nat} {x y : Int} (h1 : ns[i]? = some x) (h2 : ns[i + 1]? = some y) (h : x < y) : fallB ns = false := by
  cases e : fallB ns
  · rfl
  · unfold fallB at e
    have := List.all_eq_true.mp e i (List.mem_range.mpr (by have := (List.getElem?_eq_some_iff.mp h2).1; omega))
    have e1 : ns.getD i 0 = x := by rw [List.getD_eq_getElem?_getD, h1]; rfl
    have e2 : ns.getD (i + 1) 0 = y := by rw [List.getD_eq_getElem?_getD, h2]; rfl
    rw [e1, e2] at this
    have := of_decide_eq_true this
    omega
set_option maxHeartbeats 0 in
theorem ok__law_bent {f : Addr} {fd : FuncData} (F : Fun K "_law_bent" "_law_bent" s__law_bent f fd) (N : Nm mg) (D__law_draw : Def P w K mg base CX0 1 "_law_draw" ["_law_purse_here", "_law_out_of"] sp__law_draw) : FnOk P w K mg base CX0 2 f fd ["_law_purse_here", "_law_mix_here"] sp__law_bent := by
  refine F.ok sc__law_bent (fun vs H Q E h => by unfold sp__law_bent at h; obtain ⟨_, _, _, _, _, _, _, _, rfl, _⟩ := h; rfl) (fun cdv A outer s H vs Q E hr h => ?_)
  unfold sp__law_bent at h
  obtain ⟨p, c, m, b, ts, ms, h, f, rfl, hP, hb, M, ⟨nmp, nmc⟩, ⟨o1, o2⟩, ⟨m1, m2⟩, ⟨hh0, hh1⟩, ⟨hf0, hf1⟩, ok, q⟩ := h
  have hu := hu40 hr
  have tl := M.len
  refine ⟨_, (pss_cons (psS (i := 2) sc__law_bent.nd (pD D__law_draw hr pass0 (pa_cons (pq 0) (pa_cons (pB (cLenK (K := K) rfl) N.len_ bt_len (pa_cons (pq 1) pa_nil)) pa_nil))))
      (pss_cons (ps_asg (peIxK (K := K) rfl (pq 1) (pq 2)) (pgAnyK (K := K) (n := 2) rfl rfl (pgsCons (pg_name (i := 3) sc__law_bent.nd rfl (by first | exact Or.inl rfl | exact Or.inr rfl)) (pgsCons (pg_name (i := 4) sc__law_bent.nd rfl (by first | exact Or.inl rfl | exact Or.inr rfl)) pgsNil))))
      (pss_cons (psS (i := 5) sc__law_bent.nd (pD D__law_draw hr pass0 (pa_cons (pq 0) (pa_cons pe_int pa_nil))))
      (pss_cons (psC (i := 6) (N := ["_law_k", "_law_counts_here"]) (ks := [none, some 3]) sc__law_bent.nd (piRng2 N.range_ (pa_cons pe_int (pa_cons (pB (cLenK (K := K) rfl) N.len_ bt_len (pa_cons (pq 3) pa_nil)) pa_nil))) (fun cl C s3 H3 fp => (pg_name (i := 0) nb_9 rfl (by first | exact Or.inl rfl | exact Or.inr rfl))) (fun cl C s3 H3 fp => (pts_one (ptC oLt (peIxK (K := K) rfl (pq 1) (pq 0)) (peIxK (K := K) rfl (pq 1) (pe_op oSub (pq 0) pe_int))))) (fun cl C s3 H3 fp => (pq 0)) (.skip (.take rfl rfl (by first | exact Or.inl rfl | exact Or.inr rfl) .nil)))
      (pss_cons (psS (i := 7) sc__law_bent.nd (pD D__law_draw hr pass0 (pa_cons (pq 0) (pa_cons (pe_op oAdd (pB (cLenK (K := K) rfl) N.len_ bt_len (pa_cons (pq 3) pa_nil)) pe_int) pa_nil))))
      (pss_cons (psS (i := 8) sc__law_bent.nd (peLst (pa_cons (peTup (pa_cons (pq 3) (pa_cons pe_int pa_nil))) (pa_cons (peTup (pa_cons (pq 3) (pa_cons (pe_op oSub pe_int (pq 4)) pa_nil))) (pa_cons (peTup (pa_cons (pq 3) (pa_cons pe_bl pa_nil))) (pa_cons (peTup (pa_cons (pe_op oAdd (pq 3) (peLst (pa_cons pe_int pa_nil))) (pa_cons (pq 4) pa_nil))) pa_nil))))))
      (pss_cons (psS (i := 9) sc__law_bent.nd (peIxK (K := K) rfl (pe_op oAdd (pq 8) (pq 8)) (pq 5)))
      (pss_cons (psCut (psIf (ptW (pwAnd (ptC (oEqK (K := K) rfl (by exact hu)) (pq 5) pe_int) (pw_and1 (ptC (oEqK (K := K) rfl (by exact hu)) (pB (cLenK (K := K) rfl) N.len_ bt_len (pa_cons (pq 1) pa_nil)) pe_int)))) (pss_one (psS (i := 9) sc__law_bent.nd (peTup (pa_cons (pq 3) (pa_cons pe_int pa_nil))))) pss_nil))
      (pss_cons (psIf (ptC (oEqK (K := K) rfl (by exact hu)) (pq 5) pe_int) (pss_one (ps_ret (peLst pa_nil))) pss_nil)
      (pss_cons (psCut (psIf (ptW (pwAnd (ptC (oEqK (K := K) rfl (by exact hu)) (pq 5) pe_int) (pw_and1 (ptC (oNeK (K := K) rfl (by exact hu)) (pq 6) (peLst pa_nil))))) (pss_cons (psS (i := 10) sc__law_bent.nd (peIxK (K := K) rfl (pq 6) (pe_op oMod (pq 7) (pB (cLenK (K := K) rfl) N.len_ bt_len (pa_cons (pq 6) pa_nil)))))
      (pss_cons (psS (i := 11) sc__law_bent.nd (pe_op oAdd (pe_op oAdd (pe_slice (slK (K := K) rfl) (pq 3) po_none (poSome (pe_op oSub (pq 10) pe_int))) (peLst (pa_cons (peIxK (K := K) rfl (pq 3) (pq 10)) (pa_cons (peIxK (K := K) rfl (pq 3) (pe_op oSub (pq 10) pe_int)) pa_nil)))) (pe_slice (slK (K := K) rfl) (pq 3) (poSome (pe_op oAdd (pq 10) pe_int)) po_none)))
      (pss_one (psS (i := 9) sc__law_bent.nd (peTup (pa_cons (pq 11) (pa_cons (pq 4) pa_nil))))))) pss_nil))
      (pss_cons (psCut (psIf (ptW (pwAnd (ptC (oEqK (K := K) rfl (by exact hu)) (pq 5) pe_int) (pw_and1 (ptC oGt (pB (cLenK (K := K) rfl) N.len_ bt_len (pa_cons (pq 1) pa_nil)) pe_int)))) (pss_one (psS (i := 9) sc__law_bent.nd (peTup (pa_cons (pe_op oAdd (peLst (pa_cons (pe_op oAdd (peIxK (K := K) rfl (pq 3) pe_int) pe_int) pa_nil)) (pe_slice (slK (K := K) rfl) (pq 3) (poSome pe_int) po_none)) (pa_cons (pq 4) pa_nil))))) pss_nil))
      (pss_one (ps_ret (pe_op oAdd (pe_op oAdd (pe_slice (slK (K := K) rfl) (pq 1) po_none (poSome (pq 2))) (peLst (pa_cons (pq 9) pa_nil))) (pe_slice (slK (K := K) rfl) (pq 1) (poSome (pe_op oAdd (pq 2) pe_int)) po_none))))))))))))))), ?_⟩
  refine lenL_rd M.out ?_
  rw [List.length_map, tl]
  refine draw_rd hP (by walk_at "om") (by walk_at "om") (by walk_at "om") (fun at_ H1 a0 a1 c1 P1 => ?_)
  have M1 := M.chg2 c1 nmp nmc o1 o2
  obtain ⟨i, rfl⟩ : ∃ i : Nat, at_ = i := ⟨at_.toNat, by walk_at "om"⟩
  have il : i < ms.length := by walk_at "om"
  obtain ⟨x, ex⟩ : ∃ x, ms[i]? = some x := ⟨_, List.getElem?_eq_getElem il⟩
  obtain ⟨⟨x1, x2, x3, x4⟩, x5, x6⟩ := ok x (List.mem_of_getElem? ex)
  obtain ⟨t, et, at0, ht, hp⟩ := M1.ix ex
  have ntp := (o1 t (List.mem_of_getElem? et))
  have ntc := (o2 t (List.mem_of_getElem? et))
  refine ixL_rd (v := .ref t.1) M1.out at0 ?_
  refine unpT_rd ht ?_
  refine draw_rd P1 (by walk_at "om") (by walk_at "om") (by walk_at "om") (fun wy H2 w0 w1 c2 P2 => ?_)
  have hp2 := c2 _ _ ntp.2 ntc.2 hp
  refine lenL_rd hp2 ?_
  rw [List.length_map]
  obtain ⟨n, en⟩ : ∃ n : Nat, x.1.length = n := ⟨_, rfl⟩
  have n8 : 1 ≤ n ∧ n ≤ 8 := by walk_at "om"
  rw [en]
  refine range_rd (by decide) (by decide) (by walk_at "om") (by walk_at "om") ?_
  rw [show ((n : Int) - 1).toNat = n - 1 by walk_at "om"]
  refine comp_I (n := n - 1) Wk.range (by rw [sizeLine_eq]; omega) (fun i => .int (1 + i)) (fun i => decide (x.1.getD (i + 1) 0 < x.1.getD i 0)) (fun j σ => ∃ u : Option V, σ = [u, some (.ref t.2)]) ⟨none, rfl⟩ ?_ ?_
  · rintro j v σ I R S hj s1 rfl ⟨u, rfl⟩ k1 k2
    have hj : j < n - 1 := hj
    obtain ⟨y, ey⟩ : ∃ y, x.1[j]? = some y := ⟨_, List.getElem?_eq_getElem (by walk_at "om")⟩
    obtain ⟨z, ez⟩ : ∃ y, x.1[j + 1]? = some y := ⟨_, List.getElem?_eq_getElem (by walk_at "om")⟩
    have e1 : x.1.getD j 0 = y := by rw [List.getD_eq_getElem?_getD, ey]; rfl
    have e2 : x.1.getD (j + 1) 0 = z := by rw [List.getD_eq_getElem?_getD, ez]; rfl
    rw [e1, e2] at k1 k2
    refine ixL_rd (v := .int z) (s1 _ _ hp2) (by rw [show (1 : Int) + (j : Int) = ((j + 1 : Nat) : Int) by walk_at "om"]; exact atI_nat (by rw [List.getElem?_map, ez]; rfl)) ?_
    refine ixL_rd (v := .int y) (s1 _ _ hp2) (by rw [show (1 : Int) + (j : Int) - 1 = ((j : Nat) : Int) by walk_at "om"]; exact atI_nat (by rw [List.getElem?_map, ey]; rfl)) ?_
    refine br_dec (fun g => ?_) (fun g => ?_)
    · walk_at "wh"
      exact k1 (decide_eq_true g) _ _ (Same.refl _) ⟨_, rfl⟩
    · exact k2 (decide_eq_false g) _ _ (Same.refl _) ⟨_, rfl⟩
  intro lw H3 f3 s3 h3
  obtain ⟨idx, eidx⟩ : ∃ idx, (List.range (n - 1)).filter (fun i => decide (x.1.getD (i + 1) 0 < x.1.getD i 0)) = idx := ⟨_, rfl⟩
  rw [eidx] at h3
  have idm : ∀ j ∈ idx, j + 1 < n ∧ x.1.getD (j + 1) 0 < x.1.getD j 0 := fun j hj => by
    rw [← eidx] at hj
    obtain ⟨h1, h2⟩ := List.mem_filter.mp hj
    exact ⟨by have := List.mem_range.mp h1; omega, of_decide_eq_true h2⟩
  have idl : idx.length ≤ 8 := by
    have := List.length_filter_le (fun i => decide (x.1.getD (i + 1) 0 < x.1.getD i 0)) (List.range (n - 1))
    rw [eidx, List.length_range] at this
    omega
  have nlp : lw ≠ p := P2.neP f3
  have nlc : lw ≠ c := P2.neC f3
  have hp3 := s3 _ _ hp2
  refine lenL_rd hp3 ?_
  rw [List.length_map, en]
  refine draw_rd (P2.same s3) (by walk_at "om") (by walk_at "om") (by walk_at "om") (fun kk H4 k0 k1 c4 P4 => ?_)
  have c04 : Chg2 p c H H4 := ((c1.trans c2).same s3).trans c4
  have M4 := M.chg2 c04 nmp nmc o1 o2
  have hp4 := c4 _ _ ntp.2 ntc.2 hp3
  have h4 := c4 _ _ nlp nlc h3
  have P4 : PurseAt H4 p c (b + 5) := P4.up (by walk_at "om")
  clear P1 P2 M1 hp hp2 hp3 h3 ht
  refine newT_rd (fun t1 I1 g1 r1 e1 => ?_)
  refine newT_rd (fun t2 I2 g2 r2 e2 => ?_)
  refine newT_rd (fun t3 I3 g3 r3 e3 => ?_)
  have y3 := (r1.trans r2).trans r3
  refine newL_rd (fun z4 I4 g4 r4 e4 => ?_)
  refine cat_rd ((y3.trans r4) _ _ hp4) e4 (by rw [List.length_map, List.length_singleton, sizeLine_eq]; omega) (fun z5 I5 g5 r5 e5 => ?_)
  have e5 : I5 z5 = some (.lst ((x.1 ++ [0]).map V.int)) := by rw [e5, List.map_append]; rfl
  refine newT_rd (fun t4 I6 g6 r6 e6 => ?_)
  refine newL_rd (fun so I7 g7 r7 e7 => ?_)
  refine cat_rd e7 e7 (by simp only [List.length_cons, List.length_nil, sizeLine_eq]; decide) (fun so2 I8 g8 r8 e8 => ?_)
  have w7 := r7.trans r8
  have w6 := r6.trans w7
  have w5 := r5.trans w6
  have w4 := r4.trans w5
  have w3 := r3.trans w4
  have w2 := r2.trans w3
  have w18 := r1.trans w2
  have hp8 := w18 _ _ hp4
  have h8 := w18 _ _ h4
  have M8 := M4.same w18
  have P8 := P4.same w18
  have c08 : Chg2 p c H I8 := c04.same w18
  obtain ⟨q0, ql, y0, at8, tq, tql, wv, yl, yb, y3'⟩ : ∃ (q0 ql : Addr) (y0 : List Int × V), atI ([V.ref t1, .ref t2, .ref t3, .ref t4] ++ [V.ref t1, .ref t2, .ref t3, .ref t4]) wy = some (.ref q0) ∧ I8 q0 = some (.tup [.ref ql, y0.2]) ∧ I8 ql = some (.lst (y0.1.map V.int)) ∧ WV y0.2 ∧ y0.1.length ≤ 9 ∧ (wy ≠ 3 → fromD 1 (vD y0.2) = false) ∧ (wy = 3 → y0 = (x.1 ++ [0], .int x.2)) := by
    have a1 := w2 _ _ e1
    have a2 := w3 _ _ e2
    have a3 := w4 _ _ e3
    have a4 := w7 _ _ e6
    have a5 := w6 _ _ e5
    have neg : fromD 1 (vD (.int (0 - x.2))) = false := decide_eq_false (by walk_at "om")
    have : wy = 0 ∨ wy = 1 ∨ wy = 2 ∨ wy = 3 ∨ wy = 4 ∨ wy = 5 ∨ wy = 6 := by walk_at "om"
    rcases this with rfl | rfl | rfl | rfl | rfl | rfl | rfl
    · exact ⟨t1, t.2, (x.1, .int 0), rfl, a1, hp8, .inl ⟨_, rfl⟩, by show x.1.length ≤ 9; omega, fun _ => rfl, fun z => by cases z⟩
    · exact ⟨t2, t.2, (x.1, .int (0 - x.2)), rfl, a2, hp8, .inl ⟨_, rfl⟩, by show x.1.length ≤ 9; omega, fun _ => neg, fun z => by cases z⟩
    · exact ⟨t3, t.2, (x.1, .bl true), rfl, a3, hp8, .inr ⟨_, rfl⟩, by show x.1.length ≤ 9; omega, fun _ => rfl, fun z => by cases z⟩
    · exact ⟨t4, z5, (x.1 ++ [0], .int x.2), rfl, a4, a5, .inl ⟨_, rfl⟩, by show (x.1 ++ [0]).length ≤ 9; rw [List.length_append, List.length_singleton]; omega, fun z => absurd rfl z, fun _ => rfl⟩
    · exact ⟨t1, t.2, (x.1, .int 0), rfl, a1, hp8, .inl ⟨_, rfl⟩, by show x.1.length ≤ 9; omega, fun _ => rfl, fun z => by cases z⟩
    · exact ⟨t2, t.2, (x.1, .int (0 - x.2)), rfl, a2, hp8, .inl ⟨_, rfl⟩, by show x.1.length ≤ 9; omega, fun _ => neg, fun z => by cases z⟩
    · exact ⟨t3, t.2, (x.1, .bl true), rfl, a3, hp8, .inr ⟨_, rfl⟩, by show x.1.length ≤ 9; omega, fun _ => rfl, fun z => by cases z⟩
  clear w2 w3 w4 w5 w6 w7 e1 e2 e3 e4 e5 e6 e7 y3
  have okf : ∀ x ∈ ms, (x.1.length : Int) = f ∧ x.1.sum = h := fun x hx => ⟨(ok x hx).1.2.1, (ok x hx).1.2.2.1⟩
  refine ixL_rd (v := .ref q0) e8 at8 ?_
  refine cut_rd (fun σ J => ∃ (q0 ql : Addr) (y0 : List Int × V), σ = [some (.ref p), some (.ref m), some (.int i), some (.ref t.2), some (.int x.2), some (.int wy), some (.ref lw), some (.int kk), some (.ref so), some (.ref q0), none, none] ∧ Same I8 J ∧ J q0 = some (.tup [.ref ql, y0.2]) ∧ J ql = some (.lst (y0.1.map V.int)) ∧ WV y0.2 ∧ y0.1.length ≤ 9 ∧ goodR (prD (putP ms i y0)) = false) ?_ ?_
  · walk_at "wh"
    refine br_dec (fun w3 => ?_) (fun w3 => ?_)
    · walk_at "wh"
      refine lenL_rd M8.out ?_
      rw [List.length_map, tl]
      refine br_dec (fun l1 => ?_) (fun l1 => ?_)
      · walk_at "wh"
        refine newT_rd (fun q1 J1 b1 v1 d1 => ?_)
        walk_at "wh"
        exact ⟨q1, t.2, (x.1, .int 0), rfl, v1, d1, v1 _ _ hp8, .inl ⟨_, rfl⟩, by show x.1.length ≤ 9; omega, bad_w rfl⟩
      · walk_at "wh"
        refine ⟨q0, ql, y0, rfl, Same.refl _, tq, tql, wv, yl, bad_size (h := h) (f := f) (by walk_at "om") okf (fun z => ?_)⟩
        rw [y3' w3] at z
        have : ((x.1 ++ [0]).length : Int) = f := z.1
        rw [List.length_append, List.length_singleton] at this
        omega
    · walk_at "wh"
      refine br_F ?_
      walk_at "wh"
      exact ⟨q0, ql, y0, rfl, Same.refl _, tq, tql, wv, yl, bad_w (yb w3)⟩
  clear tq tql wv yl yb y3' at8 q0 ql y0
  rintro σ J ⟨q0, ql, y0, rfl, sJ, tq, tql, wv, yl, bad⟩
  refine br_dec (fun w4 => ?_) (fun w4 => ?_)
  · walk_at "wh"
    refine newL_rd (fun r J1 b1 v1 d1 => ?_)
    walk_at "wh"
    exact q r [] [] J1 ((c08.same sJ).same v1) (((P8.same sJ).same v1).up (by walk_at "om")) ⟨d1, rfl, fun k t x g => by simp at g⟩ (by simp) (by simp) rfl
  have hpJ := sJ _ _ hp8
  have hJ := sJ _ _ h8
  refine cut_rd (fun σ J' => ∃ (q0 ql : Addr) (y0 : List Int × V) (x10 x11 : Option V), σ = [some (.ref p), some (.ref m), some (.int i), some (.ref t.2), some (.int x.2), some (.int wy), some (.ref lw), some (.int kk), some (.ref so), some (.ref q0), x10, x11] ∧ Same J J' ∧ J' q0 = some (.tup [.ref ql, y0.2]) ∧ J' ql = some (.lst (y0.1.map V.int)) ∧ WV y0.2 ∧ y0.1.length ≤ 9 ∧ goodR (prD (putP ms i y0)) = false) ?_ ?_
  · walk_at "wh"
    refine br_dec (fun w5 => ?_) (fun w5 => ?_)
    · walk_at "wh"
      refine newL_rd (fun z1 J1 b1 v1 d1 => ?_)
      refine eqO_rd (EqR.nilR (v1 _ _ hJ) d1) ?_
      rw [List.length_map]
      refine br_not (br_dec (fun l0 => ?_) (fun l0 => ?_))
      · walk_at "wh"
        exact ⟨q0, ql, y0, _, _, rfl, v1, v1 _ _ tq, v1 _ _ tql, wv, yl, bad⟩
      · walk_at "wh"
        refine lenL_rd (v1 _ _ hJ) ?_
        rw [List.length_map]
        refine modG_rd (by walk_at "om") (fun rk rk0 rk1 => ?_)
        refine ixAny_rd (v1 _ _ hJ) rk0 (by rw [List.length_map]; exact rk1) ?_
        intro v hv
        obtain ⟨j, hj, rfl⟩ := List.mem_map.mp hv
        obtain ⟨j1, j2⟩ := idm j hj
        obtain ⟨y, ey⟩ : ∃ y, x.1[j]? = some y := ⟨_, List.getElem?_eq_getElem (by walk_at "om")⟩
        obtain ⟨z, ez⟩ : ∃ y, x.1[j + 1]? = some y := ⟨_, List.getElem?_eq_getElem (by walk_at "om")⟩
        have ey' : x.1.getD j 0 = y := by rw [List.getD_eq_getElem?_getD, ey]; rfl
        have ez' : x.1.getD (j + 1) 0 = z := by rw [List.getD_eq_getElem?_getD, ez]; rfl
        rw [ey', ez'] at j2
        have hpv := v1 _ _ hpJ
        refine sl_rd (SqL.of hpv) (fun q2 J2 b2 v2 d2 => ?_)
        rw [cut_takeV (by walk_at "om"), show (1 + (j : Int) - 1).toNat = j by walk_at "om", ← List.map_take] at d2
        have hpv2 := v2 _ _ hpv
        refine ixL_rd (v := .int z) hpv2 (by rw [show (1 : Int) + (j : Int) = ((j + 1 : Nat) : Int) by walk_at "om"]; exact atI_nat (by rw [List.getElem?_map, ez]; rfl)) ?_
        refine ixL_rd (v := .int y) hpv2 (by rw [show (1 : Int) + (j : Int) - 1 = ((j : Nat) : Int) by walk_at "om"]; exact atI_nat (by rw [List.getElem?_map, ey]; rfl)) ?_
        refine newL_rd (fun q3 J3 b3 v3 d3 => ?_)
        refine cat_rd (v3 _ _ d2) d3 (by rw [List.length_map, List.length_take, sizeLine_eq]; simp only [List.length_cons, List.length_nil]; omega) (fun q4 J4 b4 v4 d4 => ?_)
        refine sl_rd (SqL.of ((v3.trans v4) _ _ hpv2)) (fun q5 J5 b5 v5 d5 => ?_)
        rw [cut_drop (by walk_at "om"), show (1 + (j : Int) + 1).toNat = j + 2 by walk_at "om", ← List.map_drop] at d5
        refine cat_rd (v5 _ _ d4) d5 (by rw [List.length_append, List.length_map, List.length_take, List.length_map, List.length_drop, sizeLine_eq]; simp only [List.length_cons, List.length_nil]; omega) (fun q6 J6 b6 v6 d6 => ?_)
        have d6 : J6 q6 = some (.lst ((x.1.take j ++ [z, y] ++ x.1.drop (j + 2)).map V.int)) := by rw [d6, List.map_append, List.map_append]; rfl
        refine newT_rd (fun q7 J7 b7 v7 d7 => ?_)
        walk_at "wh"
        have tj : (x.1.take j).length = j := by rw [List.length_take]; omega
        refine ⟨q7, q6, (x.1.take j ++ [z, y] ++ x.1.drop (j + 2), .int x.2), _, _, rfl, ((((((v1.trans v2).trans v3).trans v4).trans v5).trans v6).trans v7), d7, v7 _ _ d6, .inl ⟨_, rfl⟩, ?_, bad_fall (fall_not (i := j) (x := z) (y := y) ?_ ?_ j2)⟩
        · show (x.1.take j ++ [z, y] ++ x.1.drop (j + 2)).length ≤ 9
          rw [List.length_append, List.length_append, List.length_take, List.length_drop]
          simp only [List.length_cons, List.length_nil]
          omega
        · show (x.1.take j ++ [z, y] ++ x.1.drop (j + 2))[j]? = some z
          rw [List.append_assoc, List.getElem?_append_right (by walk_at "om"), tj, Nat.sub_self]
          rfl
        · show (x.1.take j ++ [z, y] ++ x.1.drop (j + 2))[j + 1]? = some y
          rw [List.append_assoc, List.getElem?_append_right (by walk_at "om"), tj, show j + 1 - j = 1 by walk_at "om"]
          rfl
    · walk_at "wh"
      refine br_F ?_
      walk_at "wh"
      exact ⟨q0, ql, y0, _, _, rfl, Same.refl _, tq, tql, wv, yl, bad⟩
  clear tq tql wv yl bad
  rintro σ J2 ⟨q0, ql, y0, x10, x11, rfl, sJ2, tq, tql, wv, yl, bad⟩
  have s82 := sJ.trans sJ2
  have hp82 := s82 _ _ hp8
  have M82 := M8.same s82
  refine cut_rd (fun σ J' => ∃ (q0 ql : Addr) (y0 : List Int × V) (x10 x11 : Option V), σ = [some (.ref p), some (.ref m), some (.int i), some (.ref t.2), some (.int x.2), some (.int wy), some (.ref lw), some (.int kk), some (.ref so), some (.ref q0), x10, x11] ∧ Same J2 J' ∧ J' q0 = some (.tup [.ref ql, y0.2]) ∧ J' ql = some (.lst (y0.1.map V.int)) ∧ WV y0.2 ∧ y0.1.length ≤ 9 ∧ goodR (prD (putP ms i y0)) = false) ?_ ?_
  · walk_at "wh"
    refine br_dec (fun w6 => ?_) (fun w6 => ?_)
    · walk_at "wh"
      refine lenL_rd M82.out ?_
      rw [List.length_map, tl]
      refine br_dec (fun l1 => ?_) (fun l1 => ?_)
      · obtain ⟨x0, rest, ex1⟩ : ∃ x0 rest, x.1 = x0 :: rest := by
          cases hx : x.1 with
          | nil => rw [hx] at en; simp at en; omega
          | cons a l => exact ⟨a, l, rfl⟩
        refine ixL_rd (v := .int x0) hp82 (atI_nat (j := 0) (by rw [ex1]; rfl)) ?_
        refine newL_rd (fun q3 J3 b3 v3 d3 => ?_)
        refine sl_rd (SqL.of (v3 _ _ hp82)) (fun q5 J5 b5 v5 d5 => ?_)
        rw [cut_drop (by decide), ← List.map_drop] at d5
        refine cat_rd (v5 _ _ d3) d5 (by rw [List.length_map, List.length_drop, sizeLine_eq]; simp only [List.length_cons, List.length_nil]; omega) (fun q6 J6 b6 v6 d6 => ?_)
        have d6 : J6 q6 = some (.lst (((x0 + 1) :: rest).map V.int)) := by rw [d6, ex1]; rfl
        refine newT_rd (fun q7 J7 b7 v7 d7 => ?_)
        walk_at "wh"
        refine ⟨q7, q6, ((x0 + 1) :: rest, .int x.2), _, _, rfl, (((v3.trans v5).trans v6).trans v7), d7, v7 _ _ d6, .inl ⟨_, rfl⟩, ?_, bad_size (h := h) (f := f) (by walk_at "om") okf (fun z => ?_)⟩
        · show ((x0 + 1) :: rest).length ≤ 9
          rw [List.length_cons]
          rw [ex1, List.length_cons] at en
          omega
        · have z2 : ((x0 + 1) :: rest).sum = h := z.2
          rw [List.sum_cons] at z2
          rw [ex1, List.sum_cons] at x3
          omega
      · walk_at "wh"
        exact ⟨q0, ql, y0, _, _, rfl, Same.refl _, tq, tql, wv, yl, bad⟩
    · walk_at "wh"
      refine br_F ?_
      walk_at "wh"
      exact ⟨q0, ql, y0, _, _, rfl, Same.refl _, tq, tql, wv, yl, bad⟩
  clear tq tql wv yl bad
  rintro σ J3 ⟨q0, ql, y0, x10', x11', rfl, sJ3, tq, tql, wv, yl, bad⟩
  have s83 := s82.trans sJ3
  have M83 := M8.same s83
  refine sl_rd (SqL.of M83.out) (fun q1 K1 b1 v1 d1 => ?_)
  rw [cut_takeV (by walk_at "om"), Int.toNat_natCast, ← List.map_take] at d1
  refine newL_rd (fun q2 K2 b2 v2 d2 => ?_)
  refine cat_rd (v2 _ _ d1) d2 (by rw [List.length_map, List.length_take, sizeLine_eq]; simp only [List.length_cons, List.length_nil]; omega) (fun q3 K3 b3 v3 d3 => ?_)
  have v13 := (v1.trans v2).trans v3
  refine sl_rd (SqL.of (v13 _ _ M83.out)) (fun q4 K4 b4 v4 d4 => ?_)
  rw [cut_drop (by walk_at "om"), show ((i : Int) + 1).toNat = i + 1 by walk_at "om", ← List.map_drop] at d4
  refine cat_rd (v4 _ _ d3) d4 (by rw [List.length_append, List.length_map, List.length_take, List.length_map, List.length_drop, sizeLine_eq]; simp only [List.length_cons, List.length_nil]; omega) (fun q5 K5 b5 v5 d5 => ?_)
  have v15 := (v13.trans v4).trans v5
  walk_at "wh"
  have okk : ∀ z ∈ putP ms i y0, WV z.2 ∧ z.1.length ≤ 9 := fun z hz => by
    unfold putP prM at hz
    have old : ∀ y ∈ ms, WV (V.int y.2) ∧ y.1.length ≤ 9 := fun y hy => ⟨.inl ⟨_, rfl⟩, by have := (ok y hy).1.2.1; omega⟩
    rcases List.mem_append.mp hz with hz | hz
    · rcases List.mem_append.mp hz with hz | hz
      · obtain ⟨y, hy, rfl⟩ := List.mem_map.mp hz
        exact old y (List.mem_of_mem_take hy)
      · rw [List.mem_singleton.mp hz]; exact ⟨wv, yl⟩
    · obtain ⟨y, hy, rfl⟩ := List.mem_map.mp hz
      exact old y (List.mem_of_mem_drop hy)
  refine q q5 _ (putP ms i y0) K5 ((c08.same s83).same v15) (((P8.same s83).same v15).up (by walk_at "om")) (put_at (M83.same v15) il d5 (v15 _ _ tq) (v15 _ _ tql)) ?_ okk bad
  unfold putP prM
  simp only [List.length_append, List.length_map, List.length_take, List.length_drop, List.length_cons, List.length_nil]
  omega
-- @@split
/-! ### a heap without two things -/
def rr (p c : Addr) (H : Hp) : Hp := rm p (rm c H)
theorem rr_at {p c b : Addr} {H : Hp} {o : HO} (n1 : b ≠ p) (n2 : b ≠ c) (h : H b = some o) : rr p c H b = some o := rm_at n1 (rm_at n2 h)
theorem rr_of {p c b : Addr} {H : Hp} {o : HO} (h : rr p c H b = some o) : b ≠ p ∧ b ≠ c ∧ H b = some o := ⟨(rm_of h).1, (rm_of (rm_of h).2).1, (rm_of (rm_of h).2).2⟩
theorem rr_same (p c : Addr) (H : Hp) : Same (rr p c H) H := fun b o h => (rr_of h).2.2
theorem Same.rr {p c : Addr} {H H' : Hp} (s : Same H H') : Same (rr p c H) (G.rr p c H') := fun b o h => rr_at (rr_of h).1 (rr_of h).2.1 (s _ _ (rr_of h).2.2)
/-! ### odd things: none of them is a mix -/
theorem shl_app {H : Hp} : ∀ {xs : List V} {ds : List PyData} {ys : List V} {es : List PyData}, ShL H xs ds → ShL H ys es → ShL H (xs ++ ys) (ds ++ es)
  | _, _, _, _, .nil, b => b
  | _, _, _, _, .cons h a, b => .cons h (shl_app a b)
def okC (x : Str) : Prop := ∀ c ∈ x.cps.toList, c < 16 ^ 8
theorem okC_app {x y : Str} (h1 : okC x) (h2 : okC y) : okC (x ++ y) := fun c hc => by
  have : (x ++ y).cps = x.cps ++ y.cps := rfl
  rw [this, Array.toList_append] at hc
  rcases List.mem_append.mp hc with h | h
  · exact h1 c h
  · exact h2 c h
theorem okC_of (s : String) : okC (Str.ofString s) := fun c hc => by
  rw [Str.ofString_eq_byList] at hc
  unfold Str.ofStringByList at hc
  have hc : c ∈ s.toList.map Char.toNat := by simpa using hc
  obtain ⟨k, _, rfl⟩ := List.mem_map.mp hc
  have := k.valid
  have h2 : k.toNat < 0x110000 := by
    rcases this with h | ⟨_, h⟩
    · have : k.toNat < 0xd800 := h
      omega
    · exact h
  omega
theorem okC_text : ∀ (ts : List Str) (k : Nat) (acc : Str), okC acc → (∀ t ∈ ts, okC t) → okC (textFrom k acc ts)
  | [], _, _, h, _ => h
  | t :: ts, k, acc, h, ht => okC_text ts (k + 1) _ (okC_app (okC_app h (okC_of _)) (ht t (.head _))) fun x hx => ht x (.tail _ hx)
theorem okC_ints (ns : List Int) : okC (PyData.shown (.list (ns.map PyData.int))) := by
  simp only [PyData.shown, listText]
  refine okC_app (okC_text _ _ _ (okC_of _) fun t ht => ?_) (okC_of _)
  have : ∀ (ns : List Int), PyData.shownAll (ns.map PyData.int) = ns.map fun i => Str.ofString (toString i) := fun ns => by
    induction ns with
    | nil => rfl
    | cons n ns ih => show PyData.shown (.int n) :: PyData.shownAll (ns.map PyData.int) = _; rw [ih]; rfl
  rw [this] at ht
  obtain ⟨n, _, rfl⟩ := List.mem_map.mp ht
  exact okC_of _
theorem shows_str {x : Str} {m : Nat} (h : okC x) (hl : x.length ≤ m) : Shows (.str x) 0 (10 * m + 2) := Shows.str (Nat.le_trans (PySem.StrLaws.reprText_len x h) (by walk_at "om"))
/-- a part that is none -/
def Bp (d : PyData) : Prop := partD d = false ∨ (numsD (planOf d)).length = 0
def RP (H : Hp) (v : V) (d : PyData) : Prop := ShV H v d ∧ sml d = true ∧ Shows d 6 1100000
theorem bad_list {ds : List PyData} {d : PyData} (hd : d ∈ ds) (hb : Bp d) : goodR (.list ds) = false := by
  cases e : goodR (.list ds)
  · rfl
  · obtain ⟨ds', e1, h1, _, _⟩ := goodR_of e
    cases e1
    obtain ⟨a, _, c⟩ := h1 d hd
    rcases hb with hb | hb
    · rw [hb] at a; cases a
    · unfold sizeD at c
      rw [hb] at c
      simp at c
theorem bad_great {ns : List Int} {w : Int} (h : ¬ (sizeD ns.sum ns.length = true)) : goodR (.list [.tuple [.list (ns.map PyData.int), .int w]]) = false := by
  cases e : goodR (.list [.tuple [.list (ns.map PyData.int), .int w]])
  · rfl
  · obtain ⟨ds', e1, h1, _, _⟩ := goodR_of e
    cases e1
    have := (h1 _ (.head _)).2.2
    rw [numsD_plan] at this
    exact absurd this h
theorem rp_ints {H : Hp} {p : Addr} {ns : List Int} (h : H p = some (.lst (ns.map V.int))) (hl : ns.length ≤ 12) (hb : ∀ x ∈ ns, -(10 ^ 100) ≤ x ∧ x ≤ 10 ^ 100) : ShV H (.ref p) (.list (ns.map PyData.int)) ∧ sml (.list (ns.map PyData.int)) = true ∧ Shows (.list (ns.map PyData.int)) 1 30000 := by
  refine ⟨ints_sh h, sml_ints (by walk_at "om"), (Shows.list (k := 0) (m := 1921) fun d hd => ?_).up (by walk_at "om") (by rw [List.length_map]; omega)⟩
  obtain ⟨n, hn, rfl⟩ := List.mem_map.mp hd
  exact Shows.int (hb n hn).1 (hb n hn).2
theorem rp_two {H : Hp} {q : Addr} {u v : V} {a b : PyData} (h : H q = some (.tup [u, v])) (hu : ShV H u a ∧ sml a = true ∧ Shows a 4 60000) (hv : ShV H v b ∧ sml b = true ∧ Shows b 4 60000) : RP H (.ref q) (.tuple [a, b]) := by
  refine ⟨.tup h (.cons hu.1 (.cons hv.1 .nil)), by simp [sml, smlAll, hu.2.1, hv.2.1], (Shows.tuple (k := 4) (m := 60000) fun d hd => ?_).up (by walk_at "om") (by simp)⟩
  simp only [List.mem_cons, List.not_mem_nil, or_false] at hd
  rcases hd with rfl | rfl
  · exact hu.2.2
  · exact hv.2.2
@[irreducible] def sp__law_odd : Sp := fun vs H Q _ => ∃ (p c m : Addr) (b : Int) (ts : List (Addr × Addr)) (ms : List (List Int × Int)) (h f : Int), vs = [.ref p, .ref m] ∧ PurseAt H p c b ∧ b ≤ 90000 ∧ MixAt H m ts ms ∧ (m ≠ p ∧ m ≠ c) ∧ (Off p ts ∧ Off c ts) ∧ (1 ≤ ms.length ∧ ms.length ≤ 5) ∧ (0 ≤ h ∧ h ≤ 40) ∧ (1 ≤ f ∧ f ≤ 8) ∧ (∀ x ∈ ms, OkY h f x) ∧
  ∀ v d H', PurseAt H' p c (b + 10) → ShV H' v d → sml d = true → Shows d 20 16000000 → goodR d = false → Q v H'
theorem odd_rd {H : Hp} {p c m : Addr} {b : Int} {ts : List (Addr × Addr)} {ms : List (List Int × Int)} {h f : Int} {Q : VK} {E : XK} (hP : PurseAt H p c b) (hb : b ≤ 90000) (M : MixAt H m ts ms) (n : m ≠ p ∧ m ≠ c) (o1 : Off p ts) (o2 : Off c ts) (ml : 1 ≤ ms.length ∧ ms.length ≤ 5) (hh : 0 ≤ h ∧ h ≤ 40) (hf : 1 ≤ f ∧ f ≤ 8) (ok : ∀ x ∈ ms, OkY h f x) (q : ∀ v d H', PurseAt H' p c (b + 10) → ShV H' v d → sml d = true → Shows d 20 16000000 → goodR d = false → Q v H') : sp__law_odd [.ref p, .ref m] H Q E := by
  unfold sp__law_odd; exact ⟨p, c, m, b, ts, ms, h, f, rfl, hP, hb, M, n, ⟨o1, o2⟩, ml, hh, hf, ok, q⟩
theorem mem_le_sumI : ∀ {ns : List Int}, (∀ x ∈ ns, 0 ≤ x) → (∀ x ∈ ns, x ≤ ns.sum) ∧ 0 ≤ ns.sum
  | [], _ => ⟨fun x h => by (cases h), Int.le_refl _⟩
  | n :: ns, h => by
    have h0 := h n (.head _)
    obtain ⟨i1, i2⟩ := mem_le_sumI (ns := ns) fun y hy => h y (.tail _ hy)
    rw [List.sum_cons]
    refine ⟨fun x hx => ?_, by walk_at "om"⟩
    rcases List.mem_cons.mp hx with rfl | hx
    · omega
    · have := i1 x hx; omega
theorem rep_flat {α : Type} (k : Nat) (x : α) : (List.replicate k [x]).flatten = List.replicate k x := by
  induction k with
  | zero => rfl
  | succ k ih => rw [List.replicate_succ, List.flatten_cons, ih, List.replicate_succ]; rfl
set_option maxHeartbeats 0 in
theorem ok__law_odd {f : Addr} {fd : FuncData} (F : Fun K "_law_odd" "_law_odd" s__law_odd f fd) (N : Nm mg) (D__law_draw : Def P w K mg base CX0 1 "_law_draw" ["_law_purse_here", "_law_out_of"] sp__law_draw) : FnOk P w K mg base CX0 2 f fd ["_law_purse_here", "_law_mix_here"] sp__law_odd := by
  refine F.ok sc__law_odd (fun vs H Q E h => by unfold sp__law_odd at h; obtain ⟨_, _, _, _, _, _, _, _, rfl, _⟩ := h; rfl) (fun cdv A outer s H vs Q E hr h => ?_)
  unfold sp__law_odd at h
  obtain ⟨p, c, m, b, ts, ms, h, f, rfl, hP, hb, M, ⟨nmp, nmc⟩, ⟨o1, o2⟩, ⟨m1, m2⟩, ⟨hh0, hh1⟩, ⟨hf0, hf1⟩, ok, q⟩ := h
  have hu := hu40 hr
  have tl := M.len
  refine ⟨_, (pss_cons (psS (i := 2) sc__law_odd.nd (pD D__law_draw hr pass0 (pa_cons (pq 0) (pa_cons (pB (cLenK (K := K) rfl) N.len_ bt_len (pa_cons (pq 1) pa_nil)) pa_nil))))
      (pss_cons (ps_asg (peIxK (K := K) rfl (pq 1) (pq 2)) (pgAnyK (K := K) (n := 2) rfl rfl (pgsCons (pg_name (i := 3) sc__law_odd.nd rfl (by first | exact Or.inl rfl | exact Or.inr rfl)) (pgsCons (pg_name (i := 4) sc__law_odd.nd rfl (by first | exact Or.inl rfl | exact Or.inr rfl)) pgsNil))))
      (pss_cons (psS (i := 5) sc__law_odd.nd (pD D__law_draw hr pass0 (pa_cons (pq 0) (pa_cons (pB (cLenK (K := K) rfl) N.len_ bt_len (pa_cons (pq 3) pa_nil)) pa_nil))))
      (pss_cons (psS (i := 6) sc__law_odd.nd (peIxK (K := K) rfl (peLst (pa_cons pe_non (pa_cons pe_str (pa_cons (peTup (pa_cons pe_int pa_nil)) (pa_cons (peLst (pa_cons pe_int pa_nil)) (pa_cons pe_bl pa_nil)))))) (pD D__law_draw hr pass0 (pa_cons (pq 0) (pa_cons pe_int pa_nil)))))
      (pss_cons (psS (i := 7) sc__law_odd.nd (pe_op oAdd (pe_op oAdd (pe_slice (slK (K := K) rfl) (pq 3) po_none (poSome (pq 5))) (peLst (pa_cons (pq 6) pa_nil))) (pe_slice (slK (K := K) rfl) (pq 3) (poSome (pe_op oAdd (pq 5) pe_int)) po_none)))
      (pss_cons (psS (i := 8) sc__law_odd.nd (peLst (pa_cons (peTup (pa_cons (pq 3) pa_nil)) (pa_cons (peTup (pa_cons (pq 3) (pa_cons (pq 4) (pa_cons pe_int pa_nil)))) (pa_cons (peLst (pa_cons (pq 3) (pa_cons (pq 4) pa_nil))) (pa_cons (peTup (pa_cons (pT (cTupK (K := K) rfl) N.tuple_ bt_tuple (pa_cons (pq 3) pa_nil)) (pa_cons (pq 4) pa_nil))) (pa_cons (peTup (pa_cons (pq 7) (pa_cons (pq 4) pa_nil))) pa_nil)))))))
      (pss_cons (psS (i := 8) sc__law_odd.nd (pe_op oAdd (pq 8) (peLst (pa_cons (peTup (pa_cons (pq 3) (pa_cons (pq 6) pa_nil))) (pa_cons (peTup (pa_cons (pq 3) (pa_cons (pT (cStrA hr) N.str_ bt_str (pa_cons (pq 4) pa_nil)) pa_nil))) (pa_cons (pq 6) (pa_cons (peTup (pa_cons (peLst pa_nil) (pa_cons (pq 4) pa_nil))) (pa_cons (peTup (pa_cons (pT (cStrA hr) N.str_ bt_str (pa_cons (pq 3) pa_nil)) (pa_cons (pq 4) pa_nil))) pa_nil))))))))
      (pss_cons (psS (i := 9) sc__law_odd.nd (pD D__law_draw hr pass0 (pa_cons (pq 0) (pa_cons (pe_op oAdd (pB (cLenK (K := K) rfl) N.len_ bt_len (pa_cons (pq 8) pa_nil)) pe_int) pa_nil))))
      (pss_cons (psIf (ptC oLt (pq 9) (pB (cLenK (K := K) rfl) N.len_ bt_len (pa_cons (pq 8) pa_nil))) (pss_one (ps_ret (pe_op oAdd (pe_op oAdd (pe_slice (slK (K := K) rfl) (pq 1) po_none (poSome (pq 2))) (peLst (pa_cons (peIxK (K := K) rfl (pq 8) (pq 9)) pa_nil))) (pe_slice (slK (K := K) rfl) (pq 1) (poSome (pe_op oAdd (pq 2) pe_int)) po_none)))) pss_nil)
      (pss_cons (psS (i := 10) sc__law_odd.nd (peLst (pa_cons (peTup (pa_cons (pe_op oAdd (pq 3) (pe_op oMul (peLst (pa_cons pe_int pa_nil)) (pe_op oSub pe_int (pB (cLenK (K := K) rfl) N.len_ bt_len (pa_cons (pq 3) pa_nil))))) (pa_cons (pq 4) pa_nil))) pa_nil)))
      (pss_cons (psS (i := 11) sc__law_odd.nd (peLst (pa_cons (peTup (pa_cons (pe_op oAdd (peLst (pa_cons (pe_op oSub (pe_op oAdd (peIxK (K := K) rfl (pq 3) pe_int) pe_int) (pB (cSumK (K := K) rfl rfl) N.sum_ bt_sum (pa_cons (pq 3) pa_nil))) pa_nil)) (pe_slice (slK (K := K) rfl) (pq 3) (poSome pe_int) po_none)) (pa_cons (pq 4) pa_nil))) pa_nil)))
      (pss_one (ps_ret (peIxK (K := K) rfl (peLst (pa_cons pe_non (pa_cons (pT (cTupK (K := K) rfl) N.tuple_ bt_tuple (pa_cons (pq 1) pa_nil)) (pa_cons pe_str (pa_cons pe_int (pa_cons (peIxK (K := K) rfl (pq 1) (pq 2)) (pa_cons (pq 10) (pa_cons (pq 11) pa_nil)))))))) (pe_op oSub (pq 9) (pB (cLenK (K := K) rfl) N.len_ bt_len (pa_cons (pq 8) pa_nil))))))))))))))))), ?_⟩
  refine lenL_rd M.out ?_
  rw [List.length_map, tl]
  refine draw_rd hP (by walk_at "om") (by walk_at "om") (by walk_at "om") (fun at_ H1 a0 a1 c1 P1 => ?_)
  have M1 := M.chg2 c1 nmp nmc o1 o2
  obtain ⟨i, rfl⟩ : ∃ i : Nat, at_ = i := ⟨at_.toNat, by walk_at "om"⟩
  have il : i < ms.length := by walk_at "om"
  obtain ⟨x, ex⟩ : ∃ x, ms[i]? = some x := ⟨_, List.getElem?_eq_getElem il⟩
  obtain ⟨⟨x1, x2, x3, x4⟩, x5, x6⟩ := ok x (List.mem_of_getElem? ex)
  obtain ⟨t, et, at0, ht, hp⟩ := M1.ix ex
  have ntp := (o1 t (List.mem_of_getElem? et))
  have ntc := (o2 t (List.mem_of_getElem? et))
  obtain ⟨xs1, xs2⟩ := mem_le_sumI x1
  have xb : ∀ y ∈ x.1, -(10 ^ 100) ≤ y ∧ y ≤ 10 ^ 100 := fun y hy => by
    have := x1 y hy
    have := xs1 y hy
    omega
  have n8 : 1 ≤ x.1.length ∧ x.1.length ≤ 8 := by walk_at "om"
  refine ixL_rd (v := .ref t.1) M1.out at0 ?_
  refine unpT_rd ht ?_
  refine lenL_rd hp ?_
  rw [List.length_map]
  refine draw_rd P1 (by walk_at "om") (by walk_at "om") (by walk_at "om") (fun pc H2 p0 p1 c2 P2 => ?_)
  have hp2 := c2 _ _ ntp.2 ntc.2 hp
  refine newT_rd (fun u1 H3 f3 s3 h3 => ?_)
  refine newL_rd (fun u2 H4 f4 s4 h4 => ?_)
  refine newL_rd (fun u3 H5 f5 s5 h5 => ?_)
  have s35 := (s3.trans s4).trans s5
  refine draw_rd (P2.same s35) (by walk_at "om") (by walk_at "om") (by walk_at "om") (fun d5 H6 d50 d51 c6 P6 => ?_)
  have h56 := c6 _ _ ((P2.same (s3.trans s4)).neP f5) ((P2.same (s3.trans s4)).neC f5) h5
  have h36 := c6 _ _ (P2.neP f3) (P2.neC f3) ((s4.trans s5) _ _ h3)
  have h46 := c6 _ _ ((P2.same s3).neP f4) ((P2.same s3).neC f4) (s5 _ _ h4)
  have hp6 := c6 _ _ ntp.2 ntc.2 (s35 _ _ hp2)
  have c06 : Chg2 p c H H6 := ((c1.trans c2).same s35).trans c6
  refine ixAny_rd h56 d50 (by simp only [List.length_cons, List.length_nil]; omega) ?_
  intro sv hv
  obtain ⟨sd, ssh, ssm, sshw, sf0, sf1, sfp⟩ : ∃ sd, ShV (rr p c H6) sv sd ∧ sml sd = true ∧ Shows sd 2 5000 ∧ fromD 0 sd = false ∧ fromD 1 sd = false ∧ partD sd = false := by
    have one : Shows (.int 1) 0 1921 := Shows.int (by decide) (by decide)
    simp only [List.mem_cons, List.not_mem_nil, or_false] at hv
    rcases hv with rfl | rfl | rfl | rfl | rfl
    · exact ⟨.none, .non, rfl, Shows.non.up (by walk_at "om") (by walk_at "om"), rfl, rfl, rfl⟩
    · exact ⟨.str "1", .str _, rfl, (Shows.str (m := 10) (by decide +kernel)).up (by walk_at "om") (by walk_at "om"), rfl, rfl, rfl⟩
    · exact ⟨.tuple [.int 1], .tup (rr_at (P2.neP f3) (P2.neC f3) h36) (.cons (.int 1) .nil), rfl, (Shows.tuple (k := 0) (m := 1921) fun d hd => by rw [List.mem_singleton.mp hd]; exact one).up (by walk_at "om") (by simp), rfl, rfl, rfl⟩
    · exact ⟨.list [.int 1], .lst (rr_at ((P2.same s3).neP f4) ((P2.same s3).neC f4) h46) (.cons (.int 1) .nil), rfl, (Shows.list (k := 0) (m := 1921) fun d hd => by rw [List.mem_singleton.mp hd]; exact one).up (by walk_at "om") (by simp), rfl, rfl, rfl⟩
    · exact ⟨.bool false, .bl false, rfl, Shows.bl.up (by walk_at "om") (by walk_at "om"), rfl, rfl, rfl⟩
  clear hv h56 h36 h46 h5 h4 h3
  have M6 := M.chg2 c06 nmp nmc o1 o2
  have P6 : PurseAt H6 p c (b + 5) := P6.up (by walk_at "om")
  clear P1 P2 M1 hp hp2 ht
  have put : ∀ {I0 I : Hp} {z : Addr} {o : HO}, Same H6 I0 → I0 z = none → I z = some o → rr p c I z = some o := fun s f e => rr_at ((P6.same s).neP f) ((P6.same s).neC f) e
  have cR : ∀ {I : Hp}, Same H6 I → ShV (rr p c I) (.ref t.2) (.list (x.1.map PyData.int)) ∧ sml (.list (x.1.map PyData.int)) = true ∧ Shows (.list (x.1.map PyData.int)) 1 30000 := fun s => rp_ints (rr_at ntp.2 ntc.2 (s _ _ hp6)) (by walk_at "om") xb
  have cR4 : ∀ {I : Hp}, Same H6 I → ShV (rr p c I) (.ref t.2) (.list (x.1.map PyData.int)) ∧ sml (.list (x.1.map PyData.int)) = true ∧ Shows (.list (x.1.map PyData.int)) 4 60000 := fun s => ⟨(cR s).1, (cR s).2.1, (cR s).2.2.up (by walk_at "om") (by walk_at "om")⟩
  have wR : ∀ {I : Hp}, ShV I (.int x.2) (.int x.2) ∧ sml (.int x.2) = true ∧ Shows (.int x.2) 4 60000 := ⟨.int _, rfl, (Shows.int (by walk_at "om") (by walk_at "om")).up (by walk_at "om") (by walk_at "om")⟩
  have sR : ∀ {I : Hp}, Same H6 I → ShV (rr p c I) sv sd ∧ sml sd = true ∧ Shows sd 4 60000 := fun s => ⟨ssh.same (Same.rr s), ssm, sshw.up (by walk_at "om") (by walk_at "om")⟩
  refine sl_rd (SqL.of hp6) (fun q1 I1 g1 r1 e1 => ?_)
  rw [cut_takeV p0, ← List.map_take] at e1
  refine newL_rd (fun q2 I2 g2 r2 e2 => ?_)
  refine cat_rd (r2 _ _ e1) e2 (by rw [List.length_map, List.length_take, List.length_singleton, sizeLine_eq]; omega) (fun q3 I3 g3 r3 e3 => ?_)
  have v3 := (r1.trans r2).trans r3
  refine sl_rd (SqL.of (v3 _ _ hp6)) (fun q4 I4 g4 r4 e4 => ?_)
  rw [cut_drop (by walk_at "om"), ← List.map_drop] at e4
  refine cat_rd (r4 _ _ e3) e4 (by rw [List.length_append, List.length_map, List.length_take, List.length_singleton, List.length_map, List.length_drop, sizeLine_eq]; omega) (fun sp I5 g5 r5 e5 => ?_)
  have v5 := (v3.trans r4).trans r5
  -- the spoilt plan
  obtain ⟨spd, spS, spB⟩ : ∃ spd, (∀ {I : Hp}, Same I5 I → ShV (rr p c I) (.ref sp) spd ∧ sml spd = true ∧ Shows spd 4 60000) ∧ sendsD spd = false := by
    refine ⟨.list ((x.1.take pc.toNat).map PyData.int ++ [sd] ++ (x.1.drop (pc + 1).toNat).map PyData.int), fun {I} s => ⟨.lst (put (v3.trans r4) g5 (s _ _ e5)) ?_, ?_, ?_⟩, ?_⟩
    · refine ShL.idx (by simp only [List.length_append, List.length_map]; rfl) fun k a d h1 h2 => ?_
      rw [List.append_assoc] at h1 h2
      by_cases hk : k < (x.1.take pc.toNat).length
      · rw [List.getElem?_append_left (by rw [List.length_map]; exact hk), List.getElem?_map] at h1 h2
        obtain ⟨n, en, rfl⟩ := Option.map_eq_some_iff.mp h1
        rw [en] at h2
        cases h2
        exact .int n
      · rw [List.getElem?_append_right (by rw [List.length_map]; omega), List.length_map] at h1 h2
        cases hj : k - (x.1.take pc.toNat).length with
        | zero =>
          rw [hj] at h1 h2
          cases h1
          cases h2
          exact ssh.same (Same.rr (v5.trans s))
        | succ j =>
          rw [hj] at h1 h2
          have h1 : ((x.1.drop (pc + 1).toNat).map V.int)[j]? = some a := h1
          have h2 : ((x.1.drop (pc + 1).toNat).map PyData.int)[j]? = some d := h2
          rw [List.getElem?_map] at h1 h2
          obtain ⟨n, en, rfl⟩ := Option.map_eq_some_iff.mp h1
          rw [en] at h2
          cases h2
          exact .int n
    · simp only [sml, Bool.and_eq_true, decide_eq_true_eq]
      refine ⟨by simp only [List.length_append, List.length_map, List.length_take, List.length_drop, List.length_cons, List.length_nil]; omega, smlAll_of fun d hd => ?_⟩
      rcases List.mem_append.mp hd with hd | hd
      · rcases List.mem_append.mp hd with hd | hd
        · obtain ⟨n, _, rfl⟩ := List.mem_map.mp hd; rfl
        · rw [List.mem_singleton.mp hd]; exact ssm
      · obtain ⟨n, _, rfl⟩ := List.mem_map.mp hd; rfl
    · refine (Shows.list (k := 2) (m := 5000) fun d hd => ?_).up (by walk_at "om") (by simp only [List.length_append, List.length_map, List.length_take, List.length_drop, List.length_cons, List.length_nil]; omega)
      rcases List.mem_append.mp hd with hd | hd
      · rcases List.mem_append.mp hd with hd | hd
        · obtain ⟨n, hn, rfl⟩ := List.mem_map.mp hd
          have := xb n (List.mem_of_mem_take hn)
          exact (Shows.int this.1 this.2).up (by walk_at "om") (by walk_at "om")
        · rw [List.mem_singleton.mp hd]; exact sshw
      · obtain ⟨n, hn, rfl⟩ := List.mem_map.mp hd
        have := xb n (List.mem_of_mem_drop hn)
        exact (Shows.int this.1 this.2).up (by walk_at "om") (by walk_at "om")
    · show (List.all _ (fromD 0)) = false
      rw [List.all_append, List.all_append]
      have : [sd].all (fromD 0) = false := by show (fromD 0 sd && true) = false; rw [sf0]; rfl
      rw [this, Bool.and_false, Bool.false_and]
  clear e1 e2 e3 e4 e5
  have hp5 := v5 _ _ hp6
  -- the first five
  refine newT_rd (fun z1 J1 b1 y1 k1 => ?_)
  refine newT_rd (fun z2 J2 b2 y2 k2 => ?_)
  refine newL_rd (fun z3 J3 b3 y3 k3 => ?_)
  have y13 := (y1.trans y2).trans y3
  refine tupL_rd (SqL.of (y13 _ _ hp5)) (fun tp J4 b4 y4 k4 => ?_)
  refine newT_rd (fun z4 J5 b5 y5 k5 => ?_)
  refine newT_rd (fun z5 J6 b6 y6 k6 => ?_)
  refine newL_rd (fun A1 J7 b7 y7 k7 => ?_)
  have y67 := y6.trans y7
  have y57 := y5.trans y67
  have y47 := y4.trans y57
  have y37 := y3.trans y47
  have y27 := y2.trans y37
  have y17 := y1.trans y27
  have v7 := v5.trans y17
  have rs1 : ∀ w ∈ [V.ref z1, .ref z2, .ref z3, .ref z4, .ref z5], ∃ d, RP (rr p c J7) w d ∧ Bp d := fun w hw => by
    have c7 := cR4 v7
    simp only [List.mem_cons, List.not_mem_nil, or_false] at hw
    rcases hw with rfl | rfl | rfl | rfl | rfl
    · refine ⟨.tuple [.list (x.1.map PyData.int)], ⟨.tup (put v5 b1 (y27 _ _ k1)) (.cons c7.1 .nil), by simp [sml, smlAll] at c7 ⊢; exact c7.2.1, (Shows.tuple (k := 4) (m := 60000) fun d hd => by rw [List.mem_singleton.mp hd]; exact c7.2.2).up (by walk_at "om") (by simp)⟩, .inl rfl⟩
    · refine ⟨.tuple [.list (x.1.map PyData.int), .int x.2, .int 1], ⟨.tup (put (v5.trans y1) b2 (y37 _ _ k2)) (.cons c7.1 (.cons (.int _) (.cons (.int _) .nil))), by simp [sml, smlAll] at c7 ⊢; exact c7.2.1, (Shows.tuple (k := 4) (m := 60000) fun d hd => ?_).up (by walk_at "om") (by simp)⟩, .inl rfl⟩
      simp only [List.mem_cons, List.not_mem_nil, or_false] at hd
      rcases hd with rfl | rfl | rfl
      · exact c7.2.2
      · exact (wR (I := H6)).2.2
      · exact (Shows.int (by decide) (by decide)).up (by walk_at "om") (by walk_at "om")
    · refine ⟨.list [.list (x.1.map PyData.int), .int x.2], ⟨.lst (put (v5.trans (y1.trans y2)) b3 (y47 _ _ k3)) (.cons c7.1 (.cons (.int _) .nil)), by simp [sml, smlAll] at c7 ⊢; exact c7.2.1, (Shows.list (k := 4) (m := 60000) fun d hd => ?_).up (by walk_at "om") (by simp)⟩, .inl rfl⟩
      simp only [List.mem_cons, List.not_mem_nil, or_false] at hd
      rcases hd with rfl | rfl
      · exact c7.2.2
      · exact (wR (I := H6)).2.2
    · have tpR : ShV (rr p c J7) (.ref tp) (.tuple (x.1.map PyData.int)) ∧ sml (.tuple (x.1.map PyData.int)) = true ∧ Shows (.tuple (x.1.map PyData.int)) 4 60000 := by
        refine ⟨.tup (put (v5.trans y13) b4 (y57 _ _ k4)) (ShL.idx (by rw [List.length_map, List.length_map]) fun k a d h1 h2 => ?_), ?_, ?_⟩
        · rw [List.getElem?_map] at h1 h2
          obtain ⟨n, en, rfl⟩ := Option.map_eq_some_iff.mp h1
          rw [en] at h2
          cases h2
          exact .int n
        · simp only [sml, Bool.and_eq_true, decide_eq_true_eq, List.length_map]
          exact ⟨by walk_at "om", smlAll_of fun d hd => by obtain ⟨n, _, rfl⟩ := List.mem_map.mp hd; rfl⟩
        · refine (Shows.tuple (k := 0) (m := 1921) fun d hd => ?_).up (by walk_at "om") (by rw [List.length_map]; omega)
          obtain ⟨n, hn, rfl⟩ := List.mem_map.mp hd
          exact Shows.int (xb n hn).1 (xb n hn).2
      exact ⟨_, rp_two (put (v5.trans (y13.trans y4)) b5 (y67 _ _ k5)) tpR wR, .inl rfl⟩
    · exact ⟨_, rp_two (put (v5.trans ((y13.trans y4).trans y5)) b6 (y7 _ _ k6)) (spS y17) wR, .inl (by show (sendsD spd && fromD 1 (.int x.2)) = false; rw [spB]; rfl)⟩
  clear k1 k2 k3 k4 k5 k6
  obtain ⟨X1, eX1⟩ : ∃ X1, [V.ref z1, .ref z2, .ref z3, .ref z4, .ref z5] = X1 := ⟨_, rfl⟩
  have X1l : X1.length = 5 := by rw [← eX1]; rfl
  rw [eX1] at k7 rs1
  have hp7 := v7 _ _ hp6
  -- five more
  refine newT_rd (fun a1' K1 d1 w1 m1' => ?_)
  refine strA_rd (.int x.2) ((Shows.int (by walk_at "om") (by walk_at "om")).up (by walk_at "om") (by walk_at "om")) ?_
  refine newT_rd (fun a2' K2 d2 w2 m2' => ?_)
  refine newL_rd (fun a3' K3 d3 w3 m3' => ?_)
  refine newT_rd (fun a4' K4 d4 w4 m4' => ?_)
  have w14 := ((w1.trans w2).trans w3).trans w4
  refine strA_rd ((cR (v7.trans w14)).1.same (rr_same p c K4)) ((cR (v7.trans w14)).2.2.up (by walk_at "om") (by walk_at "om")) ?_
  refine newT_rd (fun a5' K5 d5' w5 m5' => ?_)
  refine newL_rd (fun A2 K6 d6 w6 m6' => ?_)
  have q56 := w5.trans w6
  have q46 := w4.trans q56
  have q36 := w3.trans q46
  have q26 := w2.trans q36
  have q16 := w1.trans q26
  have v76 := v7.trans q16
  have stw : ShV (rr p c K6) (.str (strD (.int x.2))) (.str (strD (.int x.2))) ∧ sml (.str (strD (.int x.2))) = true ∧ Shows (.str (strD (.int x.2))) 4 60000 := ⟨.str _, rfl, (shows_str (m := 1921) (okC_of _) (Shows.int (i := x.2) (by walk_at "om") (by walk_at "om")).ln).up (by walk_at "om") (by walk_at "om")⟩
  have stc : ShV (rr p c K6) (.str (strD (.list (x.1.map PyData.int)))) (.str (strD (.list (x.1.map PyData.int)))) ∧ sml (.str (strD (.list (x.1.map PyData.int)))) = true ∧ Shows (.str (strD (.list (x.1.map PyData.int)))) 4 500000 := ⟨.str _, rfl, (shows_str (m := 30000) (okC_ints _) (cR v76).2.2.ln).up (by walk_at "om") (by walk_at "om")⟩
  have rs2 : ∀ w ∈ [V.ref a1', .ref a2', sv, .ref a4', .ref a5'], ∃ d, RP (rr p c K6) w d ∧ Bp d := fun w hw => by
    have c7 := cR4 v76
    simp only [List.mem_cons, List.not_mem_nil, or_false] at hw
    rcases hw with rfl | rfl | rfl | rfl | rfl
    · exact ⟨_, rp_two (put v7 d1 (q26 _ _ m1')) c7 (sR v76), .inl (by show (sendsD _ && fromD 1 sd) = false; rw [sf1, Bool.and_false])⟩
    · exact ⟨_, rp_two (put (v7.trans w1) d2 (q36 _ _ m2')) c7 stw, .inl (by show (sendsD _ && false) = false; exact Bool.and_false _)⟩
    · exact ⟨sd, ⟨(sR v76).1, ssm, sshw.up (by walk_at "om") (by walk_at "om")⟩, .inl sfp⟩
    · exact ⟨.tuple [.list [], .int x.2], rp_two (put (v7.trans ((w1.trans w2).trans w3)) d4 (q56 _ _ m4')) ⟨.lst (put (v7.trans (w1.trans w2)) d3 (q46 _ _ m3')) .nil, rfl, (Shows.list (ds := []) (k := 0) (m := 1) (fun d hd => by cases hd)).up (by walk_at "om") (by simp)⟩ wR, .inr rfl⟩
    · refine ⟨.tuple [.str (strD (.list (x.1.map PyData.int))), .int x.2], ⟨.tup (put (v7.trans w14) d5' (w6 _ _ m5')) (.cons stc.1 (.cons (.int _) .nil)), rfl, (Shows.tuple (k := 4) (m := 500000) fun d hd => ?_).up (by walk_at "om") (by simp)⟩, .inl rfl⟩
      simp only [List.mem_cons, List.not_mem_nil, or_false] at hd
      rcases hd with rfl | rfl
      · exact stc.2.2
      · exact (wR (I := H6)).2.2.up (by walk_at "om") (by walk_at "om")
  clear m1' m2' m3' m4' m5' stw stc
  obtain ⟨X2, eX2⟩ : ∃ X2, [V.ref a1', .ref a2', sv, .ref a4', .ref a5'] = X2 := ⟨_, rfl⟩
  have X2l : X2.length = 5 := by rw [← eX2]; rfl
  rw [eX2] at m6' rs2
  refine cat_rd (q16 _ _ k7) m6' (by rw [X1l, X2l, sizeLine_eq]; decide) (fun A3 K7 d7 w7 m7' => ?_)
  have v77 := v76.trans w7
  have rs : ∀ w ∈ X1 ++ X2, ∃ d, RP (rr p c K7) w d ∧ Bp d := fun w hw => by
    rcases List.mem_append.mp hw with hw | hw
    · obtain ⟨d, h1, h2⟩ := rs1 w hw
      exact ⟨d, ⟨h1.1.same (Same.rr (q16.trans w7)), h1.2⟩, h2⟩
    · obtain ⟨d, h1, h2⟩ := rs2 w hw
      exact ⟨d, ⟨h1.1.same (Same.rr w7), h1.2⟩, h2⟩
  have al : (X1 ++ X2).length = 10 := by rw [List.length_append, X1l, X2l]
  obtain ⟨X3, eX3⟩ : ∃ X3, X1 ++ X2 = X3 := ⟨_, rfl⟩
  rw [eX3] at m7' rs al
  have P7 := P6.same v77
  refine lenL_rd m7' ?_
  rw [al]
  refine draw_rd P7 (by walk_at "om") (by walk_at "om") (by walk_at "om") (fun wy K8 w80 w81 c8 P8 => ?_)
  have S8 : Same (rr p c K7) K8 := fun z o e => c8 _ _ (rr_of e).1 (rr_of e).2.1 (rr_of e).2.2
  have m78 := c8 _ _ (P6.same v76 |>.neP d7) (P6.same v76 |>.neC d7) m7'
  have M8 := M6.same v77 |>.chg2 c8 nmp nmc o1 o2
  have hp8 : K8 t.2 = some (.lst (x.1.map V.int)) := c8 _ _ ntp.2 ntc.2 (v77 _ _ hp6)
  have P8 : PurseAt K8 p c (b + 8) := P8.up (by walk_at "om")
  have sR8 : ShV K8 sv sd := (sR v77).1.same S8
  refine lenL_rd m78 ?_
  rw [al]
  have mixd : ∀ {j : Nat} {z : Addr × Addr} {I : Hp}, Same K8 I → ts[j]? = some z → ∃ d, RP I (.ref z.1) d := fun {j z I} s e => by
    obtain ⟨y, ey⟩ : ∃ y, ms[j]? = some y := ⟨_, List.getElem?_eq_getElem (by have := (List.getElem?_eq_some_iff.mp e).1; omega)⟩
    obtain ⟨⟨y1, y2, y3, y4⟩, y5, y6⟩ := ok y (List.mem_of_getElem? ey)
    obtain ⟨ys1, ys2⟩ := mem_le_sumI y1
    have pr := (M8.same s).part j z y e ey
    have r := rp_ints pr.2 (by walk_at "om") (fun n hn => by have := y1 n hn; have := ys1 n hn; omega)
    exact ⟨_, rp_two pr.1 ⟨r.1, r.2.1, r.2.2.up (by walk_at "om") (by walk_at "om")⟩ ⟨.int _, rfl, (Shows.int (by walk_at "om") (by walk_at "om")).up (by walk_at "om") (by walk_at "om")⟩⟩
  refine br_dec (fun wl => ?_) (fun wl => ?_)
  · walk_at "wh"
    refine sl_rd (SqL.of M8.out) (fun l1 L1 e1 x1' f1 => ?_)
    rw [cut_takeV (by walk_at "om"), Int.toNat_natCast, ← List.map_take] at f1
    refine ixAny_rd (x1' _ _ m78) w80 (by rw [al]; omega) ?_
    intro sw hsw
    obtain ⟨dw, rpw, bpw⟩ := rs sw hsw
    refine newL_rd (fun l2 L2 e2 x2' f2 => ?_)
    refine cat_rd (x2' _ _ f1) f2 (by rw [List.length_map, List.length_take, List.length_singleton, sizeLine_eq]; omega) (fun l3 L3 e3 x3' f3 => ?_)
    have x13 := (x1'.trans x2').trans x3'
    refine sl_rd (SqL.of (x13 _ _ M8.out)) (fun l4 L4 e4 x4' f4 => ?_)
    rw [cut_drop (by walk_at "om"), show ((i : Int) + 1).toNat = i + 1 by walk_at "om", ← List.map_drop] at f4
    refine cat_rd (x4' _ _ f3) f4 (by rw [List.length_append, List.length_map, List.length_take, List.length_singleton, List.length_map, List.length_drop, sizeLine_eq]; omega) (fun l5 L5 e5 x5' f5 => ?_)
    have x15 := (x13.trans x4').trans x5'
    walk_at "wh"
    obtain ⟨ds1, sh1, p1'⟩ := ShL.ex (H := L5) (P := fun d => sml d = true ∧ Shows d 6 1100000) (xs := (ts.take i).map fun t => V.ref t.1) fun w hw => by
      obtain ⟨z, hz, rfl⟩ := List.mem_map.mp hw
      obtain ⟨j, ej⟩ := List.getElem?_of_mem (List.mem_of_mem_take hz)
      exact mixd x15 ej
    obtain ⟨ds2, sh2, p2'⟩ := ShL.ex (H := L5) (P := fun d => sml d = true ∧ Shows d 6 1100000) (xs := (ts.drop (i + 1)).map fun t => V.ref t.1) fun w hw => by
      obtain ⟨z, hz, rfl⟩ := List.mem_map.mp hw
      obtain ⟨j, ej⟩ := List.getElem?_of_mem (List.mem_of_mem_drop hz)
      exact mixd x15 ej
    have sh := shl_app (shl_app sh1 (.cons ((rpw.1.same S8).same x15) .nil)) sh2
    have ln : (ds1 ++ [dw] ++ ds2).length ≤ 6 := by
      rw [← sh.len]
      simp only [List.length_append, List.length_map, List.length_take, List.length_drop, List.length_cons, List.length_nil]
      omega
    have hd : ∀ d ∈ ds1 ++ [dw] ++ ds2, sml d = true ∧ Shows d 6 1100000 := fun d hd => by
      rcases List.mem_append.mp hd with hd | hd
      · rcases List.mem_append.mp hd with hd | hd
        · exact p1' d hd
        · rw [List.mem_singleton.mp hd]; exact rpw.2
      · exact p2' d hd
    refine q (.ref l5) (.list (ds1 ++ [dw] ++ ds2)) L5 ((P8.same x15).up (by walk_at "om")) (.lst f5 sh) ?_ ?_ (bad_list (d := dw) (by simp) bpw)
    · simp only [sml, Bool.and_eq_true, decide_eq_true_eq]
      exact ⟨by walk_at "om", smlAll_of fun d h => (hd d h).1⟩
    · exact (Shows.list (k := 6) (m := 1100000) fun d h => (hd d h).2).up (by walk_at "om") (by walk_at "om")
  · walk_at "wh"
    refine newL_rd (fun n1 N1 g1 r1 e1 => ?_)
    refine lenL_rd (r1 _ _ hp8) ?_
    rw [List.length_map]
    refine rep_rd e1 (by walk_at "om") (by walk_at "om") (by rw [sizeLine_eq, List.length_singleton]; omega) (fun n2 N2 g2 r2 e2 => ?_)
    rw [rep_flat] at e2
    have r12 := r1.trans r2
    refine cat_rd (r12 _ _ hp8) e2 (by rw [List.length_map, List.length_replicate, sizeLine_eq]; omega) (fun n3 N3 g3 r3 e3 => ?_)
    refine newT_rd (fun n4 N4 g4 r4 e4 => ?_)
    refine newL_rd (fun n5 N5 g5 r5 e5 => ?_)
    have r15 := ((r12.trans r3).trans r4).trans r5
    have e3' : N5 n3 = some (.lst ((x.1 ++ List.replicate (9 - x.1.length) 0).map V.int)) := by
      rw [(r4.trans r5) _ _ e3, List.map_append, List.map_replicate, show ((9 : Int) - (x.1.length : Int)).toNat = 9 - x.1.length by walk_at "om"]
    have e4' := r5 _ _ e4
    obtain ⟨c0, cs, exc⟩ : ∃ c0 cs, x.1 = c0 :: cs := by
      cases e : x.1 with
      | nil => rw [e] at n8; simp at n8
      | cons a b => exact ⟨a, b, rfl⟩
    have hpN := r15 _ _ hp8
    rw [exc] at hpN
    refine ixL_rd (v := .int c0) hpN (int_at (i := 0) (by walk_at "om") rfl) ?_
    refine sum_rd hpN ?_
    refine newL_rd (fun n6 N6 g6 r6 e6 => ?_)
    refine sl_rd (SqL.of (r6 _ _ hpN)) (fun n7 N7 g7 r7 e7 => ?_)
    rw [cut_drop (by walk_at "om")] at e7
    have e7 : N7 n7 = some (.lst (cs.map V.int)) := e7
    have csl : cs.length ≤ 7 := by rw [exc, List.length_cons] at n8; omega
    refine cat_rd (r7 _ _ e6) e7 (by rw [List.length_singleton, List.length_map, sizeLine_eq]; omega) (fun n8' N8 g8 r8 e8 => ?_)
    refine newT_rd (fun n9 N9 g9 r9 e9 => ?_)
    refine newL_rd (fun n10 N10 g10 r10 e10 => ?_)
    have r6a := (((r6.trans r7).trans r8).trans r9).trans r10
    have ra := r15.trans r6a
    refine tupL_rd (SqL.of (ra _ _ M8.out)) (fun n11 N11 g11 r11 e11 => ?_)
    refine ixL_rd (v := .ref t.1) ((ra.trans r11) _ _ M8.out) at0 ?_
    refine newL_rd (fun n12 N12 g12 r12' e12 => ?_)
    have rb := r11.trans r12'
    have rc := ra.trans rb
    refine lenL_rd (rc _ _ m78) ?_
    rw [al]
    refine ixAny_rd e12 (by walk_at "om") (by simp only [List.length_cons, List.length_nil]; omega) ?_
    intro v hv
    walk_at "wh"
    have PN : PurseAt N12 p c (b + 10) := (P8.same rc).up (by walk_at "om")
    have wX : sml (.int x.2) = true ∧ Shows (.int x.2) 4 60000 := ⟨rfl, (Shows.int (by walk_at "om") (by walk_at "om")).up (by walk_at "om") (by walk_at "om")⟩
    have one : ∀ {z a q' : Addr} {ns : List Int}, N12 z = some (.lst [.ref q']) → N12 q' = some (.tup [.ref a, .int x.2]) → N12 a = some (.lst (ns.map V.int)) → ns.length ≤ 12 → (∀ y ∈ ns, -(10 ^ 100) ≤ y ∧ y ≤ 10 ^ 100) → ¬ (sizeD ns.sum ns.length = true) → Q (.ref z) N12 := fun {z a q' ns} u1 u2 u3 u4 u5 u6 => by
      have r := rp_ints u3 u4 u5
      have t2 := rp_two u2 ⟨r.1, r.2.1, r.2.2.up (by walk_at "om") (by walk_at "om")⟩ ⟨.int _, wX⟩
      refine q _ (.list [.tuple [.list (ns.map PyData.int), .int x.2]]) N12 PN (.lst u1 (.cons t2.1 .nil)) ?_ ?_ (bad_great u6)
      · simp only [sml, smlAll, Bool.and_eq_true, decide_eq_true_eq]
        have := t2.2.1
        simp only [sml, smlAll, Bool.and_eq_true, decide_eq_true_eq] at this
        exact ⟨by simp, this, trivial⟩
      · exact (Shows.list (k := 6) (m := 1100000) fun d h => by rw [List.mem_singleton.mp h]; exact t2.2.2).up (by walk_at "om") (by simp)
    simp only [List.mem_cons, List.not_mem_nil, or_false] at hv
    rcases hv with rfl | rfl | rfl | rfl | rfl | rfl | rfl
    · exact q _ .none N12 PN .non rfl (Shows.non.up (by walk_at "om") (by walk_at "om")) rfl
    · obtain ⟨ds, sh, hd⟩ := ShL.ex (H := N12) (P := fun d => sml d = true ∧ Shows d 6 1100000) (xs := ts.map fun t => V.ref t.1) fun w hw => by
        obtain ⟨z, hz, rfl⟩ := List.mem_map.mp hw
        obtain ⟨j, ej⟩ := List.getElem?_of_mem hz
        exact mixd rc ej
      have ln : ds.length ≤ 5 := by rw [← sh.len, List.length_map]; omega
      refine q _ (.tuple ds) N12 PN (.tup (r12' _ _ e11) sh) ?_ ?_ rfl
      · simp only [sml, Bool.and_eq_true, decide_eq_true_eq]
        exact ⟨by walk_at "om", smlAll_of fun d h => (hd d h).1⟩
      · exact (Shows.tuple (k := 6) (m := 1100000) fun d h => (hd d h).2).up (by walk_at "om") (by walk_at "om")
    · exact q _ (.str "mix") N12 PN (.str _) rfl ((Shows.str (m := 10) (by decide +kernel)).up (by walk_at "om") (by walk_at "om")) rfl
    · exact q _ (.int 5) N12 PN (.int 5) rfl ((Shows.int (by decide) (by decide)).up (by walk_at "om") (by walk_at "om")) rfl
    · have pr := (M8.same rc).part i t x et ex
      have r := rp_ints pr.2 (by walk_at "om") xb
      have t2 := rp_two pr.1 ⟨r.1, r.2.1, r.2.2.up (by walk_at "om") (by walk_at "om")⟩ ⟨.int _, wX⟩
      exact q _ _ N12 PN t2.1 t2.2.1 (t2.2.2.up (by walk_at "om") (by walk_at "om")) rfl
    · refine one ((r6a.trans rb) _ _ e5) ((r6a.trans rb) _ _ e4') ((r6a.trans rb) _ _ e3') ?_ ?_ ?_
      · rw [List.length_append, List.length_replicate]; omega
      · intro y hy
        rcases List.mem_append.mp hy with hy | hy
        · exact xb y hy
        · rw [List.eq_of_mem_replicate hy]; omega
      · rw [List.length_append, List.length_replicate]
        unfold sizeD
        simp only [Bool.and_eq_true, decide_eq_true_eq]
        omega
    · have e8' : N12 n8' = some (.lst (((c0 + 41 - (c0 :: cs).sum) :: cs).map V.int)) := ((r9.trans r10).trans rb) _ _ e8
      refine one (rb _ _ e10) ((r10.trans rb) _ _ e9) e8' ?_ ?_ ?_
      · rw [List.length_cons]; omega
      · intro y hy
        have sx : (c0 :: cs).sum = x.1.sum := by rw [exc]
        rw [exc] at xs1 xs2 x2
        rcases List.mem_cons.mp hy with rfl | hy
        · have := xs1 c0 (.head _)
          have := x1 c0 (by rw [exc]; exact .head _)
          omega
        · exact xb y (by rw [exc]; exact .tail _ hy)
      · rw [List.sum_cons, List.sum_cons]
        unfold sizeD
        simp only [Bool.and_eq_true, decide_eq_true_eq]
        omega
-- @@split
theorem msD_pr (ms : List (List Int × Int)) : msD (prD (prM ms)) = ms := by
  unfold msD prD prM
  show List.map _ (List.map _ (List.map _ ms)) = ms
  rw [List.map_map, List.map_map]
  refine (List.map_congr_left fun x _ => ?_).trans (List.map_id _)
  show (numsD (planOf (.tuple [.list (x.1.map PyData.int), .int x.2])), x.2) = x
  rw [numsD_plan]
theorem goodR_ms {ms : List (List Int × Int)} {h f : Int} (l : 1 ≤ ms.length) (hh : 0 ≤ h ∧ h ≤ 40) (hf : 1 ≤ f ∧ f ≤ 8) (ok : ∀ x ∈ ms, ((∀ n ∈ x.1, 0 ≤ n) ∧ (x.1.length : Int) = f ∧ x.1.sum = h ∧ 1 ≤ x.2) ∧ fallB x.1 = true) : goodR (prD (prM ms)) = true := by
  have key : ∀ d ∈ (prM ms).map (fun x => PyData.tuple [.list (x.1.map PyData.int), vD x.2]), ∃ x ∈ ms, d = .tuple [.list (x.1.map PyData.int), .int x.2] := fun d hd => by
    obtain ⟨y, hy, rfl⟩ := List.mem_map.mp hd
    unfold prM at hy
    obtain ⟨x, hx, rfl⟩ := List.mem_map.mp hy
    exact ⟨x, hx, rfl⟩
  have fst : ∃ x ∈ ms, firstP ((prM ms).map (fun x => PyData.tuple [.list (x.1.map PyData.int), vD x.2])) = x.1 := by
    cases ms with
    | nil => simp at l
    | cons x xs => exact ⟨x, .head _, numsD_plan x.1 x.2⟩
  obtain ⟨x0, hx0, e0⟩ := fst
  obtain ⟨⟨a1, a2, a3, a4⟩, _⟩ := ok x0 hx0
  unfold goodR prD
  rw [mixD_list, e0]
  simp only [Bool.and_eq_true]
  refine ⟨⟨⟨⟨?_, ?_⟩, ?_⟩, ?_⟩, ?_⟩
  · rw [List.length_map]; unfold prM; rw [List.length_map]; exact decide_eq_true (by walk_at "om")
  · refine List.all_eq_true.mpr fun d hd => ?_
    obtain ⟨x, hx, rfl⟩ := key d hd
    obtain ⟨⟨b1, b2, b3, b4⟩, _⟩ := ok x hx
    show ((x.1.map PyData.int).all (fromD 0) && decide (1 ≤ x.2)) = true
    rw [decide_eq_true b4, Bool.and_true, List.all_map]
    exact List.all_eq_true.mpr fun n hn => decide_eq_true (b1 n hn)
  · unfold sizeD
    rw [decide_eq_true (by walk_at "om"), decide_eq_true (by walk_at "om")]; rfl
  · refine List.all_eq_true.mpr fun d hd => ?_
    obtain ⟨x, hx, rfl⟩ := key d hd
    obtain ⟨⟨b1, b2, b3, b4⟩, _⟩ := ok x hx
    unfold planD
    rw [numsD_plan, decide_eq_true (show (x.1.length : Int) = x0.1.length by walk_at "om"), decide_eq_true (show x.1.sum = x0.1.sum by walk_at "om"), Bool.and_true, Bool.and_true]
    show (x.1.map PyData.int).all (fromD 0) = true
    rw [List.all_map]
    exact List.all_eq_true.mpr fun n hn => decide_eq_true (b1 n hn)
  · refine List.all_eq_true.mpr fun d hd => ?_
    obtain ⟨x, hx, rfl⟩ := key d hd
    rw [numsD_plan]
    exact (ok x hx).2
theorem prM_wv (ms : List (List Int × Int)) : ∀ x ∈ prM ms, WV x.2 := fun x hx => by
  unfold prM at hx
  obtain ⟨y, _, rfl⟩ := List.mem_map.mp hx
  exact .inl ⟨_, rfl⟩
theorem prM_flat (ms : List (List Int × Int)) : ∀ x ∈ prM ms, flatV x.2 = true := fun x hx => by
  unfold prM at hx
  obtain ⟨y, _, rfl⟩ := List.mem_map.mp hx
  rfl
theorem prM_len (ms : List (List Int × Int)) : (prM ms).length = ms.length := by unfold prM; rw [List.length_map]
theorem prM_sml {ms : List (List Int × Int)} (hl : ms.length ≤ 1000) (h : ∀ x ∈ ms, x.1.length ≤ 8) : sml (prD (prM ms)) = true := prD_sml (by rw [prM_len]; omega) fun x hx => by
  unfold prM at hx
  obtain ⟨y, hy, rfl⟩ := List.mem_map.mp hx
  have := h y hy
  show y.1.length ≤ 1000
  omega
def spoil (R : List (List Int × Int)) : List (List Int × Int) := R.map fun x => (x.1 ++ [3], x.2)
theorem Spoilt.mix {H H' : Hp} {r : Addr} {ts : List (Addr × Addr)} {R : List (List Int × Int)} (M : MixAt H r ts R) (k : Keep ts H H') (s : Spoilt H' ts R) (hr : ∀ t ∈ ts, t.2 ≠ r) (ht : ∀ t ∈ ts, ∀ u ∈ ts, t.2 ≠ u.1) : MixAt H' r ts (spoil R) := by
  refine ⟨k _ _ hr M.out, by unfold spoil; rw [List.length_map, M.len], fun i t x h1 h2 => ?_⟩
  unfold spoil at h2
  rw [List.getElem?_map] at h2
  obtain ⟨y, ey, rfl⟩ := Option.map_eq_some_iff.mp h2
  exact ⟨k _ _ (fun u hu => ht u hu t (List.mem_of_getElem? h1)) (M.part i t y h1 ey).1, s i t y h1 ey⟩
theorem MixAt.apart {H : Hp} {r : Addr} {ts : List (Addr × Addr)} {R : List (List Int × Int)} (M : MixAt H r ts R) : ∀ t ∈ ts, ∀ u ∈ ts, t.2 ≠ u.1 := fun t ht u hu e => by
  obtain ⟨i, ei⟩ := List.getElem?_of_mem ht
  obtain ⟨j, ej⟩ := List.getElem?_of_mem hu
  have l := M.len
  obtain ⟨x, ex⟩ : ∃ x, R[i]? = some x := ⟨_, List.getElem?_eq_getElem (by have := (List.getElem?_eq_some_iff.mp ei).1; omega)⟩
  obtain ⟨y, ey⟩ : ∃ y, R[j]? = some y := ⟨_, List.getElem?_eq_getElem (by have := (List.getElem?_eq_some_iff.mp ej).1; omega)⟩
  have h1 := (M.part i t x ei ex).2
  have h2 := (M.part j u y ej ey).1
  rw [e, h2] at h1
  cases h1
/-- what `right` spoils was not there before -/
theorem Keep.same {H0 H H' : Hp} {ts : List (Addr × Addr)} (k : Keep ts H H') (s : Same H0 H) (n : ∀ t ∈ ts, H0 t.2 = none) : Same H0 H' := fun b o e => k b o (fun t ht z => by rw [← z, n t ht] at e; cases e) (s b o e)
theorem MixAt.two {H : Hp} {m : Addr} {ts : List (Addr × Addr)} {ms : List (List Int × Int)} (M : MixAt H m ts ms) {t : Addr × Addr} (ht : t ∈ ts) : ∃ (w : Int) (ns : List Int), H t.1 = some (.tup [.ref t.2, .int w]) ∧ H t.2 = some (.lst (ns.map V.int)) := by
  obtain ⟨i, ei⟩ := List.getElem?_of_mem ht
  have l := M.len
  obtain ⟨x, ex⟩ : ∃ x, ms[i]? = some x := ⟨_, List.getElem?_eq_getElem (by have := (List.getElem?_eq_some_iff.mp ei).1; omega)⟩
  exact ⟨x.2, x.1, M.part i t x ei ex⟩
theorem MixAt.offS {H : Hp} {m : Addr} {ts : List (Addr × Addr)} {ms : List (List Int × Int)} (M : MixAt H m ts ms) : Off m ts := fun t ht => by
  obtain ⟨w, ns, h1, h2⟩ := M.two ht
  refine ⟨fun e => ?_, fun e => ?_⟩
  · rw [e, M.out] at h1; cases h1
  · rw [e, M.out] at h2
    have h2 : (ts.map fun t => V.ref t.1) = ns.map V.int := by injection h2 with h2; injection h2
    obtain ⟨n, _, z⟩ := List.mem_map.mp (h2 ▸ List.mem_map.mpr ⟨t, ht, rfl⟩ : V.ref t.1 ∈ ns.map V.int)
    cases z
theorem MixAt.one {H : Hp} {m p q : Addr} {x : List Int × Int} (hm : H m = some (.lst [.ref p])) (hp : H p = some (.tup [.ref q, .int x.2])) (hq : H q = some (.lst (x.1.map V.int))) : MixAt H m [(p, q)] [x] :=
  ⟨hm, rfl, fun i t y h1 h2 => by
    match i with
    | 0 => cases h1; cases h2; exact ⟨hp, hq⟩
    | i + 1 => simp at h1⟩
theorem wv_flat {v : V} (h : WV v) : flatV v = true := by
  rcases h with ⟨i, rfl⟩ | ⟨b, rfl⟩ <;> rfl
theorem good_two : goodR (prD (prM [([2, 1], 5)])) = true := by decide +kernel
-- @@split
def spLaw (K : PySem.W.Frag) : Sp := fun vs H Q _ => ∃ (a : Addr) (ns : List Int), vs = [.ref a] ∧ SqL K H a (ns.map V.int) ∧ ns.length ≤ 63 ∧ ∀ H', Q (.bl true) H'
set_option maxHeartbeats 0 in
theorem ok_law {f : Addr} {fd : FuncData} (F : Fun K "law" "law" s_law f fd) (N : Nm mg) (D__law_bent : Def P w K mg base CX0 2 "_law_bent" ["_law_purse_here", "_law_mix_here"] sp__law_bent) (D__law_copy : Def P w K mg base CX0 1 "_law_copy" ["_law_mix_here"] sp__law_copy) (D__law_mix : Def P w K mg base CX0 3 "_law_mix" ["_law_purse_here"] sp__law_mix) (D__law_odd : Def P w K mg base CX0 2 "_law_odd" ["_law_purse_here", "_law_mix_here"] sp__law_odd) (D__law_purse : Def P w K mg base CX0 1 "_law_purse" ["_law_script"] (sp__law_purse K)) (D__law_refused : Def P w K mg base CX0 7 "_law_refused" ["_law_mix_here"] sp__law_refused) (D__law_right : Def P w K mg base CX0 3 "_law_right" ["_law_found", "_law_mix_here"] sp__law_right) (D_ring_mix : Def P w K mg base (CXR P w) 6 "ring_mix" ["mix"] (sp_ring_mix a_NoMix)) : FnOk P w K mg base CX0 8 f fd ["_law_script"] (spLaw K) := by
  refine F.ok sc_law (fun vs H Q E h => by obtain ⟨n, k, rfl, _⟩ := h; rfl) (fun cdv A outer s H vs Q E hr h => ?_)
  obtain ⟨a, ns0, rfl, hS, hlen, k⟩ := h
  have hu := hu40 hr
  refine ⟨_, (pss_cons (psS (i := 1) sc_law.nd (pD D__law_purse hr pass0 (pa_cons (pq 0) pa_nil)))
      (pss_cons (psFor PassesOwn.never rfl (piRng1 N.range_ (pa_cons pe_int pa_nil)) (pg_name (i := 2) sc_law.nd rfl (by first | exact Or.inl rfl | exact Or.inr rfl)) (pss_cons (psS (i := 3) sc_law.nd (pD D__law_mix hr pass0 (pa_cons (pq 1) pa_nil)))
      (pss_cons (psS (i := 4) sc_law.nd (pD D__law_copy hr pass0 (pa_cons (pq 3) pa_nil)))
      (pss_cons (psFor PassesOwn.never rfl (piRng1 N.range_ (pa_cons pe_int pa_nil)) (pg_name (i := 5) sc_law.nd rfl (by first | exact Or.inl rfl | exact Or.inr rfl)) (pss_cons (psS (i := 6) sc_law.nd (pD D_ring_mix hr passR0 (pa_cons (pq 4) pa_nil)))
      (pss_cons (psIf (ptW (pwOr (pt_not (ptV (pD D__law_right hr pass0 (pa_cons (pq 6) (pa_cons (pq 3) pa_nil))))) (pw_or1 (ptC (oNeK (K := K) rfl (by exact hu)) (pq 4) (pq 3))))) (pss_one (ps_ret pe_bl)) pss_nil)
      (pss_cons (psC (i := 7) (N := ["_law_counts_here", "_law_weight"]) (ks := [none, none]) sc_law.nd (piSeqK (K := K) rfl (pq 6)) (fun cl C s3 H3 fp => (pgAnyK (K := K) (n := 2) rfl rfl (pgsCons (pg_name (i := 0) nb_11 rfl (by first | exact Or.inl rfl | exact Or.inr rfl)) (pgsCons (pg_name (i := 1) nb_11 rfl (by first | exact Or.inl rfl | exact Or.inr rfl)) pgsNil)))) (fun cl C s3 H3 fp => pts_nil) (fun cl C s3 H3 fp => (peTup (pa_cons (pT (cListK (K := K) rfl) N.list_ bt_list (pa_cons (pq 0) pa_nil)) (pa_cons (pq 1) pa_nil)))) (.skip (.skip .nil)))
      (pss_cons (psIf (ptW (pwOr (pt_not (ptV (pD D__law_right hr pass0 (pa_cons (pD D_ring_mix hr passR0 (pa_cons (peLst (pa_cons (peTup (pa_cons (peLst (pa_cons pe_int (pa_cons pe_int pa_nil))) (pa_cons pe_int pa_nil))) pa_nil)) pa_nil)) (pa_cons (peLst (pa_cons (peTup (pa_cons (peLst (pa_cons pe_int (pa_cons pe_int pa_nil))) (pa_cons pe_int pa_nil))) pa_nil)) pa_nil))))) (pw_or1 (ptC (oNeK (K := K) rfl (by exact hu)) (pq 6) (pq 7))))) (pss_one (ps_ret pe_bl)) pss_nil)
      (pss_one (ps_expr (peM_clear (K := K) rfl (pq 6)))))))))
      (pss_cons (ps_expr (peM_append (pq 4) (pa_cons (peTup (pa_cons (pT (cListK (K := K) rfl) N.list_ bt_list (pa_cons (peIxK (K := K) rfl (peIxK (K := K) rfl (pq 3) pe_int) pe_int) pa_nil)) (pa_cons pe_int pa_nil))) pa_nil)))
      (pss_cons (psIf (pt_not (ptV (pD D__law_right hr pass0 (pa_cons (pD D_ring_mix hr passR0 (pa_cons (pq 4) pa_nil)) (pa_cons (pe_op oAdd (pq 3) (peLst (pa_cons (peTup (pa_cons (peIxK (K := K) rfl (peIxK (K := K) rfl (pq 3) pe_int) pe_int) (pa_cons pe_int pa_nil))) pa_nil))) pa_nil))))) (pss_one (ps_ret pe_bl)) pss_nil)
      (pss_cons (psS (i := 8) sc_law.nd (pD D__law_bent hr pass0 (pa_cons (pq 1) (pa_cons (pq 3) pa_nil))))
      (pss_cons (psS (i := 4) sc_law.nd (pD D__law_copy hr pass0 (pa_cons (pq 8) pa_nil)))
      (pss_cons (psIf (ptW (pwOr (pt_not (ptV (pD D__law_refused hr pass0 (pa_cons (pq 4) pa_nil)))) (pw_or1 (ptC (oNeK (K := K) rfl (by exact hu)) (pq 4) (pq 8))))) (pss_one (ps_ret pe_bl)) pss_nil)
      (pss_cons (psS (i := 9) sc_law.nd (pD D__law_odd hr pass0 (pa_cons (pq 1) (pa_cons (pq 3) pa_nil))))
      (pss_cons (psS (i := 7) sc_law.nd (pT (cStrA hr) N.str_ bt_str (pa_cons (pq 9) pa_nil)))
      (pss_one (psIf (ptW (pwOr (pt_not (ptV (pD D__law_refused hr pass0 (pa_cons (pq 9) pa_nil)))) (pw_or1 (ptC (oNeK (K := K) rfl (by exact hu)) (pT (cStrA hr) N.str_ bt_str (pa_cons (pq 9) pa_nil)) (pq 7))))) (pss_one (ps_ret pe_bl)) pss_nil)))))))))))))
      (pss_one (ps_ret pe_bl)))), ?_⟩
  refine purse_rd hS hlen (fun p c H1 hp1 hc1 hs1 hP1 => ?_)
  refine range_rd (by decide) (by decide) (by decide) (by decide) ?_
  refine loop_range (fun i σ H3 => ∃ x2 x3 x4 x5 x6 x7 x8 x9 : Option V, σ = [some (.ref a), some (.ref p), x2, x3, x4, x5, x6, x7, x8, x9] ∧ PurseAt H3 p c (3000 * i)) ?_ ?_ ?_
  · exact ⟨_, _, _, _, _, _, _, _, rfl, hP1⟩
  · rintro i σ H3 hi ⟨x2, x3, x4, x5, x6, x7, x8, x9, rfl, P3⟩
    have hi : i < 4 := hi
    refine law_mix_rd P3 (by walk_at "om") (fun m ts ms h f H4 c4 P4 fm M4 nm o1 o2 ml hh hf ok => ?_)
    obtain ⟨x0, ex0⟩ : ∃ x0, ms[0]? = some x0 := ⟨_, List.getElem?_eq_getElem (by walk_at "om")⟩
    have l8 : ∀ x ∈ ms, x.1.length ≤ 8 := fun x hx => by have := (ok x hx).1.2.1; omega
    refine copy_rd M4.pr (by rw [prM_len]; omega) (fun r qs H5 fr s5 R5 nq => ?_)
    have M5 := M4.same s5
    have R5 := R5.mix
    have P5 := P4.same s5
    have G0 : goodR (prD (prM ms)) = true := goodR_ms (h := h) (f := f) ml.1 hh hf fun x hx => ⟨(ok x hx).1, (ok x hx).2.1⟩
    obtain ⟨nmr, ofr⟩ := M4.off fr
    refine range_rd (by decide) (by decide) (by decide) (by decide) ?_
    refine loop_range (fun j σ H6 => ∃ x2 x5 x6 x7 : Option V, σ = [some (.ref a), some (.ref p), x2, some (.ref m), some (.ref r), x5, x6, x7, x8, x9] ∧ Same H5 H6) ?_ ?_ ?_
    · exact ⟨_, _, _, _, rfl, Same.refl _⟩
    · rintro j σ H6 hj ⟨y2, y5, y6, y7, rfl, s6⟩
      have M6 := M5.same s6
      have R6 := R5.same s6
      refine ring_mix_rd (R6.pr.sh (prM_wv ms)) (prM_sml (by walk_at "om") l8) (fun _ r1 t1 H7 f7 s7 R7 n7 nd7 => ?_) (fun z => by rw [G0] at z; cases z)
      rw [msD_pr] at R7
      refine right_rd R7 (M6.same s7) nd7 (fun t ht u hu z => ?_) ml.1 (by walk_at "om") l8 (fun t ht z => ?_) (fun H8 k8 sp8 => ?_)
      · obtain ⟨_, _, _, e⟩ := M6.two hu
        rw [← z, n7 t ht] at e; cases e
      · have e := M6.out
        rw [← z, n7 t ht] at e; cases e
      have S68 : Same H6 H8 := k8.same s7 n7
      refine br_not (br_T ?_)
      refine eqO_rd (pr_eq (R6.same S68).pr (M6.same S68).pr (prM_flat ms)) ?_
      refine br_not (br_T ?_)
      have R8 : PrAt H8 r1 t1 (prM (spoil (ringsM ms))) := (Spoilt.mix R7 k8 sp8 (fun t ht => (R7.offS t ht).2) R7.apart).pr
      have fl := prM_flat (spoil (ringsM ms))
      have ln : (prM (spoil (ringsM ms))).length ≤ 5000 := by
        rw [prM_len]
        unfold spoil
        rw [List.length_map]
        have := rings_len (ms := ms) fun x hx => by have := l8 x hx; omega
        omega
      obtain ⟨ps, eps⟩ : ∃ ps, prM (spoil (ringsM ms)) = ps := ⟨_, rfl⟩
      rw [eps] at R8 fl ln
      have tl := R8.len
      clear R7 k8 sp8
      refine iterL_rd R8.out ?_
      refine comp_A (Wk.list (SqL.of R8.out)) (by rw [List.length_map, sizeLine_eq]; omega) (fun acc i ys σ I => ∃ (t u : Option V) (qs : List (Addr × Addr)), σ = [t, u] ∧ ys = (qs.map fun t => V.ref t.1) ∧ qs.length = i ∧ ∀ (k : Nat) q x, qs[k]? = some q → ps[k]? = some x → rm acc I q.1 = some (.tup [.ref q.2, x.2]) ∧ rm acc I q.2 = some (.lst (x.1.map V.int))) ?_ ?_ ?_ ?_
      · intro acc I f1 s1 h1
        exact ⟨none, none, [], rfl, rfl, rfl, fun k q x e => by simp at e⟩
      · rintro acc i ys σ I I' s' ⟨t, u, qs, r1, r2, r3, r5⟩
        exact ⟨t, u, qs, r1, r2, r3, fun k q x e1 e2 => ⟨Same.rm s' _ _ (r5 k q x e1 e2).1, Same.rm s' _ _ (r5 k q x e1 e2).2⟩⟩
      · rintro acc i v ys σ I R S hi facc s1 hacc hx ⟨t', u', qs, rfl, rfl, ql, qp⟩ kR _
        obtain ⟨t, x, rfl, e1, e2, e3, e4⟩ := (R8.same s1).elt hx
        refine unpT_rd e3 ?_
        refine br_T ?_
        refine listL_rd (SqL.of e4) (fun p1 I1 f1 r1 k1 => ?_)
        refine newT_rd (fun p2 I2 f2 r2 k2 => ?_)
        walk_at "wh"
        have n1 : p1 ≠ acc := Ne.symm (ne_of_none hacc f1)
        have n2 : p2 ≠ acc := Ne.symm (ne_of_none (r1 _ _ hacc) f2)
        have r12 := r1.trans r2
        refine kR _ _ _ r12 (fun I3 c3 => ⟨_, _, qs ++ [(p2, p1)], rfl, by rw [List.map_append]; rfl, by rw [List.length_append, ql]; rfl, fun k q y g1 g2 => ?_⟩)
        by_cases hk : k < qs.length
        · rw [List.getElem?_append_left hk] at g1
          have w := qp k q y g1 g2
          have up : Same (rm acc I) (rm acc I3) := (Same.rm r12).trans (Chg.rm c3)
          exact ⟨up _ _ w.1, up _ _ w.2⟩
        · rw [List.getElem?_append_right (by walk_at "om")] at g1
          have k0 : k - qs.length = 0 := by
            have := (List.getElem?_eq_some_iff.mp g1).1
            simp at this; omega
          rw [k0] at g1
          cases g1
          have : k = i := by walk_at "om"
          subst this
          rw [e2] at g2
          cases g2
          exact ⟨Chg.rm c3 _ _ (rm_at n2 k2), Chg.rm c3 _ _ (rm_at n1 (r2 _ _ k1))⟩
      rintro acc ys σ I facc s1 hacc ⟨t', u', q9, rfl, rfl, ql, qp⟩
      rw [List.length_map] at ql
      have K1 : PrAt I acc q9 ps := ⟨hacc, by walk_at "om", fun k q x e1 e2 => ⟨rm_same acc I _ _ (qp k q x e1 e2).1, rm_same acc I _ _ (qp k q x e1 e2).2⟩⟩
      clear qp
      refine newL_rd (fun a1 I1 g1 w1 e1 => ?_)
      refine newT_rd (fun a2 I2 g2 w2 e2 => ?_)
      refine newL_rd (fun a3 I3 g3 w3 e3 => ?_)
      have T3 : MixAt I3 a3 [(a2, a1)] [([2, 1], 5)] := MixAt.one e3 (w3 _ _ e2) ((w2.trans w3) _ _ e1)
      have w13 := (w1.trans w2).trans w3
      refine ring_mix_rd (T3.pr.sh (prM_wv _)) (prM_sml (by decide) (fun x hx => by rw [List.mem_singleton.mp hx]; decide)) (fun _ r2 t2 I4 g4 w4 R4 n4 nd4 => ?_) (fun z => by rw [good_two] at z; cases z)
      rw [msD_pr] at R4
      refine newL_rd (fun b1 I5 g5 w5 e5 => ?_)
      refine newT_rd (fun b2 I6 g6 w6 e6 => ?_)
      refine newL_rd (fun b3 I7 g7 w7 e7 => ?_)
      have U7 : MixAt I7 b3 [(b2, b1)] [([2, 1], 5)] := MixAt.one e7 (w7 _ _ e6) ((w6.trans w7) _ _ e5)
      have w56 := w5.trans w6
      have w57 := w56.trans w7
      refine right_rd (R4.same w57) U7 nd4 (fun t ht u hu z => ?_) (by decide) (by decide) (fun x hx => by rw [List.mem_singleton.mp hx]; decide) (fun t ht z => ?_) (fun I8 k9 sp9 => ?_)
      · obtain ⟨_, _, _, e⟩ := R4.two ht
        rw [z, List.mem_singleton.mp hu, show (b2, b1).2 = b1 from rfl, g5] at e
        cases e
      · obtain ⟨_, _, _, e⟩ := (R4.same w56).two ht
        rw [z, g7] at e
        cases e
      have SI : Same I I8 := k9.same ((w13.trans w4).trans w57) fun t ht => w13.free (n4 t ht)
      refine br_not (br_T ?_)
      refine eqO_rd (pr_eq (R8.same (s1.trans SI)) (K1.same SI) fl) ?_
      refine br_not (br_T ?_)
      refine lst_is (R8.same (s1.trans SI)).out ?_
      refine clr_rd (R8.same (s1.trans SI)).out (fun I9 c9 _ => ?_)
      walk_at "wh"
      exact ⟨_, _, _, _, rfl, s6.trans ((S68.trans (s1.trans SI)).chg f7 c9)⟩
    rintro σ H6 ⟨y2, y5, y6, y7, rfl, s6⟩
    have M6 := M5.same s6
    have R6 := R5.same s6
    obtain ⟨t0, et0, at0, ht0, hp0⟩ := M6.ix ex0
    refine lst_is R6.out ?_
    refine ixL_rd (v := .ref t0.1) M6.out at0 ?_
    refine ixT_rd (v := .ref t0.2) ht0 rfl ?_
    refine listL_rd (SqL.of hp0) (fun z1 H7 f7 s7 h7 => ?_)
    refine newT_rd (fun z2 H8 f8 s8 h8 => ?_)
    have s78 := s7.trans s8
    refine app_rd (s78 _ _ R6.out) (by rw [List.length_map, sizeLine_eq]; have := R6.len; omega) (fun H9 c9 h9 => ?_)
    have M9 := (M6.same s78).chg c9 nmr ofr
    have nz1 : z1 ≠ r := Ne.symm (ne_of_none R6.out f7)
    have nz2 : z2 ≠ r := Ne.symm (ne_of_none (s7 _ _ R6.out) f8)
    have R9 : MixAt H9 r (qs ++ [(z2, z1)]) (ms ++ [(x0.1, 4)]) := MixAt.push (R6.same s78) c9 R6.offS h9 (c9 _ _ nz2 h8) (c9 _ _ nz1 (s8 _ _ h7))
    have P9 := (P5.same (s6.trans s78)).chg c9 (Ne.symm (P4.neP fr)) (Ne.symm (P4.neC fr))
    have okx := ok x0 (List.mem_of_getElem? ex0)
    have G1 : goodR (prD (prM (ms ++ [(x0.1, 4)]))) = true := goodR_ms (h := h) (f := f) (by rw [List.length_append]; omega) hh hf fun x hx => by
      rcases List.mem_append.mp hx with hx | hx
      · exact ⟨(ok x hx).1, (ok x hx).2.1⟩
      · rw [List.mem_singleton.mp hx]
        exact ⟨⟨okx.1.1, okx.1.2.1, okx.1.2.2.1, (by decide : (1 : Int) ≤ 4)⟩, okx.2.1⟩
    have l9 : ∀ x ∈ ms ++ [(x0.1, 4)], x.1.length ≤ 8 := fun x hx => by
      rcases List.mem_append.mp hx with hx | hx
      · exact l8 x hx
      · rw [List.mem_singleton.mp hx]
        exact l8 x0 (List.mem_of_getElem? ex0)
    have ml9 : (ms ++ [(x0.1, (4 : Int))]).length = ms.length + 1 := by rw [List.length_append]; rfl
    refine ring_mix_rd (R9.pr.sh (prM_wv _)) (prM_sml (by walk_at "om") l9) (fun _ r3 t3 H10 f10 s10 R10 n10 nd10 => ?_) (fun z => by rw [G1] at z; cases z)
    rw [msD_pr] at R10
    have M10 := M9.same s10
    obtain ⟨t0', et0', _, ht0', hp0'⟩ := M9.ix ex0
    rw [et0] at et0'
    cases et0'
    refine ixL_rd (v := .ref t0.1) M10.out at0 ?_
    refine ixT_rd (v := .ref t0.2) (s10 _ _ ht0') rfl ?_
    refine newT_rd (fun z3 H11 f11 s11 h11 => ?_)
    refine newL_rd (fun z4 H12 f12 s12 h12 => ?_)
    have s02 := s11.trans s12
    refine cat_rd (s02 _ _ M10.out) h12 (by rw [List.length_map, List.length_singleton, sizeLine_eq]; have := M10.len; omega) (fun z5 H13 f13 s13 h13 => ?_)
    have s03 := s02.trans s13
    have M13 : MixAt H13 z5 (ts ++ [(z3, t0.2)]) (ms ++ [(x0.1, 4)]) := MixAt.cat (zs := [(z3, t0.2)]) (ns := [(x0.1, 4)]) h13 M10.len rfl (M10.same s03).part (MixAt.one (m := z4) (x := (x0.1, 4)) (s13 _ _ h12) ((s12.trans s13) _ _ h11) ((s10.trans s03) _ _ hp0')).part
    refine right_rd (R10.same s03) M13 nd10 (fun t ht u hu z => ?_) (by walk_at "om") (by walk_at "om") l9 (fun t ht z => ?_) (fun H14 k14 sp14 => ?_)
    · rcases List.mem_append.mp hu with hu | hu
      · obtain ⟨_, _, _, e⟩ := M9.two hu
        rw [← z, n10 t ht] at e; cases e
      · rw [List.mem_singleton.mp hu] at z
        have z : t.2 = t0.2 := z
        rw [← z, n10 t ht] at hp0'; cases hp0'
    · obtain ⟨_, _, _, e⟩ := (R10.same s02).two ht
      rw [z, f13] at e
      cases e
    have S94 : Same H9 H14 := k14.same (s10.trans s03) n10
    have M14 := M9.same S94
    refine br_not (br_T ?_)
    refine bent_rd (P9.same S94) (by walk_at "om") M14 nm o1 o2 ml hh hf ok (fun r4 q4 ps H15 c15 P15 R15 l15 w15 g15 => ?_)
    refine copy_rd R15 (by walk_at "om") (fun r5 q5 H16 f16 s16 R16 n16 => ?_)
    refine refused_rd (R16.sh fun x hx => (w15 x hx).1) (prD_sml (by walk_at "om") fun x hx => by have := (w15 x hx).2; omega) g15 (fun H17 s17 => ?_)
    refine br_not (br_T ?_)
    refine eqO_rd (pr_eq (R16.same s17) (R15.same (s16.trans s17)) fun x hx => wv_flat (w15 x hx).1) ?_
    refine br_not (br_T ?_)
    refine odd_rd (P15.same (s16.trans s17)) (by walk_at "om") ((M14.chg2 c15 nm.1 nm.2 o1 o2).same (s16.trans s17)) nm o1 o2 ml hh hf ok (fun v d H18 P18 sh sm sw bad => ?_)
    refine strA_rd sh sw ?_
    refine refused_rd sh sm bad (fun H19 s19 => ?_)
    refine br_not (br_T ?_)
    refine strA_rd (sh.same s19) sw ?_
    refine br_not (br_dT rfl ?_)
    walk_at "wh"
    exact ⟨_, _, _, _, _, _, _, _, rfl, (P18.same s19).up (by walk_at "om")⟩
  · rintro σ H3 ⟨_, _, _, _, _, _, _, _, rfl, _⟩
    walk_at "wh"
    exact k H3
-- @@split
end
theorem all_mk {l : PySem.W.OpenLaw} {w : World} {K : PySem.W.Frag} {h : Heap} {mg : Str → Option Value} {fa : Addr} (X : K.In h) (G : h.Ns mainGlobals mg) (hfa : mg "law" = some (.ref fa))
    {tk_MOST_HOSTS : Tok} {tk_MOST_FIELDS : Tok} {f_is_whole : Addr} {od_is_whole an_is_whole : Option Addr} {sl_is_whole : Array (Option Value)} {oc_is_whole kV_is_whole dc_is_whole pm_is_whole cd_is_whole ct_is_whole : Value} {f_is_from : Addr} {od_is_from an_is_from : Option Addr} {sl_is_from : Array (Option Value)} {oc_is_from kV_is_from dc_is_from pm_is_from cd_is_from ct_is_from : Value} {f_is_between : Addr} {od_is_between an_is_between : Option Addr} {sl_is_between : Array (Option Value)} {oc_is_between kV_is_between dc_is_between pm_is_between cd_is_between ct_is_between : Value} {f_sends_hosts : Addr} {od_sends_hosts an_sends_hosts : Option Addr} {sl_sends_hosts : Array (Option Value)} {oc_sends_hosts kV_sends_hosts dc_sends_hosts pm_sends_hosts cd_sends_hosts ct_sends_hosts : Value} {f_is_plan : Addr} {od_is_plan an_is_plan : Option Addr} {sl_is_plan : Array (Option Value)} {oc_is_plan kV_is_plan dc_is_plan pm_is_plan cd_is_plan ct_is_plan : Value} {f_never_rises : Addr} {od_never_rises an_never_rises : Option Addr} {sl_never_rises : Array (Option Value)} {oc_never_rises kV_never_rises dc_never_rises pm_never_rises cd_never_rises ct_never_rises : Value} {f_is_size : Addr} {od_is_size an_is_size : Option Addr} {sl_is_size : Array (Option Value)} {oc_is_size kV_is_size dc_is_size pm_is_size cd_is_size ct_is_size : Value} {f_is_part : Addr} {od_is_part an_is_part : Option Addr} {sl_is_part : Array (Option Value)} {oc_is_part kV_is_part dc_is_part pm_is_part cd_is_part ct_is_part : Value} {f_is_mix : Addr} {od_is_mix an_is_mix : Option Addr} {sl_is_mix : Array (Option Value)} {oc_is_mix kV_is_mix dc_is_mix pm_is_mix cd_is_mix ct_is_mix : Value} {f_ring_of : Addr} {od_ring_of an_ring_of : Option Addr} {sl_ring_of : Array (Option Value)} {oc_ring_of kV_ring_of dc_ring_of pm_ring_of cd_ring_of ct_ring_of : Value} {f_ring_mix : Addr} {od_ring_mix an_ring_mix : Option Addr} {sl_ring_mix : Array (Option Value)} {oc_ring_mix kV_ring_mix dc_ring_mix pm_ring_mix cd_ring_mix ct_ring_mix : Value} {f__law_purse : Addr} {od__law_purse an__law_purse : Option Addr} {sl__law_purse : Array (Option Value)} {oc__law_purse kV__law_purse dc__law_purse pm__law_purse cd__law_purse ct__law_purse : Value} {f__law_draw : Addr} {od__law_draw an__law_draw : Option Addr} {sl__law_draw : Array (Option Value)} {oc__law_draw kV__law_draw dc__law_draw pm__law_draw cd__law_draw ct__law_draw : Value} {f__law_whole : Addr} {od__law_whole an__law_whole : Option Addr} {sl__law_whole : Array (Option Value)} {oc__law_whole kV__law_whole dc__law_whole pm__law_whole cd__law_whole ct__law_whole : Value} {f__law_numbers : Addr} {od__law_numbers an__law_numbers : Option Addr} {sl__law_numbers : Array (Option Value)} {oc__law_numbers kV__law_numbers dc__law_numbers pm__law_numbers cd__law_numbers ct__law_numbers : Value} {f__law_counts : Addr} {od__law_counts an__law_counts : Option Addr} {sl__law_counts : Array (Option Value)} {oc__law_counts kV__law_counts dc__law_counts pm__law_counts cd__law_counts ct__law_counts : Value} {f__law_mix : Addr} {od__law_mix an__law_mix : Option Addr} {sl__law_mix : Array (Option Value)} {oc__law_mix kV__law_mix dc__law_mix pm__law_mix cd__law_mix ct__law_mix : Value} {f__law_copy : Addr} {od__law_copy an__law_copy : Option Addr} {sl__law_copy : Array (Option Value)} {oc__law_copy kV__law_copy dc__law_copy pm__law_copy cd__law_copy ct__law_copy : Value} {f__law_bent : Addr} {od__law_bent an__law_bent : Option Addr} {sl__law_bent : Array (Option Value)} {oc__law_bent kV__law_bent dc__law_bent pm__law_bent cd__law_bent ct__law_bent : Value} {f__law_odd : Addr} {od__law_odd an__law_odd : Option Addr} {sl__law_odd : Array (Option Value)} {oc__law_odd kV__law_odd dc__law_odd pm__law_odd cd__law_odd ct__law_odd : Value} {f__law_marks : Addr} {od__law_marks an__law_marks : Option Addr} {sl__law_marks : Array (Option Value)} {oc__law_marks kV__law_marks dc__law_marks pm__law_marks cd__law_marks ct__law_marks : Value} {f__law_refused : Addr} {od__law_refused an__law_refused : Option Addr} {sl__law_refused : Array (Option Value)} {oc__law_refused kV__law_refused dc__law_refused pm__law_refused cd__law_refused ct__law_refused : Value} {f__law_right : Addr} {od__law_right an__law_right : Option Addr} {sl__law_right : Array (Option Value)} {oc__law_right kV__law_right dc__law_right pm__law_right cd__law_right ct__law_right : Value} {f_law : Addr} {od_law an_law : Option Addr} {sl_law : Array (Option Value)} {oc_law kV_law dc_law pm_law cd_law ct_law : Value} {a_HostError : Addr} {cd_HostError : ClassData} {a_NoBattle : Addr} {cd_NoBattle : ClassData} {a_NoPlan : Addr} {cd_NoPlan : ClassData} {a_NoMix : Addr} {cd_NoMix : ClassData} {a_NoStream : Addr} {cd_NoStream : ClassData} {a_NoSide : Addr} {cd_NoSide : ClassData} {a_NoAlike : Addr} {cd_NoAlike : ClassData} {a_NoNumber : Addr} {cd_NoNumber : ClassData} {a_TooGreat : Addr} {cd_TooGreat : ClassData} {a_NoEven : Addr} {cd_NoEven : ClassData} {a_NoText : Addr} {cd_NoText : ClassData} {a_NoRow : Addr} {cd_NoRow : ClassData} {a_NoName : Addr} {cd_NoName : ClassData} {a_NoPlace : Addr} {cd_NoPlace : ClassData}
    (e_MOST_HOSTS : PySem.W.nsIn K mainGlobals "MOST_HOSTS" = some (some (.int 40 tk_MOST_HOSTS)))
    (e_MOST_FIELDS : PySem.W.nsIn K mainGlobals "MOST_FIELDS" = some (some (.int 8 tk_MOST_FIELDS)))
    (a_is_whole : PySem.W.nsIn K mainGlobals "is_whole" = some (some (.ref f_is_whole)))
    (l_is_whole : K.lookup f_is_whole = some ⟨oc_is_whole, od_is_whole, .func (PySem.W.fnOf "is_whole" "is_whole" (defArgs s_is_whole) (defBody s_is_whole) (defScope s_is_whole) .none kV_is_whole dc_is_whole pm_is_whole an_is_whole cd_is_whole ct_is_whole), sl_is_whole⟩)
    (c_is_whole : PySem.W.codeIn K cd_is_whole "is_whole" = true)
    (k_is_whole : PySem.W.keepIn K (.ref f_is_whole) = true)
    (a_is_from : PySem.W.nsIn K mainGlobals "is_from" = some (some (.ref f_is_from)))
    (l_is_from : K.lookup f_is_from = some ⟨oc_is_from, od_is_from, .func (PySem.W.fnOf "is_from" "is_from" (defArgs s_is_from) (defBody s_is_from) (defScope s_is_from) .none kV_is_from dc_is_from pm_is_from an_is_from cd_is_from ct_is_from), sl_is_from⟩)
    (c_is_from : PySem.W.codeIn K cd_is_from "is_from" = true)
    (k_is_from : PySem.W.keepIn K (.ref f_is_from) = true)
    (a_is_between : PySem.W.nsIn K mainGlobals "is_between" = some (some (.ref f_is_between)))
    (l_is_between : K.lookup f_is_between = some ⟨oc_is_between, od_is_between, .func (PySem.W.fnOf "is_between" "is_between" (defArgs s_is_between) (defBody s_is_between) (defScope s_is_between) .none kV_is_between dc_is_between pm_is_between an_is_between cd_is_between ct_is_between), sl_is_between⟩)
    (c_is_between : PySem.W.codeIn K cd_is_between "is_between" = true)
    (k_is_between : PySem.W.keepIn K (.ref f_is_between) = true)
    (a_sends_hosts : PySem.W.nsIn K mainGlobals "sends_hosts" = some (some (.ref f_sends_hosts)))
    (l_sends_hosts : K.lookup f_sends_hosts = some ⟨oc_sends_hosts, od_sends_hosts, .func (PySem.W.fnOf "sends_hosts" "sends_hosts" (defArgs s_sends_hosts) (defBody s_sends_hosts) (defScope s_sends_hosts) .none kV_sends_hosts dc_sends_hosts pm_sends_hosts an_sends_hosts cd_sends_hosts ct_sends_hosts), sl_sends_hosts⟩)
    (c_sends_hosts : PySem.W.codeIn K cd_sends_hosts "sends_hosts" = true)
    (k_sends_hosts : PySem.W.keepIn K (.ref f_sends_hosts) = true)
    (a_is_plan : PySem.W.nsIn K mainGlobals "is_plan" = some (some (.ref f_is_plan)))
    (l_is_plan : K.lookup f_is_plan = some ⟨oc_is_plan, od_is_plan, .func (PySem.W.fnOf "is_plan" "is_plan" (defArgs s_is_plan) (defBody s_is_plan) (defScope s_is_plan) .none kV_is_plan dc_is_plan pm_is_plan an_is_plan cd_is_plan ct_is_plan), sl_is_plan⟩)
    (c_is_plan : PySem.W.codeIn K cd_is_plan "is_plan" = true)
    (k_is_plan : PySem.W.keepIn K (.ref f_is_plan) = true)
    (a_never_rises : PySem.W.nsIn K mainGlobals "never_rises" = some (some (.ref f_never_rises)))
    (l_never_rises : K.lookup f_never_rises = some ⟨oc_never_rises, od_never_rises, .func (PySem.W.fnOf "never_rises" "never_rises" (defArgs s_never_rises) (defBody s_never_rises) (defScope s_never_rises) .none kV_never_rises dc_never_rises pm_never_rises an_never_rises cd_never_rises ct_never_rises), sl_never_rises⟩)
    (c_never_rises : PySem.W.codeIn K cd_never_rises "never_rises" = true)
    (k_never_rises : PySem.W.keepIn K (.ref f_never_rises) = true)
    (a_is_size : PySem.W.nsIn K mainGlobals "is_size" = some (some (.ref f_is_size)))
    (l_is_size : K.lookup f_is_size = some ⟨oc_is_size, od_is_size, .func (PySem.W.fnOf "is_size" "is_size" (defArgs s_is_size) (defBody s_is_size) (defScope s_is_size) .none kV_is_size dc_is_size pm_is_size an_is_size cd_is_size ct_is_size), sl_is_size⟩)
    (c_is_size : PySem.W.codeIn K cd_is_size "is_size" = true)
    (k_is_size : PySem.W.keepIn K (.ref f_is_size) = true)
    (a_is_part : PySem.W.nsIn K mainGlobals "is_part" = some (some (.ref f_is_part)))
    (l_is_part : K.lookup f_is_part = some ⟨oc_is_part, od_is_part, .func (PySem.W.fnOf "is_part" "is_part" (defArgs s_is_part) (defBody s_is_part) (defScope s_is_part) .none kV_is_part dc_is_part pm_is_part an_is_part cd_is_part ct_is_part), sl_is_part⟩)
    (c_is_part : PySem.W.codeIn K cd_is_part "is_part" = true)
    (k_is_part : PySem.W.keepIn K (.ref f_is_part) = true)
    (a_is_mix : PySem.W.nsIn K mainGlobals "is_mix" = some (some (.ref f_is_mix)))
    (l_is_mix : K.lookup f_is_mix = some ⟨oc_is_mix, od_is_mix, .func (PySem.W.fnOf "is_mix" "is_mix" (defArgs s_is_mix) (defBody s_is_mix) (defScope s_is_mix) .none kV_is_mix dc_is_mix pm_is_mix an_is_mix cd_is_mix ct_is_mix), sl_is_mix⟩)
    (c_is_mix : PySem.W.codeIn K cd_is_mix "is_mix" = true)
    (k_is_mix : PySem.W.keepIn K (.ref f_is_mix) = true)
    (a_ring_of : PySem.W.nsIn K mainGlobals "ring_of" = some (some (.ref f_ring_of)))
    (l_ring_of : K.lookup f_ring_of = some ⟨oc_ring_of, od_ring_of, .func (PySem.W.fnOf "ring_of" "ring_of" (defArgs s_ring_of) (defBody s_ring_of) (defScope s_ring_of) .none kV_ring_of dc_ring_of pm_ring_of an_ring_of cd_ring_of ct_ring_of), sl_ring_of⟩)
    (c_ring_of : PySem.W.codeIn K cd_ring_of "ring_of" = true)
    (k_ring_of : PySem.W.keepIn K (.ref f_ring_of) = true)
    (a_ring_mix : PySem.W.nsIn K mainGlobals "ring_mix" = some (some (.ref f_ring_mix)))
    (l_ring_mix : K.lookup f_ring_mix = some ⟨oc_ring_mix, od_ring_mix, .func (PySem.W.fnOf "ring_mix" "ring_mix" (defArgs s_ring_mix) (defBody s_ring_mix) (defScope s_ring_mix) .none kV_ring_mix dc_ring_mix pm_ring_mix an_ring_mix cd_ring_mix ct_ring_mix), sl_ring_mix⟩)
    (c_ring_mix : PySem.W.codeIn K cd_ring_mix "ring_mix" = true)
    (k_ring_mix : PySem.W.keepIn K (.ref f_ring_mix) = true)
    (a__law_purse : PySem.W.nsIn K mainGlobals "_law_purse" = some (some (.ref f__law_purse)))
    (l__law_purse : K.lookup f__law_purse = some ⟨oc__law_purse, od__law_purse, .func (PySem.W.fnOf "_law_purse" "_law_purse" (defArgs s__law_purse) (defBody s__law_purse) (defScope s__law_purse) .none kV__law_purse dc__law_purse pm__law_purse an__law_purse cd__law_purse ct__law_purse), sl__law_purse⟩)
    (c__law_purse : PySem.W.codeIn K cd__law_purse "_law_purse" = true)
    (k__law_purse : PySem.W.keepIn K (.ref f__law_purse) = true)
    (a__law_draw : PySem.W.nsIn K mainGlobals "_law_draw" = some (some (.ref f__law_draw)))
    (l__law_draw : K.lookup f__law_draw = some ⟨oc__law_draw, od__law_draw, .func (PySem.W.fnOf "_law_draw" "_law_draw" (defArgs s__law_draw) (defBody s__law_draw) (defScope s__law_draw) .none kV__law_draw dc__law_draw pm__law_draw an__law_draw cd__law_draw ct__law_draw), sl__law_draw⟩)
    (c__law_draw : PySem.W.codeIn K cd__law_draw "_law_draw" = true)
    (k__law_draw : PySem.W.keepIn K (.ref f__law_draw) = true)
    (a__law_whole : PySem.W.nsIn K mainGlobals "_law_whole" = some (some (.ref f__law_whole)))
    (l__law_whole : K.lookup f__law_whole = some ⟨oc__law_whole, od__law_whole, .func (PySem.W.fnOf "_law_whole" "_law_whole" (defArgs s__law_whole) (defBody s__law_whole) (defScope s__law_whole) .none kV__law_whole dc__law_whole pm__law_whole an__law_whole cd__law_whole ct__law_whole), sl__law_whole⟩)
    (c__law_whole : PySem.W.codeIn K cd__law_whole "_law_whole" = true)
    (k__law_whole : PySem.W.keepIn K (.ref f__law_whole) = true)
    (a__law_numbers : PySem.W.nsIn K mainGlobals "_law_numbers" = some (some (.ref f__law_numbers)))
    (l__law_numbers : K.lookup f__law_numbers = some ⟨oc__law_numbers, od__law_numbers, .func (PySem.W.fnOf "_law_numbers" "_law_numbers" (defArgs s__law_numbers) (defBody s__law_numbers) (defScope s__law_numbers) .none kV__law_numbers dc__law_numbers pm__law_numbers an__law_numbers cd__law_numbers ct__law_numbers), sl__law_numbers⟩)
    (c__law_numbers : PySem.W.codeIn K cd__law_numbers "_law_numbers" = true)
    (k__law_numbers : PySem.W.keepIn K (.ref f__law_numbers) = true)
    (a__law_counts : PySem.W.nsIn K mainGlobals "_law_counts" = some (some (.ref f__law_counts)))
    (l__law_counts : K.lookup f__law_counts = some ⟨oc__law_counts, od__law_counts, .func (PySem.W.fnOf "_law_counts" "_law_counts" (defArgs s__law_counts) (defBody s__law_counts) (defScope s__law_counts) .none kV__law_counts dc__law_counts pm__law_counts an__law_counts cd__law_counts ct__law_counts), sl__law_counts⟩)
    (c__law_counts : PySem.W.codeIn K cd__law_counts "_law_counts" = true)
    (k__law_counts : PySem.W.keepIn K (.ref f__law_counts) = true)
    (a__law_mix : PySem.W.nsIn K mainGlobals "_law_mix" = some (some (.ref f__law_mix)))
    (l__law_mix : K.lookup f__law_mix = some ⟨oc__law_mix, od__law_mix, .func (PySem.W.fnOf "_law_mix" "_law_mix" (defArgs s__law_mix) (defBody s__law_mix) (defScope s__law_mix) .none kV__law_mix dc__law_mix pm__law_mix an__law_mix cd__law_mix ct__law_mix), sl__law_mix⟩)
    (c__law_mix : PySem.W.codeIn K cd__law_mix "_law_mix" = true)
    (k__law_mix : PySem.W.keepIn K (.ref f__law_mix) = true)
    (a__law_copy : PySem.W.nsIn K mainGlobals "_law_copy" = some (some (.ref f__law_copy)))
    (l__law_copy : K.lookup f__law_copy = some ⟨oc__law_copy, od__law_copy, .func (PySem.W.fnOf "_law_copy" "_law_copy" (defArgs s__law_copy) (defBody s__law_copy) (defScope s__law_copy) .none kV__law_copy dc__law_copy pm__law_copy an__law_copy cd__law_copy ct__law_copy), sl__law_copy⟩)
    (c__law_copy : PySem.W.codeIn K cd__law_copy "_law_copy" = true)
    (k__law_copy : PySem.W.keepIn K (.ref f__law_copy) = true)
    (a__law_bent : PySem.W.nsIn K mainGlobals "_law_bent" = some (some (.ref f__law_bent)))
    (l__law_bent : K.lookup f__law_bent = some ⟨oc__law_bent, od__law_bent, .func (PySem.W.fnOf "_law_bent" "_law_bent" (defArgs s__law_bent) (defBody s__law_bent) (defScope s__law_bent) .none kV__law_bent dc__law_bent pm__law_bent an__law_bent cd__law_bent ct__law_bent), sl__law_bent⟩)
    (c__law_bent : PySem.W.codeIn K cd__law_bent "_law_bent" = true)
    (k__law_bent : PySem.W.keepIn K (.ref f__law_bent) = true)
    (a__law_odd : PySem.W.nsIn K mainGlobals "_law_odd" = some (some (.ref f__law_odd)))
    (l__law_odd : K.lookup f__law_odd = some ⟨oc__law_odd, od__law_odd, .func (PySem.W.fnOf "_law_odd" "_law_odd" (defArgs s__law_odd) (defBody s__law_odd) (defScope s__law_odd) .none kV__law_odd dc__law_odd pm__law_odd an__law_odd cd__law_odd ct__law_odd), sl__law_odd⟩)
    (c__law_odd : PySem.W.codeIn K cd__law_odd "_law_odd" = true)
    (k__law_odd : PySem.W.keepIn K (.ref f__law_odd) = true)
    (a__law_marks : PySem.W.nsIn K mainGlobals "_law_marks" = some (some (.ref f__law_marks)))
    (l__law_marks : K.lookup f__law_marks = some ⟨oc__law_marks, od__law_marks, .func (PySem.W.fnOf "_law_marks" "_law_marks" (defArgs s__law_marks) (defBody s__law_marks) (defScope s__law_marks) .none kV__law_marks dc__law_marks pm__law_marks an__law_marks cd__law_marks ct__law_marks), sl__law_marks⟩)
    (c__law_marks : PySem.W.codeIn K cd__law_marks "_law_marks" = true)
    (k__law_marks : PySem.W.keepIn K (.ref f__law_marks) = true)
    (a__law_refused : PySem.W.nsIn K mainGlobals "_law_refused" = some (some (.ref f__law_refused)))
    (l__law_refused : K.lookup f__law_refused = some ⟨oc__law_refused, od__law_refused, .func (PySem.W.fnOf "_law_refused" "_law_refused" (defArgs s__law_refused) (defBody s__law_refused) (defScope s__law_refused) .none kV__law_refused dc__law_refused pm__law_refused an__law_refused cd__law_refused ct__law_refused), sl__law_refused⟩)
    (c__law_refused : PySem.W.codeIn K cd__law_refused "_law_refused" = true)
    (k__law_refused : PySem.W.keepIn K (.ref f__law_refused) = true)
    (a__law_right : PySem.W.nsIn K mainGlobals "_law_right" = some (some (.ref f__law_right)))
    (l__law_right : K.lookup f__law_right = some ⟨oc__law_right, od__law_right, .func (PySem.W.fnOf "_law_right" "_law_right" (defArgs s__law_right) (defBody s__law_right) (defScope s__law_right) .none kV__law_right dc__law_right pm__law_right an__law_right cd__law_right ct__law_right), sl__law_right⟩)
    (c__law_right : PySem.W.codeIn K cd__law_right "_law_right" = true)
    (k__law_right : PySem.W.keepIn K (.ref f__law_right) = true)
    (a_law : PySem.W.nsIn K mainGlobals "law" = some (some (.ref f_law)))
    (l_law : K.lookup f_law = some ⟨oc_law, od_law, .func (PySem.W.fnOf "law" "law" (defArgs s_law) (defBody s_law) (defScope s_law) .none kV_law dc_law pm_law an_law cd_law ct_law), sl_law⟩)
    (c_law : PySem.W.codeIn K cd_law "law" = true)
    (k_law : PySem.W.keepIn K (.ref f_law) = true)
    (z_ValueError : PySem.W.nsIn K mainGlobals "ValueError" = some none)
    (z_all : PySem.W.nsIn K mainGlobals "all" = some none)
    (z_bool : PySem.W.nsIn K mainGlobals "bool" = some none)
    (z_int : PySem.W.nsIn K mainGlobals "int" = some none)
    (z_isinstance : PySem.W.nsIn K mainGlobals "isinstance" = some none)
    (z_len : PySem.W.nsIn K mainGlobals "len" = some none)
    (z_list : PySem.W.nsIn K mainGlobals "list" = some none)
    (z_min : PySem.W.nsIn K mainGlobals "min" = some none)
    (z_range : PySem.W.nsIn K mainGlobals "range" = some none)
    (z_str : PySem.W.nsIn K mainGlobals "str" = some none)
    (z_sum : PySem.W.nsIn K mainGlobals "sum" = some none)
    (z_tuple : PySem.W.nsIn K mainGlobals "tuple" = some none)
    (z_zip : PySem.W.nsIn K mainGlobals "zip" = some none)
    (e_HostError : PySem.W.nsIn K mainGlobals "HostError" = some (some (.ref a_HostError)))
    (kk_HostError : PySem.W.clsIn K a_HostError = some cd_HostError)
    (tt_HostError : PySem.W.typeIn K (.ref a_HostError) = some (.type "type"))
    (nn_HostError : PySem.W.subIn K (.type "NoneType") (.ref a_HostError) = some false)
    (e_NoBattle : PySem.W.nsIn K mainGlobals "NoBattle" = some (some (.ref a_NoBattle)))
    (kk_NoBattle : PySem.W.clsIn K a_NoBattle = some cd_NoBattle)
    (tt_NoBattle : PySem.W.typeIn K (.ref a_NoBattle) = some (.type "type"))
    (nn_NoBattle : PySem.W.subIn K (.type "NoneType") (.ref a_NoBattle) = some false)
    (e_NoPlan : PySem.W.nsIn K mainGlobals "NoPlan" = some (some (.ref a_NoPlan)))
    (kk_NoPlan : PySem.W.clsIn K a_NoPlan = some cd_NoPlan)
    (tt_NoPlan : PySem.W.typeIn K (.ref a_NoPlan) = some (.type "type"))
    (nn_NoPlan : PySem.W.subIn K (.type "NoneType") (.ref a_NoPlan) = some false)
    (e_NoMix : PySem.W.nsIn K mainGlobals "NoMix" = some (some (.ref a_NoMix)))
    (kk_NoMix : PySem.W.clsIn K a_NoMix = some cd_NoMix)
    (tt_NoMix : PySem.W.typeIn K (.ref a_NoMix) = some (.type "type"))
    (nn_NoMix : PySem.W.subIn K (.type "NoneType") (.ref a_NoMix) = some false)
    (e_NoStream : PySem.W.nsIn K mainGlobals "NoStream" = some (some (.ref a_NoStream)))
    (kk_NoStream : PySem.W.clsIn K a_NoStream = some cd_NoStream)
    (tt_NoStream : PySem.W.typeIn K (.ref a_NoStream) = some (.type "type"))
    (nn_NoStream : PySem.W.subIn K (.type "NoneType") (.ref a_NoStream) = some false)
    (e_NoSide : PySem.W.nsIn K mainGlobals "NoSide" = some (some (.ref a_NoSide)))
    (kk_NoSide : PySem.W.clsIn K a_NoSide = some cd_NoSide)
    (tt_NoSide : PySem.W.typeIn K (.ref a_NoSide) = some (.type "type"))
    (nn_NoSide : PySem.W.subIn K (.type "NoneType") (.ref a_NoSide) = some false)
    (e_NoAlike : PySem.W.nsIn K mainGlobals "NoAlike" = some (some (.ref a_NoAlike)))
    (kk_NoAlike : PySem.W.clsIn K a_NoAlike = some cd_NoAlike)
    (tt_NoAlike : PySem.W.typeIn K (.ref a_NoAlike) = some (.type "type"))
    (nn_NoAlike : PySem.W.subIn K (.type "NoneType") (.ref a_NoAlike) = some false)
    (e_NoNumber : PySem.W.nsIn K mainGlobals "NoNumber" = some (some (.ref a_NoNumber)))
    (kk_NoNumber : PySem.W.clsIn K a_NoNumber = some cd_NoNumber)
    (tt_NoNumber : PySem.W.typeIn K (.ref a_NoNumber) = some (.type "type"))
    (nn_NoNumber : PySem.W.subIn K (.type "NoneType") (.ref a_NoNumber) = some false)
    (e_TooGreat : PySem.W.nsIn K mainGlobals "TooGreat" = some (some (.ref a_TooGreat)))
    (kk_TooGreat : PySem.W.clsIn K a_TooGreat = some cd_TooGreat)
    (tt_TooGreat : PySem.W.typeIn K (.ref a_TooGreat) = some (.type "type"))
    (nn_TooGreat : PySem.W.subIn K (.type "NoneType") (.ref a_TooGreat) = some false)
    (e_NoEven : PySem.W.nsIn K mainGlobals "NoEven" = some (some (.ref a_NoEven)))
    (kk_NoEven : PySem.W.clsIn K a_NoEven = some cd_NoEven)
    (tt_NoEven : PySem.W.typeIn K (.ref a_NoEven) = some (.type "type"))
    (nn_NoEven : PySem.W.subIn K (.type "NoneType") (.ref a_NoEven) = some false)
    (e_NoText : PySem.W.nsIn K mainGlobals "NoText" = some (some (.ref a_NoText)))
    (kk_NoText : PySem.W.clsIn K a_NoText = some cd_NoText)
    (tt_NoText : PySem.W.typeIn K (.ref a_NoText) = some (.type "type"))
    (nn_NoText : PySem.W.subIn K (.type "NoneType") (.ref a_NoText) = some false)
    (e_NoRow : PySem.W.nsIn K mainGlobals "NoRow" = some (some (.ref a_NoRow)))
    (kk_NoRow : PySem.W.clsIn K a_NoRow = some cd_NoRow)
    (tt_NoRow : PySem.W.typeIn K (.ref a_NoRow) = some (.type "type"))
    (nn_NoRow : PySem.W.subIn K (.type "NoneType") (.ref a_NoRow) = some false)
    (e_NoName : PySem.W.nsIn K mainGlobals "NoName" = some (some (.ref a_NoName)))
    (kk_NoName : PySem.W.clsIn K a_NoName = some cd_NoName)
    (tt_NoName : PySem.W.typeIn K (.ref a_NoName) = some (.type "type"))
    (nn_NoName : PySem.W.subIn K (.type "NoneType") (.ref a_NoName) = some false)
    (e_NoPlace : PySem.W.nsIn K mainGlobals "NoPlace" = some (some (.ref a_NoPlace)))
    (kk_NoPlace : PySem.W.clsIn K a_NoPlace = some cd_NoPlace)
    (tt_NoPlace : PySem.W.typeIn K (.ref a_NoPlace) = some (.type "type"))
    (nn_NoPlace : PySem.W.subIn K (.type "NoneType") (.ref a_NoPlace) = some false)
    (bb_HostError : PySem.W.subIn K (.ref a_HostError) (.type "BaseException") = some true)
    (x_NoMix : PySem.W.excIn K a_NoMix bmV newV = true)
    (f1_NoMix : PySem.W.findIn K (.ref a_NoMix) "__getattribute__" = some (some (.builtin "BaseException.__getattribute__")))
    (f2_NoMix : PySem.W.findIn K (.ref a_NoMix) "__getattr__" = some none)
    (f3_NoMix : PySem.W.findIn K (.ref a_NoMix) "__class__" = some (some (.builtin "object.__class__")))
    (f4_NoMix : PySem.W.subIn K (.ref a_NoMix) (.type "BaseException") = some true)
    (f5_NoMix : PySem.W.mroIn K a_NoMix (.type "object") = some true)
    (f6_NoMix : PySem.W.subIn K (.ref a_NoMix) (.type "ValueError") = some true)
    (s_NoMix_HostError : PySem.W.subIn K (.ref a_NoMix) (.ref a_HostError) = some true)
    (s_NoMix_NoBattle : PySem.W.subIn K (.ref a_NoMix) (.ref a_NoBattle) = some false)
    (s_NoMix_NoPlan : PySem.W.subIn K (.ref a_NoMix) (.ref a_NoPlan) = some false)
    (s_NoMix_NoMix : PySem.W.subIn K (.ref a_NoMix) (.ref a_NoMix) = some true)
    (s_NoMix_NoStream : PySem.W.subIn K (.ref a_NoMix) (.ref a_NoStream) = some false)
    (s_NoMix_NoSide : PySem.W.subIn K (.ref a_NoMix) (.ref a_NoSide) = some false)
    (s_NoMix_NoAlike : PySem.W.subIn K (.ref a_NoMix) (.ref a_NoAlike) = some false)
    (s_NoMix_NoNumber : PySem.W.subIn K (.ref a_NoMix) (.ref a_NoNumber) = some false)
    (s_NoMix_TooGreat : PySem.W.subIn K (.ref a_NoMix) (.ref a_TooGreat) = some false)
    (s_NoMix_NoEven : PySem.W.subIn K (.ref a_NoMix) (.ref a_NoEven) = some false)
    (s_NoMix_NoText : PySem.W.subIn K (.ref a_NoMix) (.ref a_NoText) = some false)
    (s_NoMix_NoRow : PySem.W.subIn K (.ref a_NoMix) (.ref a_NoRow) = some false)
    (s_NoMix_NoName : PySem.W.subIn K (.ref a_NoMix) (.ref a_NoName) = some false)
    (s_NoMix_NoPlace : PySem.W.subIn K (.ref a_NoMix) (.ref a_NoPlace) = some false) :
    ∃ fd : FuncData, (∀ (s : Shared) (v : Value), BindsTo s fd ⟨[v], []⟩ [("_law_script", v)]) ∧ ∀ base : Heap, K.In base → base.Ns mainGlobals mg → FnOk l.prog w K mg base CX0 8 fa fd ["_law_script"] (spLaw K) := by
  have e := hfa.symm.trans (PySem.W.mg_of X G a_law)
  cases e
  have N : Nm mg := ⟨PySem.W.mg_none_of X G z_ValueError, PySem.W.mg_none_of X G z_all, PySem.W.mg_none_of X G z_bool, PySem.W.mg_none_of X G z_int, PySem.W.mg_none_of X G z_isinstance, PySem.W.mg_none_of X G z_len, PySem.W.mg_none_of X G z_list, PySem.W.mg_none_of X G z_min, PySem.W.mg_none_of X G z_range, PySem.W.mg_none_of X G z_str, PySem.W.mg_none_of X G z_sum, PySem.W.mg_none_of X G z_tuple, PySem.W.mg_none_of X G z_zip⟩
  have C_MOST_HOSTS := PySem.W.mg_of X G e_MOST_HOSTS
  have C_MOST_FIELDS := PySem.W.mg_of X G e_MOST_FIELDS
  have F_is_whole := fun_mk (st := s_is_whole) l_is_whole c_is_whole k_is_whole
  have F_is_from := fun_mk (st := s_is_from) l_is_from c_is_from k_is_from
  have F_is_between := fun_mk (st := s_is_between) l_is_between c_is_between k_is_between
  have F_sends_hosts := fun_mk (st := s_sends_hosts) l_sends_hosts c_sends_hosts k_sends_hosts
  have F_is_plan := fun_mk (st := s_is_plan) l_is_plan c_is_plan k_is_plan
  have F_never_rises := fun_mk (st := s_never_rises) l_never_rises c_never_rises k_never_rises
  have F_is_size := fun_mk (st := s_is_size) l_is_size c_is_size k_is_size
  have F_is_part := fun_mk (st := s_is_part) l_is_part c_is_part k_is_part
  have F_is_mix := fun_mk (st := s_is_mix) l_is_mix c_is_mix k_is_mix
  have F_ring_of := fun_mk (st := s_ring_of) l_ring_of c_ring_of k_ring_of
  have F_ring_mix := fun_mk (st := s_ring_mix) l_ring_mix c_ring_mix k_ring_mix
  have F__law_purse := fun_mk (st := s__law_purse) l__law_purse c__law_purse k__law_purse
  have F__law_draw := fun_mk (st := s__law_draw) l__law_draw c__law_draw k__law_draw
  have F__law_whole := fun_mk (st := s__law_whole) l__law_whole c__law_whole k__law_whole
  have F__law_numbers := fun_mk (st := s__law_numbers) l__law_numbers c__law_numbers k__law_numbers
  have F__law_counts := fun_mk (st := s__law_counts) l__law_counts c__law_counts k__law_counts
  have F__law_mix := fun_mk (st := s__law_mix) l__law_mix c__law_mix k__law_mix
  have F__law_copy := fun_mk (st := s__law_copy) l__law_copy c__law_copy k__law_copy
  have F__law_bent := fun_mk (st := s__law_bent) l__law_bent c__law_bent k__law_bent
  have F__law_odd := fun_mk (st := s__law_odd) l__law_odd c__law_odd k__law_odd
  have F__law_marks := fun_mk (st := s__law_marks) l__law_marks c__law_marks k__law_marks
  have F__law_refused := fun_mk (st := s__law_refused) l__law_refused c__law_refused k__law_refused
  have F__law_right := fun_mk (st := s__law_right) l__law_right c__law_right k__law_right
  have F_law := fun_mk (st := s_law) l_law c_law k_law
  refine ⟨PySem.W.fnOf "law" "law" (defArgs s_law) (defBody s_law) (defScope s_law) .none kV_law dc_law pm_law an_law cd_law ct_law, fun s v => .of_eq rfl, fun base XB GB => ?_⟩
  have Z : Cz K mg base a_HostError a_NoBattle a_NoPlan a_NoMix a_NoStream a_NoSide a_NoAlike a_NoNumber a_TooGreat a_NoEven a_NoText a_NoRow a_NoName a_NoPlace := ⟨PySem.W.mg_of X G e_HostError, PySem.W.mg_of X G e_NoBattle, PySem.W.mg_of X G e_NoPlan, PySem.W.mg_of X G e_NoMix, PySem.W.mg_of X G e_NoStream, PySem.W.mg_of X G e_NoSide, PySem.W.mg_of X G e_NoAlike, PySem.W.mg_of X G e_NoNumber, PySem.W.mg_of X G e_TooGreat, PySem.W.mg_of X G e_NoEven, PySem.W.mg_of X G e_NoText, PySem.W.mg_of X G e_NoRow, PySem.W.mg_of X G e_NoName, PySem.W.mg_of X G e_NoPlace, own_of_K XB GB e_NoMix x_NoMix, ⟨f1_NoMix, f2_NoMix, f3_NoMix, f4_NoMix, f5_NoMix⟩, by rw [kk_NoMix]; rfl, exm_ref bb_HostError kk_HostError tt_HostError s_NoMix_HostError, kit_ValueError f6_NoMix, kit_ref kk_HostError tt_HostError s_NoMix_HostError s_NoMix_NoMix, kit_ref kk_NoBattle tt_NoBattle s_NoMix_NoBattle s_NoMix_NoMix, kit_ref kk_NoPlan tt_NoPlan s_NoMix_NoPlan s_NoMix_NoMix, kit_ref kk_NoMix tt_NoMix s_NoMix_NoMix s_NoMix_NoMix, kit_ref kk_NoStream tt_NoStream s_NoMix_NoStream s_NoMix_NoMix, kit_ref kk_NoSide tt_NoSide s_NoMix_NoSide s_NoMix_NoMix, kit_ref kk_NoAlike tt_NoAlike s_NoMix_NoAlike s_NoMix_NoMix, kit_ref kk_NoNumber tt_NoNumber s_NoMix_NoNumber s_NoMix_NoMix, kit_ref kk_TooGreat tt_TooGreat s_NoMix_TooGreat s_NoMix_NoMix, kit_ref kk_NoEven tt_NoEven s_NoMix_NoEven s_NoMix_NoMix, kit_ref kk_NoText tt_NoText s_NoMix_NoText s_NoMix_NoMix, kit_ref kk_NoRow tt_NoRow s_NoMix_NoRow s_NoMix_NoMix, kit_ref kk_NoName tt_NoName s_NoMix_NoName s_NoMix_NoMix, kit_ref kk_NoPlace tt_NoPlace s_NoMix_NoPlace s_NoMix_NoMix, kit_none kk_HostError tt_HostError nn_HostError, kit_none kk_NoBattle tt_NoBattle nn_NoBattle, kit_none kk_NoPlan tt_NoPlan nn_NoPlan, kit_none kk_NoMix tt_NoMix nn_NoMix, kit_none kk_NoStream tt_NoStream nn_NoStream, kit_none kk_NoSide tt_NoSide nn_NoSide, kit_none kk_NoAlike tt_NoAlike nn_NoAlike, kit_none kk_NoNumber tt_NoNumber nn_NoNumber, kit_none kk_TooGreat tt_TooGreat nn_TooGreat, kit_none kk_NoEven tt_NoEven nn_NoEven, kit_none kk_NoText tt_NoText nn_NoText, kit_none kk_NoRow tt_NoRow nn_NoRow, kit_none kk_NoName tt_NoName nn_NoName, kit_none kk_NoPlace tt_NoPlace nn_NoPlace⟩
  have D_is_whole : Def l.prog w K mg base CX0 1 "is_whole" ["thing"] sp_is_whole := ⟨⟨_, _, ok_is_whole (P := l.prog) (w := w) (base := base) F_is_whole N , PySem.W.mg_of X G a_is_whole, k_is_whole, F_is_whole.binds fun _ _ _ _ _ _ us hl => match us, hl with | [_], _ => rfl⟩⟩
  have D_is_from : Def l.prog w K mg base CX0 2 "is_from" ["thing", "least"] sp_is_from := ⟨⟨_, _, ok_is_from (P := l.prog) (w := w) (base := base) F_is_from N D_is_whole, PySem.W.mg_of X G a_is_from, k_is_from, F_is_from.binds fun _ _ _ _ _ _ us hl => match us, hl with | [_, _], _ => rfl⟩⟩
  have D_is_between : Def l.prog w K mg base CX0 3 "is_between" ["thing", "least", "most"] sp_is_between := ⟨⟨_, _, ok_is_between (P := l.prog) (w := w) (base := base) F_is_between N D_is_from, PySem.W.mg_of X G a_is_between, k_is_between, F_is_between.binds fun _ _ _ _ _ _ us hl => match us, hl with | [_, _, _], _ => rfl⟩⟩
  have D_sends_hosts : Def l.prog w K mg base CX0 3 "sends_hosts" ["plan"] sp_sends_hosts := ⟨⟨_, _, ok_sends_hosts (P := l.prog) (w := w) (base := base) F_sends_hosts N D_is_from, PySem.W.mg_of X G a_sends_hosts, k_sends_hosts, F_sends_hosts.binds fun _ _ _ _ _ _ us hl => match us, hl with | [_], _ => rfl⟩⟩
  have D_is_plan : Def l.prog w K mg base CX0 4 "is_plan" ["hosts", "fields", "plan"] sp_is_plan := ⟨⟨_, _, ok_is_plan (P := l.prog) (w := w) (base := base) F_is_plan N D_sends_hosts, PySem.W.mg_of X G a_is_plan, k_is_plan, F_is_plan.binds fun _ _ _ _ _ _ us hl => match us, hl with | [_, _, _], _ => rfl⟩⟩
  have D_never_rises : Def l.prog w K mg base CX0 1 "never_rises" ["plan"] sp_never_rises := ⟨⟨_, _, ok_never_rises (P := l.prog) (w := w) (base := base) F_never_rises N , PySem.W.mg_of X G a_never_rises, k_never_rises, F_never_rises.binds fun _ _ _ _ _ _ us hl => match us, hl with | [_], _ => rfl⟩⟩
  have D_is_size : Def l.prog w K mg base CX0 4 "is_size" ["hosts", "fields"] sp_is_size := ⟨⟨_, _, ok_is_size (P := l.prog) (w := w) (base := base) F_is_size N C_MOST_FIELDS C_MOST_HOSTS D_is_between, PySem.W.mg_of X G a_is_size, k_is_size, F_is_size.binds fun _ _ _ _ _ _ us hl => match us, hl with | [_, _], _ => rfl⟩⟩
  have D_is_part : Def l.prog w K mg base CX0 4 "is_part" ["part"] sp_is_part := ⟨⟨_, _, ok_is_part (P := l.prog) (w := w) (base := base) F_is_part N D_is_from D_sends_hosts, PySem.W.mg_of X G a_is_part, k_is_part, F_is_part.binds fun _ _ _ _ _ _ us hl => match us, hl with | [_], _ => rfl⟩⟩
  have D_is_mix : Def l.prog w K mg base CX0 5 "is_mix" ["mix"] sp_is_mix := ⟨⟨_, _, ok_is_mix (P := l.prog) (w := w) (base := base) F_is_mix N D_is_part D_is_plan D_is_size, PySem.W.mg_of X G a_is_mix, k_is_mix, F_is_mix.binds fun _ _ _ _ _ _ us hl => match us, hl with | [_], _ => rfl⟩⟩
  have D_ring_of : Def l.prog w K mg base CX0 1 "ring_of" ["plan"] sp_ring_of := ⟨⟨_, _, ok_ring_of (P := l.prog) (w := w) (base := base) F_ring_of N , PySem.W.mg_of X G a_ring_of, k_ring_of, F_ring_of.binds fun _ _ _ _ _ _ us hl => match us, hl with | [_], _ => rfl⟩⟩
  have D_ring_mix : Def l.prog w K mg base (CXR l.prog w) 6 "ring_mix" ["mix"] (sp_ring_mix a_NoMix) := ⟨⟨_, _, ok_ring_mix (P := l.prog) (w := w) (base := base) F_ring_mix N D_is_mix D_never_rises D_ring_of Z, PySem.W.mg_of X G a_ring_mix, k_ring_mix, F_ring_mix.binds fun _ _ _ _ _ _ us hl => match us, hl with | [_], _ => rfl⟩⟩
  have D__law_purse : Def l.prog w K mg base CX0 1 "_law_purse" ["_law_script"] (sp__law_purse K) := ⟨⟨_, _, ok__law_purse (P := l.prog) (w := w) (base := base) F__law_purse N , PySem.W.mg_of X G a__law_purse, k__law_purse, F__law_purse.binds fun _ _ _ _ _ _ us hl => match us, hl with | [_], _ => rfl⟩⟩
  have D__law_draw : Def l.prog w K mg base CX0 1 "_law_draw" ["_law_purse_here", "_law_out_of"] sp__law_draw := ⟨⟨_, _, ok__law_draw (P := l.prog) (w := w) (base := base) F__law_draw N , PySem.W.mg_of X G a__law_draw, k__law_draw, F__law_draw.binds fun _ _ _ _ _ _ us hl => match us, hl with | [_, _], _ => rfl⟩⟩
  have D__law_whole : Def l.prog w K mg base CX0 1 "_law_whole" ["_law_found"] sp__law_whole := ⟨⟨_, _, ok__law_whole (P := l.prog) (w := w) (base := base) F__law_whole N , PySem.W.mg_of X G a__law_whole, k__law_whole, F__law_whole.binds fun _ _ _ _ _ _ us hl => match us, hl with | [_], _ => rfl⟩⟩
  have D__law_numbers : Def l.prog w K mg base CX0 2 "_law_numbers" ["_law_found", "_law_due"] sp__law_numbers := ⟨⟨_, _, ok__law_numbers (P := l.prog) (w := w) (base := base) F__law_numbers N D__law_whole, PySem.W.mg_of X G a__law_numbers, k__law_numbers, F__law_numbers.binds fun _ _ _ _ _ _ us hl => match us, hl with | [_, _], _ => rfl⟩⟩
  have D__law_counts : Def l.prog w K mg base CX0 2 "_law_counts" ["_law_purse_here", "_law_hosts", "_law_fields"] sp__law_counts := ⟨⟨_, _, ok__law_counts (P := l.prog) (w := w) (base := base) F__law_counts N D__law_draw, PySem.W.mg_of X G a__law_counts, k__law_counts, F__law_counts.binds fun _ _ _ _ _ _ us hl => match us, hl with | [_, _, _], _ => rfl⟩⟩
  have D__law_mix : Def l.prog w K mg base CX0 3 "_law_mix" ["_law_purse_here"] sp__law_mix := ⟨⟨_, _, ok__law_mix (P := l.prog) (w := w) (base := base) F__law_mix N D__law_counts D__law_draw, PySem.W.mg_of X G a__law_mix, k__law_mix, F__law_mix.binds fun _ _ _ _ _ _ us hl => match us, hl with | [_], _ => rfl⟩⟩
  have D__law_copy : Def l.prog w K mg base CX0 1 "_law_copy" ["_law_mix_here"] sp__law_copy := ⟨⟨_, _, ok__law_copy (P := l.prog) (w := w) (base := base) F__law_copy N , PySem.W.mg_of X G a__law_copy, k__law_copy, F__law_copy.binds fun _ _ _ _ _ _ us hl => match us, hl with | [_], _ => rfl⟩⟩
  have D__law_bent : Def l.prog w K mg base CX0 2 "_law_bent" ["_law_purse_here", "_law_mix_here"] sp__law_bent := ⟨⟨_, _, ok__law_bent (P := l.prog) (w := w) (base := base) F__law_bent N D__law_draw, PySem.W.mg_of X G a__law_bent, k__law_bent, F__law_bent.binds fun _ _ _ _ _ _ us hl => match us, hl with | [_, _], _ => rfl⟩⟩
  have D__law_odd : Def l.prog w K mg base CX0 2 "_law_odd" ["_law_purse_here", "_law_mix_here"] sp__law_odd := ⟨⟨_, _, ok__law_odd (P := l.prog) (w := w) (base := base) F__law_odd N D__law_draw, PySem.W.mg_of X G a__law_odd, k__law_odd, F__law_odd.binds fun _ _ _ _ _ _ us hl => match us, hl with | [_, _], _ => rfl⟩⟩
  have D__law_marks : Def l.prog w K mg base CX0 1 "_law_marks" ["_law_caught"] (sp__law_marks a_NoMix) := ⟨⟨_, _, ok__law_marks (P := l.prog) (w := w) (base := base) F__law_marks N Z, PySem.W.mg_of X G a__law_marks, k__law_marks, F__law_marks.binds fun _ _ _ _ _ _ us hl => match us, hl with | [_], _ => rfl⟩⟩
  have D__law_refused : Def l.prog w K mg base CX0 7 "_law_refused" ["_law_mix_here"] sp__law_refused := ⟨⟨_, _, ok__law_refused (P := l.prog) (w := w) (base := base) F__law_refused N D__law_marks D_ring_mix Z, PySem.W.mg_of X G a__law_refused, k__law_refused, F__law_refused.binds fun _ _ _ _ _ _ us hl => match us, hl with | [_], _ => rfl⟩⟩
  have D__law_right : Def l.prog w K mg base CX0 3 "_law_right" ["_law_found", "_law_mix_here"] sp__law_right := ⟨⟨_, _, ok__law_right (P := l.prog) (w := w) (base := base) F__law_right N D__law_numbers D__law_whole, PySem.W.mg_of X G a__law_right, k__law_right, F__law_right.binds fun _ _ _ _ _ _ us hl => match us, hl with | [_, _], _ => rfl⟩⟩
  exact ok_law (P := l.prog) (w := w) (base := base) F_law N D__law_bent D__law_copy D__law_mix D__law_odd D__law_purse D__law_refused D__law_right D_ring_mix
theorem walk {l : PySem.W.OpenLaw} {q : Program} {loose : List Str} {XP : (Str → Option Value) → Heap → Prop} {YP : World → Heap → Prop} {d : DefRec} {K : Params → PySem.W.Frag} (hn : l.most = some 63) (hdf : d.params.defaults = [])
    (hY : ∀ (w : World) (h : Heap), YP w h → (K w.params).In h)
    (F : ∀ (w : World) (mg : Str → Option Value) (fa : Addr) (h : Heap), (K w.params).In h → h.Ns mainGlobals mg → mg d.name = some (.ref fa) →
      ∃ fd : FuncData, (∀ (s : Shared) (u : Value), BindsTo s fd ⟨[u], []⟩ [("_law_script", u)]) ∧ ∀ base : Heap, (K w.params).In base → base.Ns mainGlobals mg → FnOk l.prog w (K w.params) mg base CX0 8 fa fd ["_law_script"] (spLaw (K w.params))) :
    PySem.W.WalkO q loose XP YP l.row.toRowW d [] (fun f vs => PySem.call f vs) :=
  L2.walk_of (n := 63) (k := 8) (x := "_law_script") (CX := fun _ => CX0) (sp := fun w => spLaw (K w.params)) hn (by decide) hdf ⟨rfl, by decide, by decide, rfl⟩ hY F (fun _ _ a ns hl _ hS => ⟨a, ns, rfl, hS, hl, fun _ => rfl⟩) fun _ _ _ _ _ z => z
end G
theorem PySem.W.Fast.tw6571636644197701920 : True := trivial
theorem PySem.W.Fast.tw17865258906043932788 : True := trivial
theorem PySem.W.Fast.tw12820254401852445420 : True := trivial
theorem PySem.W.Fast.tw8182901559585522479 : True := trivial
theorem PySem.W.Fast.tw16610748785825896821 : True := trivial
theorem PySem.W.Fast.tw15564545266756921945 : True := trivial
theorem PySem.W.Fast.tw2276718594837819491 : True := trivial
theorem PySem.W.Fast.tw393907076685478660 : True := trivial
theorem PySem.W.Fast.tw9556536789631882186 : True := trivial
theorem PySem.W.Fast.tw7463204361871235333 : True := trivial
theorem PySem.W.Fast.tw116378171865686182 : True := trivial
theorem PySem.W.Fast.tw15117489537271232516 : True := trivial
theorem PySem.W.Fast.tw18158418836108068013 : True := trivial
theorem PySem.W.Fast.tw6584738887437753665 : True := trivial
theorem PySem.W.Fast.tw10419923242220029631 : True := trivial
theorem PySem.W.Fast.tw5960109505282004321 : True := trivial
theorem PySem.W.Fast.tw15332814035761588155 : True := trivial
theorem PySem.W.Fast.tw8342572602814259357 : True := trivial
theorem PySem.W.Fast.tw11853029402237234361 : True := trivial
theorem PySem.W.Fast.tw14671570739163388405 : True := trivial
open PySem PySem.W PyProof.Rows
set_option maxRecDepth 100000 in
set_option maxHeartbeats 0 in
theorem PySem.Challenge.cw_hostfields_k44_mixes_of_rings_holds : PySem.Challenge.rw_hostfields_k44_mixes_of_rings.Holds := by
  w_on; o_law; k_head; (case hw => w_witness2)
  k_fill
  refine G.walk (l := PySem.Challenge.rw_hostfields_k44_mixes_of_rings) rfl rfl (fun w h Y => PySem.W.kIn_of Y) ?F
  case F =>
    intro w mg fa h KX GG hmg
    refine' G.all_mk KX GG hmg ?e_MOST_HOSTS ?e_MOST_FIELDS ?a_is_whole ?l_is_whole ?c_is_whole ?k_is_whole ?a_is_from ?l_is_from ?c_is_from ?k_is_from ?a_is_between ?l_is_between ?c_is_between ?k_is_between ?a_sends_hosts ?l_sends_hosts ?c_sends_hosts ?k_sends_hosts ?a_is_plan ?l_is_plan ?c_is_plan ?k_is_plan ?a_never_rises ?l_never_rises ?c_never_rises ?k_never_rises ?a_is_size ?l_is_size ?c_is_size ?k_is_size ?a_is_part ?l_is_part ?c_is_part ?k_is_part ?a_is_mix ?l_is_mix ?c_is_mix ?k_is_mix ?a_ring_of ?l_ring_of ?c_ring_of ?k_ring_of ?a_ring_mix ?l_ring_mix ?c_ring_mix ?k_ring_mix ?a__law_purse ?l__law_purse ?c__law_purse ?k__law_purse ?a__law_draw ?l__law_draw ?c__law_draw ?k__law_draw ?a__law_whole ?l__law_whole ?c__law_whole ?k__law_whole ?a__law_numbers ?l__law_numbers ?c__law_numbers ?k__law_numbers ?a__law_counts ?l__law_counts ?c__law_counts ?k__law_counts ?a__law_mix ?l__law_mix ?c__law_mix ?k__law_mix ?a__law_copy ?l__law_copy ?c__law_copy ?k__law_copy ?a__law_bent ?l__law_bent ?c__law_bent ?k__law_bent ?a__law_odd ?l__law_odd ?c__law_odd ?k__law_odd ?a__law_marks ?l__law_marks ?c__law_marks ?k__law_marks ?a__law_refused ?l__law_refused ?c__law_refused ?k__law_refused ?a__law_right ?l__law_right ?c__law_right ?k__law_right ?a_law ?l_law ?c_law ?k_law ?z_ValueError ?z_all ?z_bool ?z_int ?z_isinstance ?z_len ?z_list ?z_min ?z_range ?z_str ?z_sum ?z_tuple ?z_zip ?e_HostError ?kk_HostError ?tt_HostError ?nn_HostError ?e_NoBattle ?kk_NoBattle ?tt_NoBattle ?nn_NoBattle ?e_NoPlan ?kk_NoPlan ?tt_NoPlan ?nn_NoPlan ?e_NoMix ?kk_NoMix ?tt_NoMix ?nn_NoMix ?e_NoStream ?kk_NoStream ?tt_NoStream ?nn_NoStream ?e_NoSide ?kk_NoSide ?tt_NoSide ?nn_NoSide ?e_NoAlike ?kk_NoAlike ?tt_NoAlike ?nn_NoAlike ?e_NoNumber ?kk_NoNumber ?tt_NoNumber ?nn_NoNumber ?e_TooGreat ?kk_TooGreat ?tt_TooGreat ?nn_TooGreat ?e_NoEven ?kk_NoEven ?tt_NoEven ?nn_NoEven ?e_NoText ?kk_NoText ?tt_NoText ?nn_NoText ?e_NoRow ?kk_NoRow ?tt_NoRow ?nn_NoRow ?e_NoName ?kk_NoName ?tt_NoName ?nn_NoName ?e_NoPlace ?kk_NoPlace ?tt_NoPlace ?nn_NoPlace ?bb_HostError ?x_NoMix ?f1_NoMix ?f2_NoMix ?f3_NoMix ?f4_NoMix ?f5_NoMix ?f6_NoMix ?s_NoMix_HostError ?s_NoMix_NoBattle ?s_NoMix_NoPlan ?s_NoMix_NoMix ?s_NoMix_NoStream ?s_NoMix_NoSide ?s_NoMix_NoAlike ?s_NoMix_NoNumber ?s_NoMix_TooGreat ?s_NoMix_NoEven ?s_NoMix_NoText ?s_NoMix_NoRow ?s_NoMix_NoName ?s_NoMix_NoPlace
    (case e_MOST_HOSTS => k_is)
    (case e_MOST_FIELDS => k_is)
    (case a_is_whole => k_is)
    (case l_is_whole => k_is)
    (case c_is_whole => k_is)
    (case k_is_whole => k_is)
    (case a_is_from => k_is)
    (case l_is_from => k_is)
    (case c_is_from => k_is)
    (case k_is_from => k_is)
    (case a_is_between => k_is)
    (case l_is_between => k_is)
    (case c_is_between => k_is)
    (case k_is_between => k_is)
    (case a_sends_hosts => k_is)
    (case l_sends_hosts => k_is)
    (case c_sends_hosts => k_is)
    (case k_sends_hosts => k_is)
    (case a_is_plan => k_is)
    (case l_is_plan => k_is)
    (case c_is_plan => k_is)
    (case k_is_plan => k_is)
    (case a_never_rises => k_is)
    (case l_never_rises => k_is)
    (case c_never_rises => k_is)
    (case k_never_rises => k_is)
    (case a_is_size => k_is)
    (case l_is_size => k_is)
    (case c_is_size => k_is)
    (case k_is_size => k_is)
    (case a_is_part => k_is)
    (case l_is_part => k_is)
    (case c_is_part => k_is)
    (case k_is_part => k_is)
    (case a_is_mix => k_is)
    (case l_is_mix => k_is)
    (case c_is_mix => k_is)
    (case k_is_mix => k_is)
    (case a_ring_of => k_is)
    (case l_ring_of => k_is)
    (case c_ring_of => k_is)
    (case k_ring_of => k_is)
    (case a_ring_mix => k_is)
    (case l_ring_mix => k_is)
    (case c_ring_mix => k_is)
    (case k_ring_mix => k_is)
    (case a__law_purse => k_is)
    (case l__law_purse => k_is)
    (case c__law_purse => k_is)
    (case k__law_purse => k_is)
    (case a__law_draw => k_is)
    (case l__law_draw => k_is)
    (case c__law_draw => k_is)
    (case k__law_draw => k_is)
    (case a__law_whole => k_is)
    (case l__law_whole => k_is)
    (case c__law_whole => k_is)
    (case k__law_whole => k_is)
    (case a__law_numbers => k_is)
    (case l__law_numbers => k_is)
    (case c__law_numbers => k_is)
    (case k__law_numbers => k_is)
    (case a__law_counts => k_is)
    (case l__law_counts => k_is)
    (case c__law_counts => k_is)
    (case k__law_counts => k_is)
    (case a__law_mix => k_is)
    (case l__law_mix => k_is)
    (case c__law_mix => k_is)
    (case k__law_mix => k_is)
    (case a__law_copy => k_is)
    (case l__law_copy => k_is)
    (case c__law_copy => k_is)
    (case k__law_copy => k_is)
    (case a__law_bent => k_is)
    (case l__law_bent => k_is)
    (case c__law_bent => k_is)
    (case k__law_bent => k_is)
    (case a__law_odd => k_is)
    (case l__law_odd => k_is)
    (case c__law_odd => k_is)
    (case k__law_odd => k_is)
    (case a__law_marks => k_is)
    (case l__law_marks => k_is)
    (case c__law_marks => k_is)
    (case k__law_marks => k_is)
    (case a__law_refused => k_is)
    (case l__law_refused => k_is)
    (case c__law_refused => k_is)
    (case k__law_refused => k_is)
    (case a__law_right => k_is)
    (case l__law_right => k_is)
    (case c__law_right => k_is)
    (case k__law_right => k_is)
    (case a_law => k_is)
    (case l_law => k_is)
    (case c_law => k_is)
    (case k_law => k_is)
    (case z_ValueError => k_is)
    (case z_all => k_is)
    (case z_bool => k_is)
    (case z_int => k_is)
    (case z_isinstance => k_is)
    (case z_len => k_is)
    (case z_list => k_is)
    (case z_min => k_is)
    (case z_range => k_is)
    (case z_str => k_is)
    (case z_sum => k_is)
    (case z_tuple => k_is)
    (case z_zip => k_is)
    (case e_HostError => k_is)
    (case kk_HostError => k_is)
    (case tt_HostError => k_is)
    (case nn_HostError => k_is)
    (case e_NoBattle => k_is)
    (case kk_NoBattle => k_is)
    (case tt_NoBattle => k_is)
    (case nn_NoBattle => k_is)
    (case e_NoPlan => k_is)
    (case kk_NoPlan => k_is)
    (case tt_NoPlan => k_is)
    (case nn_NoPlan => k_is)
    (case e_NoMix => k_is)
    (case kk_NoMix => k_is)
    (case tt_NoMix => k_is)
    (case nn_NoMix => k_is)
    (case e_NoStream => k_is)
    (case kk_NoStream => k_is)
    (case tt_NoStream => k_is)
    (case nn_NoStream => k_is)
    (case e_NoSide => k_is)
    (case kk_NoSide => k_is)
    (case tt_NoSide => k_is)
    (case nn_NoSide => k_is)
    (case e_NoAlike => k_is)
    (case kk_NoAlike => k_is)
    (case tt_NoAlike => k_is)
    (case nn_NoAlike => k_is)
    (case e_NoNumber => k_is)
    (case kk_NoNumber => k_is)
    (case tt_NoNumber => k_is)
    (case nn_NoNumber => k_is)
    (case e_TooGreat => k_is)
    (case kk_TooGreat => k_is)
    (case tt_TooGreat => k_is)
    (case nn_TooGreat => k_is)
    (case e_NoEven => k_is)
    (case kk_NoEven => k_is)
    (case tt_NoEven => k_is)
    (case nn_NoEven => k_is)
    (case e_NoText => k_is)
    (case kk_NoText => k_is)
    (case tt_NoText => k_is)
    (case nn_NoText => k_is)
    (case e_NoRow => k_is)
    (case kk_NoRow => k_is)
    (case tt_NoRow => k_is)
    (case nn_NoRow => k_is)
    (case e_NoName => k_is)
    (case kk_NoName => k_is)
    (case tt_NoName => k_is)
    (case nn_NoName => k_is)
    (case e_NoPlace => k_is)
    (case kk_NoPlace => k_is)
    (case tt_NoPlace => k_is)
    (case nn_NoPlace => k_is)
    (case bb_HostError => k_is)
    (case x_NoMix => k_exc)
    (case f1_NoMix => k_is)
    (case f2_NoMix => k_is)
    (case f3_NoMix => k_is)
    (case f4_NoMix => k_is)
    (case f5_NoMix => k_is)
    (case f6_NoMix => k_is)
    (case s_NoMix_HostError => k_is)
    (case s_NoMix_NoBattle => k_is)
    (case s_NoMix_NoPlan => k_is)
    (case s_NoMix_NoMix => k_is)
    (case s_NoMix_NoStream => k_is)
    (case s_NoMix_NoSide => k_is)
    (case s_NoMix_NoAlike => k_is)
    (case s_NoMix_NoNumber => k_is)
    (case s_NoMix_TooGreat => k_is)
    (case s_NoMix_NoEven => k_is)
    (case s_NoMix_NoText => k_is)
    (case s_NoMix_NoRow => k_is)
    (case s_NoMix_NoName => k_is)
    (case s_NoMix_NoPlace => k_is)
